import PyProof.Rows.All
import Wide.All
import OpenK.AllK
import Wide.FinOn
import Lean
import PyProof.EqAt
import PyProof.EqKinds
import PyProof.TupleCall
import PySem.Challenge.RW_ringmeet_k29_walks_by_beats
set_option Elab.async false
set_option compiler.extract_closed false
set_option linter.all false
set_option maxRecDepth 100000
set_option maxHeartbeats 4000000
open List renaming getElem?_eq_some_iff → gE1, getElem?_append_left → gL1, getElem?_eq_getElem → gG1, mem_of_getElem? → gM1, getElem?_set_ne → gS1, length_append → lA1, length_map → lM1, getElem?_cons_succ → gC1, mem_cons_of_mem → mC1, mem_cons_self → mS1, getElem?_map → gP1, getElem?_append_right → gR1, size_toArray → sT1, map_cons → mP1, length_cons → lC1, length_replicate → lR1, mem_append_right → mA1
open Option renaming bind_eq_some_iff → oB1, map_eq_some_iff → oM1, bind_some → oS1, map_some → oP1
open Nat renaming le_refl → nR1, lt_of_lt_of_le → nL1, ne_of_lt → nN1, ne_of_gt → nG1
open Bool renaming and_eq_true → bA1, false_eq_true → bF1
open Array renaming getElem?_eq_getElem → aG1, getElem?_toList → aT1
open PySem.W renaming Frag → Fg1, nsIn → wN1, keepIn → wK1, codeIn → wC1, fnOf → wF1, mg_of → wM1
open PySem.Heap renaming get?_push_of_some → hP1, get?_push_size → hS1, lt_size → hL1, size_push → hZ1, get?_update_ne → hU1, get?_update_self → hW1
open PySem renaming wpAny_bind → wB1, wpAny_pure → wP1, wpAny_setField_rec → wS1, wpAny_newObj_type → wO1, codeAny_builtin → wD1, wpAny_call_entry → wE1
open List renaming take_nil → av, drop_nil → aw, mem_filter → aA, mem_range → aB, filterMap_cons → aE, mem_cons → aF, mem_append → aG, mem_append_left → aH, getElem?_set_self → aI, mem_filterMap → aL, append_nil → aM, nodup_cons → aN, replicate → aO, length_take → aQ, getElem?_replicate → aR, getElem?_take_of_lt → aS, take_sublist → aT, filterMap_map → aU, length_drop → aV, length_set → aW, length_singleton → aY, map_nil → aZ, find?_cons → bc, any_cons → bd, length_nil → bf, cons_append → bj, prefix_rfl → bn, reverse_cons → bo, nodup_nil → bq, getElem?_of_mem → br, map_map → bv, prefix_append → bw, nodup_append → bB, all_eq_true → bD, drop_drop → bF, forIn_cons → bG, lookup_cons → bH, append_assoc → bI, getD_eq_getElem?_getD → bL, zipIdx_cons → bM, not_mem_nil → bN, all_cons → bR, any_eq_true → bT, getElem_mem → bU, zip_cons_cons → bV, drop_eq_getElem_cons → bW, cons_prefix_cons → bY, drop_zero → bZ, take_length → b4, ext_getElem? → b5, getElem?_eq_none → b6, findIdx?_eq_some_iff_getElem → b8, take_of_length_le → ca, foldl_cons → cb, length_reverse → cc, pairwise_cons → cf, mem_map → ci, getElem?_toArray → cm, mapM_toArray → cq, all_toArray → cr, length_eq_zero_iff → cu, pairwise_iff_getElem → cw, pairwise_append → cC, getElem?_drop → cD, drop_sublist → cE, pairwise_lt_range → cF, map_append → cG, take_succ → cH, length_eraseIdx_of_lt → cJ, take_append_drop → cK, eraseIdx_eq_take_drop_succ → cM, getElem?_range → cN, mem_of_mem_take → cO, mem_of_mem_drop → cP, contains_iff_mem → cR, forall_mem_nil → cS, perm_append_comm → cT, take_succ_cons → cU, take_zero → cV, extract_eq_take_drop → cX, mem_singleton → cY, mem_reverse → cZ, nil_append → c4, set_append_right → c6, set_cons_zero → c7, flatten_cons → c8, set_cons_succ → c9, length_pos_iff → da, flatten_append → db, take_left → de, map_congr_left → dg, filter_cons → di, pairwise_map → dj, getElem?_cons_zero → dk, length_filter_le → dq, zipWith → dw, zipWith_cons_cons → dy, all_append → dz, length_range → dA
open Option renaming some → ay, isSome_iff_exists → aP, isSome_map → bg, getD_some → b9
open Nat renaming lt_irrefl → az, le_trans → aC, le_of_lt → aD, le_succ → aX, le_of_not_lt → a0, lt_trans → bh, zero_le → bi, add_assoc → bm, le_add_right → bt, add_sub_cancel_left → bu, not_lt_zero → bA, min_eq_left → bC, lt_succ_self → bE, lt_of_le_of_lt → bJ, le_of_succ_le → bK, zero_add → bP, lt_or_ge → bX, lt_succ_of_lt → cI, sub_self → cQ, mul_le_mul_right → dr
open Array renaming length_toList → aJ, perm_iff_toList_perm → cg, mem_toList_iff → cj, mem_of_getElem? → ck, getElem?_eq_none → cv, toList_append → cy, toList_push → cA, toList_extract → cB, getElem_mem → cW, toList_reverse → c5
open Bool renaming false_ne_true → aK, and_true → bO, or_eq_true → bQ, eq_iff_iff → bS, not_true → b7, not_false → cp, and_self → df
open PySem renaming Value → dB, Shared → dD, Addr → dE, Program → dF, Around → dG, World → dH, mainGlobals → dI, starEach → dJ, sizeLine → dL, wpAny → dM, Heap → dN, FuncData → dP, Stmt → dQ, Scope → dR
open Option renaming some → Z, none → Y
open Bool renaming true → M, false → J
theorem Mi.O{α}{a:α}:a=a:=rfl
open Mi (O)
theorem Mi.al{p:Prop}[Decidable p]:(decide p=true)=p:=decide_eq_true_eq
theorem Mi.ak{c:Prop}{h:Decidable c}(a:c){α:Sort _}{t e:α}:ite c t e=t:=if_pos a
theorem Mi.aj{c:Prop}{h:Decidable c}(a:¬c){α:Sort _}{t e:α}:ite c t e=e:=if_neg a
theorem Mi.ai{p:Prop}[Decidable p]:¬p→decide p=false:=decide_eq_false
theorem Mi.ah{p:Prop}[Decidable p]:p→decide p=true:=decide_eq_true
open List renaming range → af
open Mi (al ak aj ai ah)
noncomputable section
namespace L2
open PySem PySem.Spec PyProof.Rows
abbrev Key:=Sum Int Str
noncomputable def oO:Key->dB->Bool
 | .inl k,v=>Value.isInt k v
 | .inr x,v=>Value.isStrOf x v
noncomputable def Ir(w:dH):Key->Int
 | .inl k=>hashInt k
 | .inr x=>hashStr w x
theorem eY:∀{k:Key} {v:dB},oO k v=M->(∃i t,k=Sum.inl i/\v=Value.int i t)\/(∃x t,k=Sum.inr x/\v=Value.str x t)
 | .inl i,v,h=>by
  obtain⟨t,e⟩:=Value.isInt_shape (k:=i) (v:=v) h;exact .inl ⟨i,t,O,e⟩
 | .inr x,v,h=>by
  obtain⟨t,e⟩:=Value.isStrOf_shape (x:=x) (v:=v) h;exact .inr ⟨x,t,O,e⟩
theorem wQ(i:Int)(t:Tok):oO (.inl i) (.int i t)=M:=by simp[oO,Value.isInt]
theorem wP(x:Str)(t:Tok):oO (.inr x) (.str x t)=M:=by simp[oO,Value.isStrOf]
theorem ET(a b:Int):decide ((Sum.inl a:Key)=Sum.inl b)=(a == b):=by
 by_cases e:a=b
 ·subst e;simp
 ·have h:¬ (Sum.inl a:Key)=Sum.inl b:=λq=>e (Sum.inl.inj q);rw[ai h];exact(beq_eq_false_iff_ne.mpr e).symm
theorem EO(a b:Str):decide ((Sum.inr a:Key)=Sum.inr b)=decide (a=b):=by
 by_cases e:a=b
 ·subst e;simp
 ·have h:¬ (Sum.inr a:Key)=Sum.inr b:=λq=>e (Sum.inr.inj q);rw[ai h,ai e]
theorem ES(a:Int)(b:Str):decide ((Sum.inl a:Key)=Sum.inr b)=J:=ai (λq=>nomatch q)
theorem EQ(a:Str)(b:Int):decide ((Sum.inr a:Key)=Sum.inl b)=J:=ai (λq=>nomatch q)
noncomputable def eW(prog:dF)(w:dH):PySem.KeyKind prog w Key where
 is:=oO
 hash:=Ir w
 inj:=λv a b ha hb=>by
  rcases eY ha with⟨i,t,rfl,rfl⟩|⟨x,t,rfl,rfl⟩
  ·rcases eY hb with⟨j,u,rfl,e⟩|⟨y,u,rfl,e⟩
   ·injection e with e1 _;rw[e1]
   ·exact nomatch e
  ·rcases eY hb with⟨j,u,rfl,e⟩|⟨y,u,rfl,e⟩
   ·exact nomatch e
   ·injection e with e1 _;rw[e1]
 byValue:=λk v h=>by
  rcases eY h with⟨i,t,rfl,rfl⟩|⟨x,t,rfl,rfl⟩<;>rfl
 pyHash:=λhv h=>by
  rcases eY hv with⟨i,t,rfl,rfl⟩|⟨x,t,rfl,rfl⟩
  ·exact wpAny_pyHash_int h
  ·exact wpAny_pyHash_str h
 eqBool:=λhu hv h=>by
  rcases eY hu with⟨i,t,rfl,rfl⟩|⟨x,t,rfl,rfl⟩
  ·rcases eY hv with⟨j,u,rfl,rfl⟩|⟨y,u,rfl,rfl⟩
   ·rw[ET]at h;exact wpAny_eqBool_int h
   ·rw[ES]at h;exact SeqAt.EqAt.int_str i t y u _ _ _ _ h
  ·rcases eY hv with⟨j,u,rfl,rfl⟩|⟨y,u,rfl,rfl⟩
   ·rw[EQ]at h;exact SeqAt.EqAt.str_int x t j u _ _ _ _ h
   ·rw[EO]at h;exact wpAny_eqBool_str h
 «strs» :=λk x t v h=>by
  rcases eY h with⟨i,u,rfl,e⟩|⟨y,u,rfl,e⟩
  ·exact nomatch e
  ·injection e with e1 _;subst e1;cases v<;>rfl
theorem rZ(prog:dF)(w:dH)(i:Int)(t:Tok):(eW prog w).is (.inl i) (.int i t)=M:=wQ i t
theorem rY(prog:dF)(w:dH)(x:Str)(t:Tok):(eW prog w).is (.inr x) (.str x t)=M:=wP x t
end L2
namespace L2
open PySem PySem.Spec PyProof.Rows
inductive V where
 |non|bl (b:Bool)|int (i:Int)|str (x:Str)|byt (b:Array UInt8)|flt (b:UInt64)|ref (a:dE)|ty (n:String)
 deriving DecidableEq
def d7:V->dB->Prop
 | .non,u=>u=Value.none
 | .bl b,u=>u=Value.bool b
 | .int i,u=>∃t,u=Value.int i t
 | .str x,u=>∃t,u=Value.str x t
 | .byt b,u=>∃t,u=Value.bytes b t
 | .flt b,u=>∃t,u=Value.float b t
 | .ref a,u=>u=Value.ref a
 | .ty n,u=>u=Value.type n
abbrev ei:List V->List dB->Prop:=Paired d7
theorem ei.length{xs:List V}{a:List dB}(r:ei xs a):xs.length=a.length:=Paired.length r
theorem ei.get:∀{xs:List V} {a:List dB} {i:Nat} {x:V},ei xs a->xs[i]?=Z x -> ∃u,a[i]?=Z u/\d7 x u:=by
 intro xs a i x h e
 induction h generalizing i with
 |nil=>cases e
 |cons r t ih=>cases i with
  |zero=>cases e;exact⟨_,O,r⟩
  |succ i=>exact ih (i:=i) e
theorem ei.set{x:V}{u:dB}(r:d7 x u):∀{xs:List V} {a:List dB} (i:Nat),ei xs a->ei (xs.set i x) (a.set i u):=by
 intro xs a i h
 induction h generalizing i with
 |nil=>exact .nil
 |cons q t ih=>cases i with
  |zero=>exact .cons r t
  |succ i=>exact .cons q (ih i)
theorem ei.append:∀{xs ys:List V} {a ws:List dB},ei xs a->ei ys ws->ei (xs++ys) (a++ws):=by
 intro xs ys a ws h s
 induction h with
 |nil=>exact s
 |cons r t ih=>exact .cons r ih
theorem ei.take:∀{xs:List V} {a:List dB} (n:Nat),ei xs a->ei (xs.take n) (a.take n):=by
 intro xs a n h
 induction h generalizing n with
 |nil=>rw[av,av];exact .nil
 |cons r t ih=>cases n with
  |zero=>exact .nil
  |succ n=>exact .cons r (ih n)
theorem ei.drop:∀{xs:List V} {a:List dB} (n:Nat),ei xs a->ei (xs.drop n) (a.drop n):=by
 intro xs a n h
 induction h generalizing n with
 |nil=>rw[aw,aw];exact .nil
 |cons r t ih=>cases n with
  |zero=>exact .cons r t
  |succ n=>exact ih n
def l6:Option V->Option dB->Prop
 |some v,Z u=>d7 v u
 |none,Y=>True
 |_,_=>False
def KV{κ:Type}:List (κ×V)->List (κ×dB)->Prop:=Paired λ(p:κ×V) (q:κ×dB)=>p.1=q.1/\d7 p.2 q.2
noncomputable def kV:Key->V
 | .inl i=>.int i
 | .inr x=>.str x
inductive HO where
 /-- a list -/
 |lst (xs:List V)
 /-- a tuple (never changes) -/
 |tup (xs:List V)
 /-- a dict whose keys are ints and texts; one whose keys are tuples of ints and texts (the empty one is both) -/
 |dK (kvs:List (Key×V))|dT (kvs:List (List Key×V))
 /-- a set of ints: its members, its size -/
 |set (S:Int->Bool) (n:Nat)
 /-- an instance of the class at C, its dict at dx, its attributes -/
 |ins (C dx:dE) (fs:List (Str×V))
 /-- the dict of the instance at x -/
 |own (x:dE)
 /-- the dict of an exception -/
 |xd (fs:List (Str×V))
 /-- a bound method, f of x -/
 |met (f x:dE)
 /-- a range object lo, lo + 1, .. below hi -/
 |rng (lo hi:Int)
 /-- a thing that is known to the object (the script; a dict while a loop walks it): read, never written while it is so -/
 |frz (o:Obj) (u:HO)
 /-- a code object's table -/
 |tbl (ps:Array dB)
 /-- any other thing, by what is true of its one object (a def of one's own: SetO a S n := HO.ext λh => ..) -/
 |ext (φ:dN->Prop)
abbrev Hp:=dE->Option HO
noncomputable def upd(H:Hp)(a:dE)(o:HO):Hp:=λb=>if b=a then Z o else H b
theorem d4{H:Hp}{a:dE}{o:HO}:upd H a o a=Z o:=by unfold upd;rw[ak O]
theorem dY{H:Hp}{a b:dE}{o:HO}(h:b≠a):upd H a o b=H b:=by unfold upd;rw[aj h]
theorem Gn{H:Hp}{a b:dE}{o u:HO}(h:H a=Z o)(h':H b=Z u)(d:o≠u):a≠b:=by
 intro e;subst e;rw[h]at h';exact d (Option.some.inj h')
theorem eD{H:Hp}{a b:dE}{o:HO}(h:H a=Z o)(h':H b=Y):a≠b:=by
 intro e;subst e;rw[h]at h';cases h'
section
variable(P:dF) (w:dH)
def eO(H:Hp)(h:dN)(a:dE):HO->Prop
 | .lst xs=>xs.length<=dL /\ ∃(its:List dB) (n:Nat),ei xs its/\h.get? a=Z {cls:=.type "list",data:=.seq its.toArray n}
 | .tup xs=>xs.length<=dL /\ ∃its:List dB,ei xs its/\IsTup h a its.toArray
 | .dK kvs=>kvs.length<=dL/\(a == sysModules)=J /\ ∃vs,KV kvs vs/\h.DictOf (eW P w) a vs
 | .dT kvs=>kvs.length<=dL/\(a == sysModules)=false /\ ∃ xs:List (List Key×dE×dB),
   Paired (λ(p:List Key×V) (q:List Key×dE×dB)=>p.1=q.1/\H q.2.1=Z (.tup (p.1.map kV))/\d7 p.2 q.2.2) kvs xs /\
   ∃o es ep,h.get? a=Z o/\o.ExactDict/\o.data = .dict es ep/\es.toList=xs.map (entryOfKey (tupleKind (eW P w)))/\(xs.map (·.1)).Nodup
 | .set S n=>h.SetOf (intKind P w) a S n
 | .ins C dx fs=>H dx=some (.own a)/\fs.length<=1000/\dx≠a/\h.get? a=some (PySem.W.instObj C dx) /\
   ∃mA,h.Ns1 dx mA/\(∀f,l6 (fs.lookup f) (mA f))/\PySem.Within mA (fs.map (·.1))
 | .own _=>∃o,h.get? a=Z o
 | .xd fs=>∃mA,h.Ns1 a mA /\ ∀f,l6 (fs.lookup f) (mA f)
 | .rng lo hi=>∃t u v,h.get? a=Z {cls:=.type "range",data:=.fields #[.int lo t,.int hi u,.int 1 v]}
 | .frz o u=>h.get? a=Z o/\eO H h a u
 | .tbl ps=>h.get? a=Z {cls:=.none,data:=.fields ps}
 | .met f x=>h.get? a=Z (PySem.W.methodObj (.ref f) (.ref x))
 | .ext φ=>φ h/\(∃o,h.get? a=Z o) /\ ∀h1 h2:dN,φ h1->(∀o,h1.get? a=Z o->h2.get? a=Z o)->φ h2
def kU(H:Hp)(h:dN):Prop:=∀a o,H a=Z o->eO P w H h a o
end
section
variable{P:dF}{w:dH}{H H':Hp}{h h':dN}{a:dE}{o:HO}
theorem eO.lt(x:eO P w H h a o):a<h.objs.size:=by
 cases o with
 |lst xs=>obtain⟨_,_,_,_,e⟩:=x;exact hL1 e
 |tup xs=>obtain⟨_,_,_,p⟩:=x;exact p.lt
 |dK kvs=>obtain⟨_,_,_,_,o,_,_,e,_⟩:=x;exact hL1 e
 |dT kvs=>obtain⟨_,_,_,_,o,_,_,e,_⟩:=x;exact hL1 e
 |set S n=>obtain⟨o,_,_,_,e,_⟩:=x;exact hL1 e
 |ins C dx fs=>obtain⟨_,_,_,e,_⟩:=x;exact hL1 e
 |own y=>obtain⟨_,e⟩:=x;exact hL1 e
 |xd fs=>obtain⟨_,⟨_,_,_,e,_⟩,_⟩:=x;exact hL1 e
 |rng lo hi=>obtain⟨_,_,_,e⟩:=x;exact hL1 e
 |frz b u=>obtain⟨e,_⟩:=x;exact hL1 e
 |tbl ps=>exact hL1 (show h.get? a=Z _ from x)
 |met f y=>exact hL1 (show h.get? a=Z _ from x)
 |ext φ=>obtain⟨_,⟨_,e⟩,_⟩:=x;exact hL1 e
theorem Paired.mapP{α β:Type}{F G:α->β->Prop}:∀{l₁:List α} {l₂:List β},Paired F l₁ l₂->(∀a b,F a b->G a b)->Paired G l₁ l₂:=by
 intro a b h f
 induction h with
 |nil=>exact .nil
 |cons r t ih=>exact .cons (f _ _ r) ih
theorem eO.stay(x:eO P w H h a o)(k:∀ b u,(b=a\/H b=Z (.own a))->h.get? b=Z u->h'.get? b=Z u)(ho:∀b,H b=Z (.own a)->H' b=Z (.own a))(ht:∀b xs,H b=Z (.tup xs)->H' b=Z (.tup xs)):eO P w H' h' a o:=by
 induction o with
 |lst xs=>obtain⟨z,i,n,r,e⟩:=x;exact⟨z,i,n,r,k _ _ (.inl O) e⟩
 |tup xs=>obtain⟨z,i,r,g,e,c⟩:=x;exact⟨z,i,r,g,k _ _ (.inl O) e,c⟩
 |dK kvs=>obtain⟨z,y,vs,r,g,es,ep,e,c⟩:=x;exact⟨z,y,vs,r,g,es,ep,k _ _ (.inl O) e,c⟩
 |dT kvs=>
  obtain⟨z,y,xs,r,g,es,ep,e,c⟩:=x;exact⟨z,y,xs,Paired.mapP r λp q z=>⟨z.1,ht _ _ z.2.1,z.2.2⟩,g,es,ep,k _ _ (.inl O) e,c⟩
 |set S n=>obtain⟨g,es,ep,t,e,c⟩:=x;exact⟨g,es,ep,t,k _ _ (.inl O) e,c⟩
 |ins C dx fs=>
  obtain⟨d,z,ne,e,mA,⟨j,es,ep,l,c⟩,r⟩:=x;exact⟨ho _ d,z,ne,k _ _ (.inl O) e,mA,⟨j,es,ep,k _ _ (.inr d) l,c⟩,r⟩
 |own y=>obtain⟨g,e⟩:=x;exact⟨g,k _ _ (.inl O) e⟩
 |xd fs=>obtain⟨mA,⟨j,es,ep,e,c⟩,r⟩:=x;exact⟨mA,⟨j,es,ep,k _ _ (.inl O) e,c⟩,r⟩
 |rng lo hi=>obtain⟨t,u,v,e⟩:=x;exact⟨t,u,v,k _ _ (.inl O) e⟩
 |frz g u ih=>obtain⟨e,q⟩:=x;exact⟨k _ _ (.inl O) e,ih q⟩
 |tbl ps=>
  have e:h.get? a=Z {cls:=.none,data:=.fields ps}:=x;show h'.get? a=Z {cls:=.none,data:=.fields ps};exact k a _ (.inl O) e
 |met f y=>
  have e:h.get? a=Z (PySem.W.methodObj (.ref f) (.ref y)):=x;show h'.get? a=Z (PySem.W.methodObj (.ref f) (.ref y));exact k a _ (.inl O) e
 |ext φ=>obtain⟨p,⟨o,e⟩,st⟩:=x;exact⟨st _ _ p λo q=>k _ _ (.inl O) q,⟨o,k _ _ (.inl O) e⟩,st⟩
theorem kU.lt(x:kU P w H h)(e:H a=Z o):a<h.objs.size:=(x a o e).lt
theorem kU.fresh(x:kU P w H h)(e:h.objs.size<=a):H a=Y:=by
 cases q:H a with
 |none=>rfl
 |some u=>exact absurd (nL1 (x.lt q) e) (az _)
theorem kU.kept(x:kU P w H h)(k:∀b u,h.get? b=Z u->h'.get? b=Z u):kU P w H h':=λa o e=>
 (x a o e).stay (λb u _ q=>k b u q) (λ_ q=>q) λ_ _ q=>q
theorem kU.laid(x:kU P w H h)(k:∀b u,h.get? b=Z u->h'.get? b=Z u)(hp:h.objs.size<=a)(new:eO P w (upd H a o) h' a o):kU P w (upd H a o) h':=λb u e=>by
 have f:=x.fresh hp;by_cases d:b=a
 ·subst d;rw[d4]at e;cases e;exact new
 ·rw[dY d]at e;exact(x b u e).stay (λc v _ q=>k c v q) (λc q=>by rw[dY (eD q f)];exact q) λc xs q=>by rw[dY (eD q f)];exact q
end
def Rd(H:Hp)(a:dE)(u:HO):Prop:=H a=Z u \/ ∃o,H a=Z (.frz o u)
theorem Rd.ok{P:dF}{w:dH}{H:Hp}{h:dN}{a:dE}{u:HO}(r:Rd H a u)(x:kU P w H h):eO P w H h a u:=by
 rcases r with r|⟨o,r⟩
 ·exact x a u r
 ·obtain⟨_,q⟩:=x a _ r;exact q
def Mut:Option HO->Prop
 |some (.lst _)=>True
 |some (.dK _)=>True
 |some (.dT _)=>True
 |some (.set _ _)=>True
 |some (.ins _ _ _)=>True
 |some (.ext _)=>True
 |_=>False
section
variable{P:dF}{w:dH}{H:Hp}{h h':dN}{x e:dE}{o':HO}
theorem kU.write(ok:kU P w H h)(mu:Mut (H x))(he:e=x\/H e=Z (.own x))(k:∀ b u,b≠e->h.get? b=Z u->h'.get? b=Z u)(i:∃ u,h'.get? e=Z u)(new:eO P w (upd H x o') h' x o'):kU P w (upd H x o') h':=λb u q=>by
 have d:∀c y,H c=Z (.own y)->c≠x:=λc y r z=>by subst z;rw[r]at mu;exact mu
 have f:∀c xs,H c=Z (.tup xs)->c≠x:=λc xs r z=>by subst z;rw[r]at mu;exact mu
 by_cases g:b=x
 ·subst g;rw[d4]at q;cases q;exact new
 ·rw[dY g]at q;by_cases a:b=e
  ·have j:H b=some (.own x):=by
    rcases he with z|z
    ·exact absurd (a.trans z) g
    ·rw[a];exact z
   rw[q]at j;cases j;obtain⟨v,l⟩:=i;exact⟨v,by rw[a];exact l⟩
  ·refine(ok b u q).stay (λc v hc r=>k c v ?_ r) (λc r=>by rw[dY (d c b r)];exact r) λc xs r=>by rw[dY (f c xs r)];exact r
   rcases hc with rfl|hc
   ·exact a
   ·rintro rfl;rcases he with z|z
    ·exact d c b hc z
    ·rw[hc]at z;cases z;exact g O
end
structure Un (fs ex:List dE)(H H':Hp)(h h':dN):Prop where
 keep:∀b o,h.get? b=some o->H b=none->b∉fs->b∉ex->h'.get? b=some o
 slot:∀b o,h.get? b=some o->H b=none->b∈fs->b∉ex -> ∃sl,h'.get? b=some {o with slots:=sl}
 free:∀b o,h.get? b=some o->H b=none->b∉ex->H' b=none
 there:∀b o,h.get? b=some o->b∉ex -> ∃o',h'.get? b=some o'
 tups:∀b xs,H b=some (.tup xs)->H' b=some (.tup xs)
 frzs:∀b o u,H b=some (.frz o u)->H' b=some (.frz o u)
 tbls:∀b ps,H b=some (.tbl ps) -> ∃more,H' b=some (.tbl (ps++more))
section
variable{fs fs' ex ex':List dE}{H H1 H2:Hp}{h h1 h2 h':dN}{a x e:dE}{o:HO}
theorem Un.any(u:Un fs ex H H1 h h1){b:dE}{a:Obj}(q:h.get? b=Z a)(n:H b=Y)(hx:b∉ex):∃d,h1.get? b=Z {a with slots:=d}:=by
 by_cases c:b∈fs
 ·exact u.slot b a q n c hx
 ·exact⟨a.slots,u.keep b a q n c hx⟩
theorem Un.kept(k:∀b u,h.get? b=Z u->h'.get? b=Z u):Un fs ex H H h h':=
 ⟨λb a q _ _ _=>k b a q,λb a q _ _ _=>⟨a.slots,k b a q⟩,λ_ _ _ n _=>n,λb a q _=>⟨a,k b a q⟩,λ_ _ q=>q,λ_ _ _ q=>q,λ_ ps q=>⟨#[],by rw[q];simp⟩⟩
theorem Un.refl:Un fs ex H H h h:=Un.kept λ_ _ q=>q
theorem Un.laid(k:∀b u,h.get? b=Z u->h'.get? b=Z u)(hp:h.objs.size<=a)(hn:H a=Y):Un fs ex H (upd H a o) h h' where
 keep:=λb u q _ _ _=>k b u q
 slot:=λb u q _ _ _=>⟨u.slots,k b u q⟩
 free:=λb u q n _=>by rw[dY (nN1 (nL1 (hL1 q) hp))];exact n
 there:=λb u q _=>⟨u,k b u q⟩
 tups:=λb xs q=>by rw[dY (eD q hn)];exact q
 frzs:=λb u xs q=>by rw[dY (eD q hn)];exact q
 tbls:=λb ps q=>⟨#[],by rw[dY (eD q hn),q];simp⟩
theorem Un.write(mu:Mut (H x))(he:e=x\/H e=Z (.own x))(k:∀b u,b≠e->h.get? b=Z u->h'.get? b=Z u)(c:∃u,h'.get? e=Z u):Un fs ex H (upd H x o) h h':=by
 have g:∀b,H b=Y->b≠x:=λb n z=>by subst z;rw[n]at mu;exact mu
 have f:∀b,H b=Y->b≠e:=λb n z=>by
  subst z;rcases he with r|r
  ·exact g b n r
  ·rw[n]at r;cases r
 have d:∀b u,H b=Z u -> ¬ Mut (Z u)->b≠x:=λb u q nm z=>by subst z;rw[q]at mu;exact nm mu
 refine⟨λb u q n _ _=>k b u (f b n) q,λb u q n _ _=>⟨u.slots,k b u (f b n) q⟩,λb u q n _=>by rw[dY (g b n)];exact n,λb u q _=>?_,
  λb xs q=>by rw[dY (d b _ q λz=>z)];exact q,λb u xs q=>by rw[dY (d b _ q λz=>z)];exact q,λb ps q=>⟨#[],by rw[dY (d b _ q λz=>z),q];simp⟩⟩
 by_cases a:b=e
 ·subst a;exact c
 ·exact⟨u,k b u a q⟩
end
noncomputable def trk(h:dN)(H:Hp):List dE:=(af h.objs.size).filter λa=>(H a).isSome
noncomputable def qr(h:dN)(H:Hp):dN:=PySem.W.hideAll h (trk h H)
theorem wZ(h:dN)(H:Hp):(qr h H).objs.size=h.objs.size:=PySem.W.hideAll_size _ _
theorem zM{h:dN}{H:Hp}{b:dE}{o:Obj}(e:h.get? b=Z o)(n:H b=Y):(qr h H).get? b=Z o:=
 PySem.W.hideAll_get _ e λa=>by
  have q:(H b).isSome=M:=(aA.mp a).2;rw[n]at q;simp at q
theorem Bt{h:dN}{H:Hp}{b:dE}{o:Obj}(e:(qr h H).get? b=Z o):h.get? b=Z o/\H b=Y:=by
 have a:h.get? b=Z o:=PySem.W.of_hideAll (trk h H) e;refine⟨a,?_⟩;cases q:H b with
 |none=>rfl
 |some x=>
  have c:b∈trk h H:=aA.mpr ⟨aB.mpr (hL1 a),by simp[q]⟩;have z:(qr h H).get? b=Y:=PySem.W.hideAll_none (trk h H) c;rw[z]at e;cases e
noncomputable def Cv(g h:dN)(L:dE):List (dE×Obj):=(af h.objs.size).filterMap λa=>if a=L\/(g.get? a).isSome=M then Y else(h.get? a).map λo=>(a,o)
noncomputable def rest(g h:dN)(L d:dE):List (dE×Obj):=(Cv g h L).filter λp=>decide (p.1≠d)
end L2
namespace L2
open PySem PySem.Spec PyProof.Rows
structure Mod (K:Fg1)(mg:Str->Option dB)(base:dN):Prop where
 kin:K.In base
 glob:base.Ns dI mg
 blt:∃mb,base.Ns builtinsNs mb /\ ∀x:Str,x≠"__name__"->mb x=bootBuiltins x
 nolimit:base.NoLimit
structure Cx where
 prog:dF
 w:dH
 K:Fg1
 mg:Str->Option dB
 base:dN
 A:dG
 N:List Str
 s₀:dD
 H₀:Hp
 env:Env
 outer:List Env
 stack:List Env
 ex:List dE
 fn:Str->Bool
 calm:Bool
 pn:List (dE×Obj)
 xe:dB->dD->Prop
noncomputable def frs(l:List Env):List dE:=l.filterMap (·.frame)
abbrev Cx.fs(X:Cx):List dE:=frs X.outer
def Vis(sc:dR)(x:Str):Prop:=sc.names.lookup x=Z .local\/sc.names.lookup x=Z .cell\/sc.names.lookup x=Z .free
def uO(sc:dR)(x:Str):Prop:=sc.names.lookup x=Z .local\/sc.names.lookup x=Z .cell
def IM(env:Env)(h:dN)(m:Str->Option dB)(x:Str)(u:dB):Prop:=
 (env.kindOf x=Z .local/\m x=Z u)\/((env.kindOf x=Z .cell\/env.kindOf x=Z .free) /\ ∃c,env.cells.lookup x=Z c/\h.IsCell c (Z u))
structure Cx.Ok (X:Cx):Prop where
 mod:Mod X.K X.mg X.base
 kind:X.env.scope.kind = .function
 glob:X.env.globals=dI
 blt:X.env.builtins=builtinsNs
 above:X.s₀.heap.objs.size<=X.env.locals
 inj:∀x y c,X.env.cells.lookup x=some c->X.env.cells.lookup y=some c->x=y
 has:∀x,(X.env.kindOf x=some .cell\/X.env.kindOf x=some .free) -> ∃c,X.env.cells.lookup x=some c
 cab:∀x c,X.fn x=true->X.env.cells.lookup x=some c->X.s₀.heap.objs.size<=c
 hd:X.calm=true->X.A.handled=none
 frames:X.A.frames=some X.stack
 stk:X.stack=X.outer\/(X.stack=X.env::X.outer/\X.env.frame=some X.env.locals)
 exf:∀b∈X.ex,b≠X.env.locals /\ ∀x c,X.env.cells.lookup x=some c->c≠b
 bs:∀b o,X.base.get? b=some o->X.s₀.heap.get? b=some o/\X.H₀ b=none
 bsz:X.base.objs.size<=X.s₀.heap.objs.size
 noex:∀b o,X.base.get? b=some o->b∉X.ex
 exfs:∀b∈X.ex,b∉X.fs
 funs:X.s₀.heap.FunFrames X.base X.outer
 frf:∀b∈X.fs,X.H₀ b=none
structure Inv (X:Cx)(ag:List (dE×Obj))(σ:List (Option V))(H:Hp)(s:dD):Prop where
 ok:X.Ok
 os:s.os=X.s₀.os
 bare:AllBare s.gens
 base:Un X.fs X.ex X.H₀ H X.s₀.heap s.heap
 loc:∃m,s.heap.Ns X.env.locals m /\ ∀(i:Nat) (x:Str) (v:V),X.N[i]?=some x->σ[i]?=some (some v)->Vis X.env.scope x -> ∃u,d7 v u/\IM X.env s.heap m x u
 cell:∀x c,X.env.cells.lookup x=some c -> ∃v,s.heap.IsCell c v
 free:H X.env.locals=none
 freeC:∀x c,X.env.cells.lookup x=some c->H c=none
 pin:∀p∈X.pn++ag,s.heap.get? p.1=some p.2/\H p.1=none/\p.1≠X.env.locals/\p.1∉X.fs /\ ∀v,p.2.data ≠ .cell v
 hok:kU X.prog X.w H s.heap
 len:σ.length=X.N.length
section
variable{X:Cx}{ag:List (dE×Obj)}{σ:List (Option V)}{H H':Hp}{s:dD}{h':dN}
theorem Cx.Ok.nofr(ok:X.Ok){b:dE}{o:Obj}(e:X.base.get? b=Z o):b∉X.fs:=λa=>by
 have:=(ok.funs.mem a).1;rw[e]at this;cases this
theorem Inv.bs(I:Inv X ag σ H s):∀b o,X.base.get? b=Z o->s.heap.get? b=Z o/\H b=Y:=λb o e=>
 ⟨I.base.keep b o (I.ok.bs b o e).1 (I.ok.bs b o e).2 (I.ok.nofr e) (I.ok.noex b o e),I.base.free b o (I.ok.bs b o e).1 (I.ok.bs b o e).2 (I.ok.noex b o e)⟩
theorem Inv.bk(I:Inv X ag σ H s):∀b o,X.base.get? b=Z o->s.heap.get? b=Z o:=λb o e=>(I.bs b o e).1
theorem Inv.mod(I:Inv X ag σ H s):Mod X.K X.mg X.base:=I.ok.mod
theorem Inv.kIn(I:Inv X ag σ H s):X.K.In s.heap:=I.ok.mod.kin.keeps I.bk
theorem Inv.lt(I:Inv X ag σ H s):X.env.locals<s.heap.objs.size:=let ⟨_,hn,_⟩:=I.loc;hn.lt
theorem Inv.sz(I:Inv X ag σ H s):X.s₀.heap.objs.size<=s.heap.objs.size:=aC I.ok.above (aD I.lt)
theorem Inv.nofs(I:Inv X ag σ H s){a:dE}(h:s.heap.objs.size<=a):a∉X.fs:=λc=>by
 obtain⟨_,o,b,_⟩:=I.ok.funs.mem c;exact absurd (nL1 (hL1 b) (aC I.sz h)) (az _)
theorem Inv.cne(I:Inv X ag σ H s):∀x c,X.env.cells.lookup x=Z c->c≠X.env.locals:=λx c e z=>by
 obtain⟨v,o,f,d⟩:=I.cell x c e;obtain⟨m,⟨o',es,ep,a,b,_⟩,_⟩:=I.loc;rw[z,a]at f;cases f;rw[b]at d;cases d
theorem Inv.funs(I:Inv X ag σ H s):s.heap.FunFrames X.base X.outer:=by
 have all:∀(l:List Env),(∀b∈frs l,b∈X.fs)->X.s₀.heap.FunFrames X.base l->s.heap.FunFrames X.base l:=by
  intro l
  induction l with
  |nil=>intro _ _;trivial
  |cons n r ih=>
   intro f g;obtain⟨i,⟨L,o,c,h,j,k⟩,m⟩:=g;have d:L∈X.fs:=f L (by unfold frs;rw[aE,c];exact mS1);obtain⟨p,e⟩:=I.base.slot L o j (I.ok.frf L d) d λz=>I.ok.exfs L z d;exact⟨i,⟨L,_,c,h,e,k⟩,ih (λb a=>f b (by unfold frs;rw[aE,c];exact mC1 _ a)) m⟩
 exact all X.outer (λ_ a=>a) I.ok.funs
theorem Inv.stack(I:Inv X ag σ H s):s.heap.FunFrames X.base X.stack:=by
 rcases I.ok.stk with e|⟨e,a⟩
 ·rw[e];exact I.funs
 ·rw[e];obtain⟨m,b,_⟩:=I.loc;refine .cons (by rw[I.ok.kind];decide) a b ?_ I.funs;exact Heap.get?_none_of_le (aC I.ok.bsz I.ok.above)
theorem Inv.stkSub(I:Inv X ag σ H s):∀b∈frs X.stack,b∈X.env.locals::X.fs:=λb a=>by
 rcases I.ok.stk with e|⟨e,c⟩
 ·rw[e]at a;exact mC1 _ a
 ·rw[e]at a;unfold frs at a;rw[aE,c]at a;exact a
theorem Inv.stkFree(I:Inv X ag σ H s):∀b∈frs X.stack,H b=Y:=λb a=>by
 rcases aF.mp (I.stkSub b a)with e|a
 ·rw[e];exact I.free
 ·obtain⟨_,o,c,_⟩:=I.ok.funs.mem a;exact I.base.free b o c (I.ok.frf b a) λz=>I.ok.exfs b z a
theorem Inv.step{g':Array GenState}{t':Nat}{d':Drawn}{ch:List dE}(I:Inv X ag σ H s)(j:∀b∈ch,(b∈X.ex\/X.s₀.heap.objs.size<=b)/\b≠X.env.locals/\(∀x c,X.env.cells.lookup x=some c->c≠b) /\ ∀p∈X.pn++ag,p.1≠b)(keep:∀b o,b≠X.env.locals->b∉X.fs->b∉ch->s.heap.get? b=some o->H b=none->h'.get? b=some o)(slot:∀b o,b≠X.env.locals->b∈X.fs->b∉ch->s.heap.get? b=some o->H b=none -> ∃K,h'.get? b=some {o with slots:=K})(f:∀b o,b∉ch->s.heap.get? b=some o->H b=none->H' b=none)(A:∀b o,b∉ch->s.heap.get? b=some o -> ∃o',h'.get? b=some o')(D:∀b xs,H b=some (.tup xs)->H' b=some (.tup xs))(G:∀b o u,H b=some (.frz o u)->H' b=some (.frz o u))(F:∀b ps,H b=some (.tbl ps) -> ∃more,H' b=some (.tbl (ps++more)))(ns:∀m,s.heap.Ns X.env.locals m->h'.Ns X.env.locals m)(L:kU X.prog X.w H' h')(hg:AllBare g'):
  Inv X ag σ H' {s with heap:=h',gens:=g',drawn:=d',toks:=t'}:=by
 have E:∀b o,X.s₀.heap.get? b=Z o->b≠X.env.locals:=λb o e=>nN1 (nL1 (hL1 e) I.ok.above);have t:∀b o,X.s₀.heap.get? b=Z o->b∉X.ex->b∉ch:=λb o e a y=>by
  rcases(j b y).1 with z|z
  ·exact a z
  ·exact absurd (nL1 (hL1 e) z) (az _)
 have g:∀x c,X.env.cells.lookup x=Z c -> ∀v,s.heap.IsCell c v->h'.IsCell c v:=λx c e v ⟨o,B,am⟩=>by
  have h:c∉ch:=λz=>(j c z).2.2.1 x c e O;by_cases hc:c∈X.fs
  ·obtain⟨K,q⟩:=slot c o (I.cne x c e) hc h B (I.freeC x c e);exact⟨_,q,am⟩
  ·exact⟨o,keep c o (I.cne x c e) hc h B (I.freeC x c e),am⟩
 refine⟨I.ok,I.os,hg,⟨λb o e n y a=>?_,λb o e n y a=>?_,λb o e n a=>?_,λb o e a=>?_,λb xs e=>D b xs (I.base.tups b xs e),λb o xs e=>G b o xs (I.base.frzs b o xs e),λb ps e=>?_⟩,?_,λx c e=>?_,?_,λx c e=>?_,λp au=>?_,L,I.len⟩
 ·exact keep b o (E b o e) y (t b o e a) (I.base.keep b o e n y a) (I.base.free b o e n a)
 ·obtain⟨K,w⟩:=I.base.slot b o e n y a;obtain⟨ao,C⟩:=slot b _ (E b o e) y (t b o e a) w (I.base.free b o e n a);exact⟨ao,C⟩
 ·obtain⟨o',w⟩:=I.base.there b o e a;exact f b o' (t b o e a) w (I.base.free b o e n a)
 ·obtain⟨o',w⟩:=I.base.there b o e a;exact A b o' (t b o e a) w
 ·obtain⟨m1,w⟩:=I.base.tbls b ps e;obtain⟨m2,C⟩:=F b _ w;exact⟨m1++m2,by rw[C,Array.append_assoc]⟩
 ·obtain⟨m,R,Q⟩:=I.loc;refine⟨m,ns m R,λi x v w C P=>?_⟩;obtain⟨u,r,l⟩:=Q i x v w C P;refine⟨u,r,?_⟩;rcases l with l|⟨k,c,e,z⟩
  ·exact .inl l
  ·exact .inr ⟨k,c,e,g x c e _ z⟩
 ·obtain⟨v,z⟩:=I.cell x c e;exact⟨v,g x c e v z⟩
 ·obtain⟨m,⟨o,_,_,B,_⟩,_⟩:=I.loc;exact f _ o (λz=>(j _ z).2.1 O) B I.free
 ·obtain⟨v,o,B,am⟩:=I.cell x c e;exact f c o (λz=>(j c z).2.2.1 x c e O) B (I.freeC x c e)
 ·obtain⟨e,n,ne,N,d⟩:=I.pin p au;have h:p.1∉ch:=λz=>(j p.1 z).2.2.2 p au O;exact⟨keep p.1 p.2 ne N h e n,f p.1 p.2 h e n,ne,N,d⟩
theorem Inv.un{t':Nat}(I:Inv X ag σ H s)(u:Un X.fs [] H H' s.heap h')(f:kU X.prog X.w H' h'):Inv X ag σ H' {s with heap:=h',toks:=t'}:=by
 obtain⟨m,⟨o,es,ep,h,r⟩,_⟩:=id I.loc;obtain⟨p,j⟩:=u.any h I.free (by simp);exact I.step (g':=s.gens) (d':=s.drawn) (ch:=[]) (λ_ z=>nomatch z) (λb o _ c _ e n=>u.keep b o e n c (by simp)) (λb o _ c _ e n=>u.slot b o e n c (by simp)) (λb o _ e n=>u.free b o e n (by simp)) (λb o _ e=>u.there b o e (by simp)) u.tups u.frzs u.tbls (λl k=>by
  obtain⟨o',d,g,a,i⟩:=k;rw[h]at a;cases a;exact⟨_,d,g,j,i⟩) f I.bare
theorem Inv.call{g':Array GenState}{t':Nat}{d':Drawn}{ch:List dE}(I:Inv X ag σ H s)(u:Un (frs X.stack) ch H H' s.heap h')(g:kU X.prog X.w H' h')(hg:AllBare g')(d:∀b∈ch,(b∈X.ex\/X.s₀.heap.objs.size<=b)/\b≠X.env.locals/\(∀x c,X.env.cells.lookup x=some c->c≠b) /\ ∀p∈X.pn++ag,p.1≠b):
  Inv X ag σ H' {s with heap:=h',gens:=g',drawn:=d',toks:=t'}:=by
 obtain⟨m,⟨o,es,ep,j,r⟩,_⟩:=id I.loc;obtain⟨v,i⟩:=u.any j I.free λz=>(d _ z).2.1 O;exact I.step (ch:=ch) d (λb o i k hc e n=>u.keep b o e n (λz=>(aF.mp (I.stkSub b z)).elim i k) hc) (λb o _ _ hc e n=>u.any e n hc) (λb o hc e n=>u.free b o e n hc) (λb o hc e=>u.there b o e hc) u.tups u.frzs u.tbls (λt q=>by
  obtain⟨o',f,h,a,l⟩:=q;rw[j]at a;cases a;exact⟨_,f,h,i,l⟩) g hg
theorem Inv.turned{t':Nat}{it:dE}(I:Inv X ag σ H s)(k:∀ b o,b≠it->s.heap.get? b=Z o->h'.get? b=Z o)(hn:H it=Y)(d:it≠X.env.locals)(h1:it∈X.ex\/X.s₀.heap.objs.size<=it)(h2:∀x c,X.env.cells.lookup x=Z c->c≠it)(h:∀p∈X.pn++ag,p.1≠it):Inv X ag σ H {s with heap:=h',toks:=t'}:=by
 have a:∀b u,H b=Z u->b≠it:=λb u e z=>by rw[z,hn]at e;cases e
 refine I.step (g':=s.gens) (d':=s.drawn) (ch:=[it]) (λb g=>?_) (λb o _ _ hc e _=>k b o (λz=>hc (by simp[z])) e) (λb o _ _ hc e _=>⟨o.slots,k b o (λz=>hc (by simp[z])) e⟩) (λ_ _ _ _ n=>n)
  (λb o hc e=>⟨o,k b o (λz=>hc (by simp[z])) e⟩) (λ_ _ e=>e) (λ_ _ _ e=>e) (λb ps e=>⟨#[],by rw[e];simp⟩) (λm i=>?_) (λb u e=>?_) I.bare
 ·have e:b=it:=by simpa using g
  subst e;exact⟨h1,d,h2,h⟩
 ·obtain⟨o,es,ep,f,r⟩:=i;exact⟨o,es,ep,k _ o (Ne.symm d) f,r⟩
 ·refine(I.hok b u e).stay (λc v hc q=>k c v ?_ q) (λ_ q=>q) λ_ _ q=>q;rcases hc with z|z
  ·rw[z];exact a b u e
  ·exact a c _ z
theorem Inv.tok(I:Inv X ag σ H s)(t:Nat):Inv X ag σ H {s with toks:=t}:=I.un (h':=s.heap) (t':=t) Un.refl I.hok
theorem Inv.kept{t':Nat}(I:Inv X ag σ H s)(k:∀b u,s.heap.get? b=Z u->h'.get? b=Z u):Inv X ag σ H {s with heap:=h',toks:=t'}:=I.un (Un.kept k) (I.hok.kept k)
theorem Inv.laid{a:dE}{o:HO}{t':Nat}(I:Inv X ag σ H s)(k:∀ b u,s.heap.get? b=some u->h'.get? b=some u)(hp:s.heap.objs.size<=a)(new:eO X.prog X.w (upd H a o) h' a o):
  Inv X ag σ (upd H a o) {s with heap:=h',toks:=t'}:=I.un (Un.laid k hp (I.hok.fresh hp)) (I.hok.laid k hp new)
theorem Inv.write{x e:dE}{o:HO}{t':Nat}(I:Inv X ag σ H s)(mu:Mut (H x))(he:e=x\/H e=Z (.own x))(k:∀ b u,b≠e->s.heap.get? b=Z u->h'.get? b=Z u)(a:∃ u,h'.get? e=Z u)(new:eO X.prog X.w (upd H x o) h' x o):Inv X ag σ (upd H x o) {s with heap:=h',toks:=t'}:=I.un (Un.write mu he k a) (I.hok.write mu he k a new)
theorem Inv.pins_of{a:List (dE×Obj)}(I:Inv X ag σ H s)(h:∀p∈a,s.heap.get? p.1=Z p.2/\H p.1=Y/\p.1≠X.env.locals/\p.1∉X.fs /\ ∀v,p.2.data ≠ .cell v):Inv X a σ H s:=
 ⟨I.ok,I.os,I.bare,I.base,I.loc,I.cell,I.free,I.freeC,λp b=>(aG.mp b).elim (λz=>I.pin p (aH _ z)) (h p),I.hok,I.len⟩
theorem rW{N:List Str}(hN:N.Nodup){i j:Nat}{x:Str}(a:N[i]?=Z x)(b:N[j]?=Z x):i=j:=by
 obtain⟨h1,d⟩:=gE1.mp a;obtain⟨h2,c⟩:=gE1.mp b;exact(List.getElem_inj hN).mp (d.trans c.symm)
theorem wv{ao:Model}{A:dG}{E:dB->dD->Prop}{i:Nat}{x:Str}{v:V}{u:dB}{Q:Unit->dD->Prop}(I:Inv X ag σ H s)(hN:X.N.Nodup)(hi:X.N[i]? = Z x)(hx:uO X.env.scope x)(r:d7 v u)(h:∀s',Inv X ag (σ.set i (Z v)) H s'->(∃a,Heap.SameBut a s.heap s'.heap/\(a=X.env.locals\/X.env.cells.lookup x=Z a))->Q () s')(hf:X.fn x=M\/X.env.scope.names.lookup x=Z .local:=by first|exact .inl rfl|exact .inr rfl|assumption):dM ao A (storeName X.env x u) Q E s:=by
 obtain⟨m,hn,hl⟩:=id I.loc;have am:(X.env.scope.kind == .class||(X.env.scope.kind == .module&&X.env.locals != X.env.globals))=J:=by rw[I.ok.kind];rfl
 have w:i<σ.length:=by rw[I.len];exact(gE1.mp hi).1
 have cne:=I.cne;have tracked:∀{a:dE} {h':dN},(∃o,s.heap.get? a=Z o/\H a=Y)->Heap.SameBut a s.heap h'->kU X.prog X.w H h':=λ{a h'} ha f b ob e=>by
  obtain⟨_,_,l⟩:=ha;refine(I.hok b ob e).stay (λc P hc q=>(f.2 c ?_).trans q) (λ_ q=>q) λ_ _ q=>q;rintro rfl;rcases hc with rfl|hc
  ·rw[l]at e;cases e
  ·rw[l]at hc;cases hc
 rcases hx with B|B
 ·refine wpAny_storeName_local B hn (λh' U f=>?_) am;obtain⟨oL,_,_,aq,_⟩:=id hn;refine h _ ⟨I.ok,I.os,I.bare,⟨λb o e n D hx=>?_,λb o e n D hx=>?_,I.base.free,λb o e hx=>?_,I.base.tups,I.base.frzs,I.base.tbls⟩,⟨_,U,λj y W g t R=>?_⟩,λy c e=>?_,I.free,I.freeC,λp hp=>?_,tracked ⟨oL,aq,I.free⟩ f,by simpa using I.len⟩ ⟨_,f,.inl O⟩
  ·exact(f.2 b (nN1 (nL1 (hL1 e) I.ok.above))).trans (I.base.keep b o e n D hx)
  ·obtain⟨sl,g⟩:=I.base.slot b o e n D hx;exact⟨sl,(f.2 b (nN1 (nL1 (hL1 e) I.ok.above))).trans g⟩
  ·obtain⟨o',g⟩:=I.base.there b o e hx;exact⟨o',(f.2 b (nN1 (nL1 (hL1 e) I.ok.above))).trans g⟩
  ·by_cases C:j=i
   ·subst C;rw[hi]at g;cases g;rw[aI w]at t;cases t;exact⟨u,r,.inl ⟨B,by simp⟩⟩
   ·rw[gS1 (Ne.symm C)]at t;obtain⟨S,wq,q⟩:=hl j y W g t R;refine⟨S,wq,?_⟩;rcases q with⟨k,e⟩|⟨k,c,e,z⟩
    ·refine .inl ⟨k,?_⟩;have:y≠x:=λe=>C (rW hN g (e ▸ hi));simp[this,e]
    ·exact .inr ⟨k,c,e,z.sameBut f (cne y c e)⟩
  ·obtain⟨P,z⟩:=I.cell y c e;exact⟨P,z.sameBut f (cne y c e)⟩
  ·obtain⟨e,n,ne,T,d⟩:=I.pin p hp;exact⟨(f.2 p.1 ne).trans e,n,ne,T,d⟩
 ·have F:X.fn x=true:=by
   rcases hf with z|z
   ·exact z
   ·rw[z]at B;cases B
  obtain⟨c,hc⟩:=I.ok.has x (.inl B);obtain⟨P,z⟩:=I.cell x c hc;refine wpAny_storeName_cell I.ok.kind B hc z (λh' K f=>?_);obtain⟨oc,N,L⟩:=id z;refine h {s with heap:=h'} ⟨I.ok,I.os,I.bare,⟨λb o e n D hx=>?_,λb o e n D hx=>?_,I.base.free,λb o e hx=>?_,I.base.tups,I.base.frzs,I.base.tbls⟩,⟨m,hn.sameBut f (Ne.symm (cne x c hc)),λj y W g t R=>?_⟩,λy au e=>?_,I.free,I.freeC,λp hp=>?_,tracked ⟨oc,N,I.freeC x c hc⟩ f,by simpa using I.len⟩ ⟨c,f,.inr hc⟩
  ·exact(f.2 b (nN1 (nL1 (hL1 e) (I.ok.cab x c F hc)))).trans (I.base.keep b o e n D hx)
  ·obtain⟨sl,g⟩:=I.base.slot b o e n D hx;exact⟨sl,(f.2 b (nN1 (nL1 (hL1 e) (I.ok.cab x c F hc)))).trans g⟩
  ·obtain⟨o',g⟩:=I.base.there b o e hx;exact⟨o',(f.2 b (nN1 (nL1 (hL1 e) (I.ok.cab x c F hc)))).trans g⟩
  ·by_cases C:j=i
   ·subst C;rw[hi]at g;cases g;rw[aI w]at t;cases t;exact⟨u,r,.inr ⟨.inl B,c,hc,K⟩⟩
   ·rw[gS1 (Ne.symm C)]at t;obtain⟨S,wq,q⟩:=hl j y W g t R;refine⟨S,wq,?_⟩;rcases q with q|⟨k,au,e,z'⟩
    ·exact .inl q
    ·refine .inr ⟨k,au,e,z'.sameBut f ?_⟩;rintro rfl;exact C (rW hN g (I.ok.inj _ _ _ e hc ▸ hi))
  ·by_cases G:au=c
   ·subst G;exact⟨_,K⟩
   ·obtain⟨w2,z2⟩:=I.cell y au e;exact⟨w2,z2.sameBut f G⟩
  ·obtain⟨e,n,ne,T,d⟩:=I.pin p hp;refine⟨(f.2 p.1 ?_).trans e,n,ne,T,d⟩;intro q;rw[q,N]at e;have q':oc=p.2:=Option.some.inj e;exact d P (by rw[<- q'];exact L)
theorem iN{ao:Model}{A:dG}{E:dB->dD->Prop}{i:Nat}{x:Str}{v:V}{u:dB}{Q:Unit->dD->Prop}(I:Inv X ag σ H s)(hN:X.N.Nodup)(hi:X.N[i]? = Z x)(hx:uO X.env.scope x)(r:d7 v u)(h:∀s',Inv X ag (σ.set i (Z v)) H s'->Q () s')(hf:X.fn x=M\/X.env.scope.names.lookup x=Z .local:=by first|exact .inl rfl|exact .inr rfl|assumption):dM ao A (storeName X.env x u) Q E s:=
 wv I hN hi hx r (λs' a _=>h s' a) hf
theorem Inv.call'{s':dD}{ch:List dE}(I:Inv X ag σ H s)(ho:s'.os=s.os)(u:Un (frs X.stack) ch H H' s.heap s'.heap)(d:kU X.prog X.w H' s'.heap)(hg:AllBare s'.gens)(a:∀b∈ch,(b∈X.ex\/X.s₀.heap.objs.size<=b)/\b≠X.env.locals/\(∀x c,X.env.cells.lookup x=Z c->c≠b) /\ ∀p∈X.pn++ag,p.1≠b):Inv X ag σ H' s':=by
 obtain⟨h',h,g,f,o'⟩:=s';have e:o'=s.os:=ho;subst e;exact I.call (g':=h) (t':=f) (d':=g) u d hg a
end
abbrev XK:=dB->Option dE->Hp->Prop
abbrev St:=List (Option V)
abbrev VK:=V->Hp->Prop
abbrev TE:=St->Hp->VK->Prop
abbrev TT:=St->Hp->(Bool->Hp->Prop)->Prop
abbrev TA:=St->Hp->(List V->Hp->Prop)->Prop
structure jv where
 nx:St->Hp->Prop
 rt:VK
 bk:St->Hp->Prop:=λ_ _=>False
 ct:St->Hp->Prop:=λ_ _=>False
abbrev TS:=jv->St->Hp->Prop
def EP(X:Cx)(ag:List (dE×Obj))(σ:St)(Q:VK)(u:dB)(s':dD):Prop:=∃v H',Inv X ag σ H' s'/\d7 v u/\Q v H'
def TP(X:Cx)(ag:List (dE×Obj))(σ:St)(Q:Bool->Hp->Prop)(b:Bool)(s':dD):Prop:=∃H',Inv X ag σ H' s'/\Q b H'
def AP(X:Cx)(ag:List (dE×Obj))(σ:St)(Q:List V->Hp->Prop)(us:List dB)(s':dD):Prop:=∃vs H',Inv X ag σ H' s'/\ei vs us/\Q vs H'
def SP(X:Cx)(ag:List (dE×Obj))(D:jv)(f:Flow)(s':dD):Prop:=
 match f with
 | .next=>∃ σ' H',Inv X ag σ' H' s'/\D.nx σ' H'
 | .brk=>∃ σ' H',Inv X ag σ' H' s'/\D.bk σ' H'
 | .cont=>∃ σ' H',Inv X ag σ' H' s'/\D.ct σ' H'
 | .ret u=>∃v σ' H',Inv X ag σ' H' s'/\d7 v u/\D.rt v H'
def PE(X:Cx)(e:Expr)(t:TE):Prop:=
 ∀(ag:List (dE×Obj)) (s:dD) (σ:St) (H:Hp) (Q:VK),Inv X ag σ H s->t σ H Q->dM (model X.prog X.w) X.A (eval e X.env) (EP X ag σ Q) X.xe s
def PT(X:Cx)(e:Expr)(t:TT):Prop:=
 ∀(ag:List (dE×Obj)) (s:dD) (σ:St) (H:Hp) (Q:Bool->Hp->Prop),Inv X ag σ H s->t σ H Q->dM (model X.prog X.w) X.A (isTrue e X.env (eval e X.env)) (TP X ag σ Q) X.xe s
def PW(X:Cx)(e:Expr)(t:TT):Prop:=
 ∀(whole:Sem dB) (ag:List (dE×Obj)) (s:dD) (σ:St) (H:Hp) (Q:Bool->Hp->Prop),Inv X ag σ H s->t σ H Q->dM (model X.prog X.w) X.A (isTrue e X.env whole) (TP X ag σ Q) X.xe s
theorem PW.pt{X:Cx}{e:Expr}{t:TT}(h:PW X e t):PT X e t:=h _
def PA(X:Cx)(es:List Expr)(t:TA):Prop:=
 ∀(pos:Pos) (ag:List (dE×Obj)) (s:dD) (σ:St) (H:Hp) (Q:List V->Hp->Prop),Inv X ag σ H s->t σ H Q->dM (model X.prog X.w) X.A (spliced (backTo pos (dJ es X.env))) (AP X ag σ Q) X.xe s
def PS(X:Cx)(st:dQ)(t:TS):Prop:=
 ∀(ag:List (dE×Obj)) (s:dD) (σ:St) (H:Hp) (D:jv),Inv X ag σ H s->t D σ H->dM (model X.prog X.w) X.A (exec st X.env) (SP X ag D) X.xe s
def tG(X:Cx)(st:List dQ)(t:TS):Prop:=
 ∀(ag:List (dE×Obj)) (s:dD) (σ:St) (H:Hp) (D:jv),Inv X ag σ H s->t D σ H->dM (model X.prog X.w) X.A (execs st X.env) (SP X ag D) X.xe s
theorem fg{α:Type}{t:Sem α}{Q b:α->dD->Prop}{ao:Model}{A:dG}{E:dB->dD->Prop}{s:dD}(h:dM ao A t Q E s)(c:∀a s,Q a s->b a s):dM ao A t b E s:=wpAny_mono h c λ_ _ x=>x
end L2
namespace L2
open PySem PySem.Spec PyProof.Rows
section
variable{X:Cx}
theorem J8{a b:Expr}{ta tb:TE}(ha:PE X a ta)(hb:PE X b tb){ag:List (dE×Obj)}{s:dD}{σ:St}{H:Hp}{R:V->V->Hp->Prop}(I:Inv X ag σ H s)(h:ta σ H fun x H1=>tb σ H1 fun y H2=>R x y H2){α:Type}{Q:α->dD->Prop}{f:dB->dB->Sem α}(hf:∀v u e x y H2,Inv X ag σ H2 e->d7 x v->d7 y u->R x y H2->dM (model X.prog X.w) X.A (f v u) Q X.xe e):
  dM (model X.prog X.w) X.A (eval a X.env) (λv d=>dM (model X.prog X.w) X.A (eval b X.env) (λu c=>dM (model X.prog X.w) X.A (f v u) Q X.xe c) X.xe d) X.xe s:=by
 refine fg (ha ag s σ H _ I h) λv g ⟨x,H1,i,j,k⟩=>?_;refine fg (hb ag g σ H1 _ i k) λu e ⟨y,H2,l,r2,m⟩=>?_;exact hf v u e x y H2 l j r2 m
noncomputable def FD(i:Nat):TE:=fun σ H Q=>∃v,σ[i]?=Z (Z v)/\Q v H
noncomputable def tC(v:V):TE:=λ_ H Q=>Q v H
theorem yQ {i:Nat}{x:Str}{pos:Pos}(hN:X.N[i]?=Z x)(hv:Vis X.env.scope x)(hd:(x == ("__debug__":Str))=J:=by decide)(hcd:(x == ("__classdict__":Str))=J:=by decide):PE X (.Name x pos) (FD i):=by
 intro ag s σ H Q I h;obtain⟨v,e,h⟩:=h;obtain⟨m,f,g⟩:=I.loc;obtain⟨u,r,l⟩:=g i x v hN e hv;have d:EP X ag σ Q u s:=⟨v,H,I,r,h⟩;rcases l with⟨b,j⟩|⟨b,c,hc,a⟩
 ·exact wpAny_Name (wpAny_loadName_local I.ok.kind b f j d) hd
 ·rcases b with b|b
  ·exact wpAny_Name (wpAny_loadName_cell I.ok.kind b hc a d) hd
  ·exact wpAny_Name (wpAny_loadName_free I.ok.kind b hc a d hcd) hd
theorem D0{i j pos}:PE X (.Constant (.int i) j pos) (tC (.int i)):=λ_ _ _ H _ I h=>wpAny_Constant_int ⟨.int i,H,I.tok _,⟨_,O⟩,h⟩
theorem Gd{b j pos}:PE X (.Constant (.bool b) j pos) (tC (.bl b)):=λ_ _ _ H _ I h=>Constant_bool ⟨.bl b,H,I,O,h⟩
theorem DY{j pos}:PE X (.Constant .none j pos) (tC .non):=λ_ _ _ H _ I h=>Constant_none ⟨.non,H,I,O,h⟩
theorem DX{x j pos}:PE X (.Constant (.str x) j pos) (tC (.str x)):=λ_ _ _ H _ I h=>Calls.Constant_str ⟨.str x,H,I.tok _,⟨_,O⟩,h⟩
def Gl(X:Cx)(x:Str):Prop:=X.env.kindOf x=Z .globalImplicit
theorem vz {E:dB->dD->Prop}{ag:List (dE×Obj)}{s:dD}{σ:St}{H:Hp}{x:Str}{u:dB}{pos:Pos}{Q:dB->dD->Prop}(I:Inv X ag σ H s)(hg:Gl X x)(hm:X.mg x=some u)(h:Q u s)
  (hd:(x == ("__debug__":Str))=J:=by decide):dM (model X.prog X.w) X.A (eval (.Name x pos) X.env) Q E s:=
 Calls.Name_function_global I.ok.kind hg (Calls.loadGlobal_global (by rw[I.ok.glob];exact I.mod.glob.keeps I.bk) hm h) hd
theorem jF {E:dB->dD->Prop}{ag:List (dE×Obj)}{s:dD}{σ:St}{H:Hp}{x:Str}{u:dB}{pos:Pos}{Q:dB->dD->Prop}(I:Inv X ag σ H s)(hg:Gl X x)(hm:X.mg x=none)(hv:bootBuiltins x=some u)(h:Q u s)
  (hn:x≠"__name__":=by decide) (hd:(x == ("__debug__":Str))=J:=by decide):dM (model X.prog X.w) X.A (eval (.Name x pos) X.env) Q E s:=by
 obtain⟨a,h1,h2⟩:=I.mod.blt;exact Calls.Name_function_global I.ok.kind hg (Calls.loadGlobal_builtin (by rw[I.ok.glob];exact I.mod.glob.keeps I.bk) hm (by rw[I.ok.blt];exact h1.keeps I.bk) ((h2 x hn).trans hv) h) hd
theorem Bk {x:Str}{v:V}{u:dB}{pos:Pos}(hg:Gl X x)(hm:X.mg x=Z u)(r:d7 v u)(hd:(x == ("__debug__":Str))=J:=by decide):PE X (.Name x pos) (tC v):=
 λ_ _ _ H _ I h=>vz I hg hm ⟨v,H,I,r,h⟩ hd
variable{a b:Expr}{ta tb:TE}{pos:Pos}
noncomputable def tB(t:TE):TT:=fun σ H Q=>t σ H λx H1=>∃c,x = .bl c/\Q c H1
variable{tA tB':TT}{rest:List Expr}
noncomputable def H0(t u:TT):TT:=fun σ H Q=>t σ H λc H1=>if c=M then u σ H1 Q else Q J H1
noncomputable def Jo(t u:TT):TT:=fun σ H Q=>t σ H λc H1=>if c=M then Q M H1 else u σ H1 Q
noncomputable def HQ(t:TT):TT:=fun σ H Q=>t σ H λc H1=>Q (!c) H1
theorem A5(ha:PT X a tA):PW X (.BoolOp .And [a] pos) tA:=by
 intro d ag s σ H Q I h;refine isTrue_and (fg (ha ag s σ H Q I h) λc b e=>?_);cases c with
 |true=>exact isTrue_and_nil e
 |false=>exact e
theorem DF(ha:PT X a tA):PW X (.BoolOp .Or [a] pos) tA:=by
 intro d ag s σ H Q I h;refine isTrue_or (fg (ha ag s σ H Q I h) λc b e=>?_);cases c with
 |false=>exact isTrue_or_nil e
 |true=>exact e
theorem DG(ha:PT X a tA)(hb:PW X (.BoolOp .And (b::rest) pos) tB'):PW X (.BoolOp .And (a::b::rest) pos) (H0 tA tB'):=by
 intro g ag s σ H Q I h;refine isTrue_and (fg (ha ag s σ H _ I h) λc f ⟨H1,e,d⟩=>?_);cases c with
 |true=>exact hb g ag f σ H1 Q e d
 |false=>exact⟨H1,e,d⟩
theorem F6(ha:PT X a tA)(hb:PW X (.BoolOp .Or (b::rest) pos) tB'):PW X (.BoolOp .Or (a::b::rest) pos) (Jo tA tB'):=by
 intro g ag s σ H Q I h;refine isTrue_or (fg (ha ag s σ H _ I h) λc f ⟨H1,e,d⟩=>?_);cases c with
 |true=>exact⟨H1,e,d⟩
 |false=>exact hb g ag f σ H1 Q e d
theorem DI(ha:PT X a tA):PT X (.UnaryOp .Not a pos) (HQ tA):=by
 intro ag s σ H Q I h;exact isTrue_not (ha ag s σ H (λc H1=>Q (!c) H1) I h)
noncomputable def Jq(t:TT)(ta tb:TE):TE:=fun σ H Q=>t σ H λc H1=>if c=M then ta σ H1 Q else tb σ H1 Q
theorem yS{c:Expr}(hc:PT X c tA)(ha:PE X a ta)(hb:PE X b tb):PE X (.IfExp c a b pos) (Jq tA ta tb):=by
 intro ag s σ H Q I h;refine wpAny_IfExp (fg (hc ag s σ H _ I h) λd f ⟨H1,g,e⟩=>?_);cases d with
 |true=>exact ha ag f σ H1 Q g e
 |false=>exact hb ag f σ H1 Q g e
end
end L2
namespace L2
open PySem PySem.Spec PyProof.Rows
def lV(K:Fg1)(H:Hp)(a:dE)(xs:List V):Prop:=
 Rd H a (.lst xs) \/
  ∃(o:Obj) (its:Array dB) (n:Nat),K.lookup a=Z o/\o.cls = .type "list"/\o.dict=Y/\o.data = .seq its n/\its.size<=dL/\ei xs its.toList
def jn(K:Fg1)(H:Hp)(a:dE)(xs:List V):Prop:=
 Rd H a (.tup xs) \/
  ∃(o:Obj) (its:Array dB) (n:Nat),K.lookup a=Z o/\o.cls = .type "tuple"/\o.data = .seq its n/\its.size<=dL/\ei xs its.toList
noncomputable def IG:dB->Option V
 | .none=>Z .non
 | .bool b=>Z (.bl b)
 | .int i _=>Z (.int i)
 | .str x _=>Z (.str x)
 | .bytes b _=>Z (.byt b)
 | .float b _=>Z (.flt b)
 | .ref a=>Z (.ref a)
 | .type n=>Z (.ty n)
 |_=>Y
theorem d7.abs{x:V}{u:dB}(r:d7 x u):IG u=Z x:=by
 cases x with
 |non=>cases r;rfl
 |bl _=>cases r;rfl
 |int _=>obtain⟨t,rfl⟩:=r;rfl
 |str _=>obtain⟨t,rfl⟩:=r;rfl
 |byt _=>obtain⟨t,rfl⟩:=r;rfl
 |flt _=>obtain⟨t,rfl⟩:=r;rfl
 |ref _=>cases r;rfl
 |ty _=>cases r;rfl
theorem d7.inj{x y:V}{u:dB}(r:d7 x u)(q:d7 y u):x=y:=Option.some.inj (r.abs.symm.trans q.abs)
theorem ei.inj:∀{xs ys:List V} {a:List dB},ei xs a->ei ys a->xs=ys:=by
 intro xs ys a h g
 induction h generalizing ys with
 |nil=>cases g;rfl
 |cons r t ih=>cases g with
  |cons b c=>rw[r.inj b,ih c]
section
variable{X:Cx}{ag:List (dE×Obj)}{σ:St}{H:Hp}{s:dD}{a:dE}{xs ys:List V}
theorem lV.of{K:Fg1}(h:H a=Z (.lst xs)):lV K H a xs:=.inl (.inl h)
theorem jn.of{K:Fg1}(h:H a=Z (.tup xs)):jn K H a xs:=.inl (.inl h)
theorem Inv.list(I:Inv X ag σ H s)(h:lV X.K H a xs):∃b:List dB,ei xs b/\PlainL s.heap a b.toArray/\xs.length<=dL:=by
 rcases h with h|⟨o,b,n,c,hc,d,f,g,r⟩
 ·obtain⟨z,b,n,r,e⟩:=h.ok I.hok;exact⟨b,r,⟨_,n,e,O,O,O⟩,z⟩
 ·refine⟨b.toList,r,⟨o,n,I.kIn a o c,hc,d,by simpa using f⟩,?_⟩;have e:=r.length;simp only[aJ]at e;lia
theorem Inv.tuple(I:Inv X ag σ H s)(h:jn X.K H a xs):∃b:List dB,ei xs b/\IsTup s.heap a b.toArray/\xs.length<=dL:=by
 rcases h with h|⟨o,b,n,c,hc,d,f,r⟩
 ·obtain⟨z,b,r,p⟩:=h.ok I.hok;exact⟨b,r,p,z⟩
 ·refine⟨b.toList,r,⟨o,I.kIn a o c,hc,n,by simpa using d⟩,?_⟩;have e:=r.length;simp only[aJ]at e;lia
theorem Inv.list_inj(I:Inv X ag σ H s)(h:lV X.K H a xs)(h':lV X.K H a ys):xs=ys:=by
 obtain⟨b,r,⟨o,n,e,_,_,d⟩,_⟩:=I.list h;obtain⟨its',g,⟨o',j,f,_,_,c⟩,_⟩:=I.list h';rw[e]at f;cases f;rw[d]at c;injection c with i _;have:b=its':=by simpa using congrArg Array.toList i
 subst this;exact r.inj g
theorem Inv.tuple_inj(I:Inv X ag σ H s)(h:jn X.K H a xs)(h':jn X.K H a ys):xs=ys:=by
 obtain⟨b,r,⟨o,e,_,n,d⟩,_⟩:=I.tuple h;obtain⟨its',g,⟨o',f,_,j,c⟩,_⟩:=I.tuple h';rw[e]at f;cases f;rw[d]at c;injection c with i _;have:b=its':=by simpa using congrArg Array.toList i
 subst this;exact r.inj g
end
abbrev Cx.wish(X:Cx)(E:dB->dD->Prop):Cx:={X with xe:=E}
abbrev Cx.nox(X:Cx):Cx:=X.wish λ_ _=>False
theorem Cx.Ok.wish{X:Cx}(ok:X.Ok)(E:dB->dD->Prop):(X.wish E).Ok:=
 ⟨ok.mod,ok.kind,ok.glob,ok.blt,ok.above,ok.inj,ok.has,ok.cab,ok.hd,ok.frames,ok.stk,ok.exf,ok.bs,ok.bsz,ok.noex,ok.exfs,ok.funs,ok.frf⟩
theorem Cx.Ok.unwish{X:Cx}{E:dB->dD->Prop}(ok:(X.wish E).Ok):X.Ok:=
 ⟨ok.mod,ok.kind,ok.glob,ok.blt,ok.above,ok.inj,ok.has,ok.cab,ok.hd,ok.frames,ok.stk,ok.exf,ok.bs,ok.bsz,ok.noex,ok.exfs,ok.funs,ok.frf⟩
section
variable{X:Cx}{ag:List (dE×Obj)}{σ:St}{H:Hp}{s:dD}{E:dB->dD->Prop}
theorem Inv.wish(I:Inv X ag σ H s)(E:dB->dD->Prop):Inv (X.wish E) ag σ H s:=⟨I.ok.wish E,I.os,I.bare,I.base,I.loc,I.cell,I.free,I.freeC,I.pin,I.hok,I.len⟩
theorem Inv.unwish(I:Inv (X.wish E) ag σ H s):Inv X ag σ H s:=⟨I.ok.unwish,I.os,I.bare,I.base,I.loc,I.cell,I.free,I.freeC,I.pin,I.hok,I.len⟩
theorem SP.unwish{D:jv}{f:Flow}{s':dD}(h:SP (X.wish E) ag D f s'):SP X ag D f s':=by
 cases f with
 |next=>obtain⟨a,H',I,q⟩:=h;exact⟨a,H',I.unwish,q⟩
 |brk=>obtain⟨a,H',I,q⟩:=h;exact⟨a,H',I.unwish,q⟩
 |cont=>obtain⟨a,H',I,q⟩:=h;exact⟨a,H',I.unwish,q⟩
 |ret u=>obtain⟨v,a,H',I,r,q⟩:=h;exact⟨v,a,H',I.unwish,r,q⟩
theorem tG.nox{st:List dQ}{t:TS}(h:tG X.nox st t):tG X st t:=λag s σ H D I a=>
 wpAny_mono (h ag s σ H D (I.wish _) a) (λ_ _ q=>q.unwish) λ_ _ z=>False.elim z
end
section
variable{X:Cx}{st:dQ}{rest:List dQ}{t u:TS}{e:Expr}{te:TE}{pos:Pos}
noncomputable def FM:TS:=λD σ H=>D.nx σ H
noncomputable def HM(t u:TS):TS:=λD σ H=>t {D with nx:=u D} σ H
theorem A9:tG X [] FM:=λ_ _ σ H _ I h=>wpAny_execs_nil ⟨σ,H,I,h⟩
theorem yG(h1:PS X st t)(h2:tG X rest u):tG X (st::rest) (HM t u):=by
 intro ag s σ H D I h;refine wpAny_execs_cons (fg (h1 ag s σ H {D with nx:=u D} I h) λf c q=>?_);cases f with
 |next=>
  obtain⟨a,H',b,q⟩:=q;exact h2 ag c a H' D b q
 |ret v=>exact q
 |brk=>exact q
 |cont=>exact q
theorem A8(h1:PS X st t):tG X [st] t:=by
 intro ag s σ H D I h;refine wpAny_execs_cons (fg (h1 ag s σ H D I h) λf a q=>?_);cases f with
 |next=>exact wpAny_execs_nil q
 |ret v=>exact q
 |brk=>exact q
 |cont=>exact q
theorem Inv.quiet{ag:List (dE×Obj)}{σ:St}{H:Hp}{s:dD}(I:Inv X ag σ H s):interactive X.env=J:=by simp[interactive,I.ok.kind]
noncomputable def FR(te:TE):TS:=λD σ H=>te σ H λ_ H1=>D.nx σ H1
theorem Ba(he:PE X e te)(hs:swapsWith e Y pos.line X.env=pure J:=by rfl):PS X (.Expr e pos) (FR te):=by
 intro ag s σ H D I h;exact wpAny_Expr_any (fg (he ag s σ H _ I h) λv d ⟨x,H1,b,c,a⟩=>⟨σ,H1,b,a⟩) I.quiet hs
noncomputable def HN(te:TE):TS:=λD σ H=>te σ H D.rt
theorem DL(he:PE X e te):PS X (.Return (Z e) pos) (HN te):=by
 intro ag s σ H D I h;exact wpAny_Return_some (fg (he ag s σ H _ I h) λv d ⟨x,H1,c,b,a⟩=>⟨x,σ,H1,c,b,a⟩)
noncomputable def HX(c:TT)(t u:TS):TS:=λD σ H=>c σ H λb H1=>if b=M then t D σ H1 else u D σ H1
theorem F7{c:Expr}{a b:List dQ}{tc:TT}(hc:PT X c tc)(ha:tG X a t)(hb:tG X b u):PS X (.If c a b pos) (HX tc t u):=by
 intro ag s σ H D I h;refine wpAny_If (fg (hc ag s σ H _ I h) λd f ⟨H1,g,e⟩=>?_);cases d with
 |true=>exact ha ag f σ H1 D g e
 |false=>exact hb ag f σ H1 D g e
end
abbrev TG:=V->St->Hp->(St->Hp->Prop)->Prop
abbrev C1:=List V->St->Hp->(St->Hp->Prop)->Prop
def PG(X:Cx)(target:Expr)(t:TG):Prop:=
 ∀(ag:List (dE×Obj)) (s:dD) (σ:St) (H:Hp) (v:V) (u:dB) (Q:St->Hp->Prop),Inv X ag σ H s->d7 v u->t v σ H Q ->
  dM (model X.prog X.w) X.A (assign target X.env u) (λ_ s'=>∃ σ' H',Inv X ag σ' H' s'/\Q σ' H') X.xe s
def Fn(X:Cx)(ts:List Expr)(t:C1):Prop:=
 ∀(ag:List (dE×Obj)) (s:dD) (σ:St) (H:Hp) (vs:List V) (us:List dB) (Q:St->Hp->Prop),Inv X ag σ H s->ei vs us->t vs σ H Q ->
  dM (model X.prog X.w) X.A (assignInOrder ((assignEach ts X.env).map (·.2)) us) (λ_ s'=>∃ σ' H',Inv X ag σ' H' s'/\Q σ' H') X.xe s
abbrev Fk:=V->V->V->Hp->(Hp->Prop)->Prop
def uN(X:Cx)(t:Fk):Prop:=
 ∀(ag:List (dE×Obj)) (s:dD) (σ:St) (H:Hp) (o i v:V) (ov iv u:dB) (Q:Hp->Prop),Inv X ag σ H s->d7 o ov->d7 i iv->d7 v u->t o i v H Q ->
  dM (model X.prog X.w) X.A (setItem ov iv u) (λ_ s'=>∃H',Inv X ag σ H' s'/\Q H') X.xe s
abbrev IK:=V->V->Hp->VK->Prop
def HI(X:Cx)(op:Operator)(t:IK):Prop:=
 ∀(ag:List (dE×Obj)) (s:dD) (σ:St) (H:Hp) (x y:V) (v u:dB) (Q:VK),Inv X ag σ H s->d7 x v->d7 y u->t x y H Q ->
  dM (model X.prog X.w) X.A (inplaceOp op v u) (EP X ag σ Q) X.xe s
section
variable{X:Cx}{pos:Pos}
noncomputable def vL(i:Nat):TG:=λv σ H Q=>Q (σ.set i (Z v)) H
theorem vf{i:Nat}{x:Str}(hN:X.N.Nodup)(hi:X.N[i]?=Z x)(hx:uO X.env.scope x)(hf:X.fn x=M\/X.env.scope.names.lookup x=Z .local:=by first|exact .inl rfl|exact .inr rfl|assumption):PG X (.Name x pos) (vL i):=by
 intro ag s σ H v u Q I r h;exact wpAny_assign_Name (iN I hN hi hx r (λs' a=>⟨_,H,a,h⟩) hf)
noncomputable def Iz:C1:=λvs σ H Q=>vs=[]/\Q σ H
noncomputable def GQ(t:TG)(u:C1):C1:=λvs σ H Q=>∃v r,vs=v::r/\t v σ H fun σ' H'=>u r σ' H' Q
theorem Bj:Fn X [] Iz:=by
 intro ag s σ H vs a Q I r h;obtain⟨e,h⟩:=h;subst e;cases r;exact assignInOrder_nil ⟨σ,H,I,h⟩
theorem yP{e:Expr}{es:List Expr}{t:TG}{u:C1}(h1:PG X e t)(h2:Fn X es u)(hs:(assignEach (e::es) X.env).map (·.2)=assign e X.env::(assignEach es X.env).map (·.2):=by rfl):Fn X (e::es) (GQ t u):=by
 intro ag s σ H vs j Q I r h;obtain⟨v,i,f,h⟩:=h;subst f;cases r with
 |cons r b=>
  rw[hs];refine assignInOrder_cons (fg (h1 ag s σ H _ _ _ I r h) λ_ c ⟨a,H1,d,g⟩=>?_);exact h2 ag c a H1 _ _ Q d b g
noncomputable def gTup(K:Fg1)(n:Nat)(t:C1):TG:=λv σ H Q=>∃a xs,v = .ref a/\jn K H a xs/\xs.length=n/\t xs σ H Q
theorem DU{es:List Expr}{k:Nat}{t:C1}{n:Nat}(hc:X.calm=M)(h:Fn X es t)(hn:(assignEach es X.env).length=n:=by rfl)(hst:(assignEach es X.env).findIdx? (·.1)=Y:=by rfl):PG X (.Tuple es k pos) (gTup X.K n t):=by
 intro ag s σ H v u Q I r c;obtain⟨a,xs,l,i,g,c⟩:=c;subst l;cases r;obtain⟨f,d,m,q⟩:=I.tuple i;refine assign_Tuple_tuple (I.ok.hd hc) m (by simp[hn,<- g,d.length]) hst λh' p=>?_;have j:Inv X ag σ H {s with heap:=h'}:=I.kept (t':=s.toks) λb o e=>p b o (nN1 (hL1 e)) e;exact h ag _ σ H xs _ Q j (by simpa using d) c
noncomputable def gSub(to ti:TE)(t:Fk):TG:=λv σ H Q=>to σ H λo H1=>ti σ H1 λi H2=>t o i v H2 λH3=>Q σ H3
theorem DV{o i:Expr}{to ti:TE}{t:Fk}(ho:PE X o to)(hi:PE X i ti)(hs:uN X t)(ha:∀v,assign (.Subscript o i pos) X.env v=(do
   let a<-holding [v] (eval o X.env)
   let b<-holding [v,a] (eval i X.env)
   standAt pos
   holding [v,a,b] (setItem a b v)
   release [v,a,b] []):=by intro _;rfl):PG X (.Subscript o i pos) (gSub to ti t):=by
 intro ag s σ H v u Q I r h;rw[ha];refine wB1 (wpAny_holding (fg (ho ag s σ H _ I h) λa d ⟨x,H1,e,k,l⟩=>?_));refine wB1 (wpAny_holding (fg (hi ag d σ H1 _ e l) λb f ⟨y,H2,m,r2,n⟩=>?_));refine wB1 (wpAny_standAt (wB1 (wpAny_holding (fg (hs ag f σ H2 x y v a b u _ m k r2 r n) λ_ p ⟨j,g,c⟩=>?_))));exact wpAny_release ⟨σ,j,g,c⟩
noncomputable def yh(te:TE)(g:TG):TS:=λD σ H=>te σ H λx H1=>g x σ H1 D.nx
theorem DP{tg e:Expr}{te:TE}{g:TG}(he:PE X e te)(hg:PG X tg g)(hs:swapsWithSole [tg] e pos.line X.env=pure J:=by rfl)(hw:swappedStores [tg] e X.env=pure Y:=by rfl)(h1:(assignEach [tg] X.env).map (·.2)=[assign tg X.env]:=by rfl):PS X (.Assign [tg] e pos) (yh te g):=by
 intro ag s σ H D I h;refine wpAny_Assign_stores (fg (he ag s σ H _ I h) λv a ⟨x,H1,b,c,d⟩=>?_) hs hw;rw[h1];exact fg (hg ag a σ H1 x v _ b c d) λ_ f q=>q
theorem DK{i:Nat}{x:Str}{e:Expr}{te:TE}{pos':Pos}(hN:X.N.Nodup)(hi:X.N[i]? = some x)(hx:uO X.env.scope x)(he:PE X e te)(hs:swapsWith e (some (.Name x pos')) pos.line X.env=pure false:=by rfl)(hf:X.fn x=true\/X.env.scope.names.lookup x=some .local:=by first | exact .inl rfl | exact .inr rfl | assumption):
  PS X (.Assign [.Name x pos'] e pos) (yh te (vL i)):=by
 intro ag s σ H D I h;refine wpAny_Assign_Name (fg (he ag s σ H _ I h) λv f ⟨y,H1,a,b,c⟩=>?_) hs;exact iN a hN hi hx b (λg d=>⟨_,H1,d,c⟩) hf
noncomputable def HP(i j:Nat)(ta:TA):TS:=λD σ H=>ta σ H λvs H1=>∃v w,vs=[v,w]/\D.nx ((σ.set i (Z v)).set j (Z w)) H1
theorem DM{i j:Nat}{x y:Str}{a b:Expr}{ta:TA}{l g pt:Pos}{kt k2 pt2}(hc:X.calm=true)(hN:X.N.Nodup)(hi:X.N[i]? = some x)(u:X.N[j]? = some y)(f:i≠j)(hx:X.env.scope.names.lookup x=some .local)(hy:X.env.scope.names.lookup y=some .local)(ha:PA X [a,b] ta)(hw:swappedStores [.Tuple [.Name x l,.Name y g] kt pt] (.Tuple [a,b] k2 pt2) X.env=pure (some [x,y]))(hs:swapsWithSole [.Tuple [.Name x l,.Name y g] kt pt] (.Tuple [a,b] k2 pt2) pos.line X.env=pure false:=by rfl):
  PS X (.Assign [.Tuple [.Name x l,.Name y g] kt pt] (.Tuple [a,b] k2 pt2) pos) (HP i j ta):=by
 intro ag s σ H D I h;rw[exec_Assign_arm];refine wB1 (wpAny_standAt ?_);rw[hs];refine wB1 (wP1 ?_);rw[aj (by decide)];refine wB1 (Tuple_ (fg (ha _ ag s σ H _ I h) λK d ⟨vs,H1,C,am,m⟩=>?_));obtain⟨v,w,E,m⟩:=m;subst E;obtain⟨c,u2,rfl,A,k⟩:∃c u2,K=[c,u2]/\d7 v c/\d7 w u2:=by
  cases am with
  |cons p q=>
   cases q with
   |cons G z=>
    cases z;exact⟨_,_,O,p,G⟩
 refine wO1 ?_ (by show 2<=dL;decide);have B:Inv X ag σ H1 {d with heap:=d.heap.push {cls:=.type "tuple",data:=.seq [c,u2].toArray}}:=C.kept (t':=d.toks) λb o e=>hP1 _ e;rw[hw];refine wB1 (wP1 ?_);show dM (model X.prog X.w) X.A (do rule "assign.swapped-stores";let items<-unpackItems (.ref d.heap.objs.size) 2 Y;assignInOrder [λv=>bindName X.env y v,λv=>bindName X.env x v] items.reverse;pure Flow.next) _ _ _;refine wB1 (wpAny_rule (wB1 (unpackItems_tuple (items:= #[c,u2]) (I.ok.hd hc) (IsTup.new d.heap _) λh' n=>?_)));have F:=B.kept (h':=h') (t':=d.toks) λb o e=>n b o (nN1 (hL1 e)) e;show dM _ _ (assignInOrder [λv=>bindName X.env y v,λv=>bindName X.env x v] [u2,c] >>= λ_=>pure Flow.next) _ _ _;refine wB1 (assignInOrder_cons (wpAny_bindName (iN F hN u (.inl hy) k (λL t=>?_) (.inr hy))));refine assignInOrder_cons (wpAny_bindName (iN t hN hi (.inl hx) A (λao r=>assignInOrder_nil (wP1 ?_)) (.inr hx)));rw[List.set_comm _ _ (Ne.symm f)]at r;exact⟨_,H1,r,m⟩
noncomputable def HZ(i:Nat)(te:TE)(ti:IK):TS:=λD σ H=>∃x,σ[i]?=Z (Z x)/\te σ H λy H1=>ti x y H1 λz H2=>D.nx (σ.set i (Z z)) H2
theorem DO{i:Nat}{x:Str}{e:Expr}{te:TE}{op:Operator}{ti:IK}{pos':Pos}(hN:X.N.Nodup)(hi:X.N[i]? = some x)(hx:uO X.env.scope x)(he:PE X e te)(ho:HI X op ti)(hf:X.fn x=true\/X.env.scope.names.lookup x=some .local:=by first | exact .inl rfl | exact .inr rfl | assumption):
  PS X (.AugAssign (.Name x pos') op e pos) (HZ i te ti):=by
 intro ag s σ H D I h;obtain⟨v,A,h⟩:=h;obtain⟨m,q,p⟩:=I.loc;have g:Vis X.env.scope x:=by rcases hx with k|k;exact .inl k;exact .inr (.inl k)
 obtain⟨u,r,l⟩:=p i x v hi A g;refine wpAny_AugAssign_Name ?_;have j:dM (model X.prog X.w) X.A (eval e X.env) (λw f=>dM (model X.prog X.w) X.A (inplaceOp op u w) (λr d=>dM (model X.prog X.w) X.A (storeName X.env x r) (λ_=>SP X ag D .next) X.xe d) X.xe f) X.xe s:=by
  refine fg (he ag s σ H _ I h) λw G ⟨y,H1,t,C,E⟩=>?_;refine fg (ho ag G σ H1 v y u w _ t r C E) λz K ⟨am,H2,n,r2,o⟩=>?_;exact iN n hN hi hx r2 (λL B=>⟨_,H2,B,o⟩) hf
 rcases l with⟨a,F⟩|⟨a,c,hc,b⟩
 ·exact wpAny_loadName_local I.ok.kind a q F j
 ·rcases a with a|a
  ·exact wpAny_loadName_cell I.ok.kind a hc b j
  ·rcases hx with k|k
   ·have:X.env.scope.names.lookup x=Z .free:=a;rw[k]at this;cases this
   ·have:X.env.scope.names.lookup x=Z .free:=a;rw[k]at this;cases this
noncomputable def yf(c:TT)(tb:TS):TS:=λD σ H=>∃W:Nat->St->Hp->Prop,(∃m,W m σ H) /\ ∀m σ H,W m σ H ->
 c σ H λb H1=>if b=M then∃N:St->Hp->Prop,(∀ σ' H',N σ' H' -> ∃m',m'<m/\W m' σ' H')/\tb {D with nx:=N,ct:=N,bk:=D.nx} σ H1 else D.nx σ H1
theorem yH{c:Expr}{e:List dQ}{tc:TT}{tb:TS}(hp:PassesOwn (model X.prog X.w) X.A X.env X.xe)(hc:PT X c tc)(hb:tG X e tb):PS X (.While c e [] pos) (yf tc tb):=by
 intro ag s σ H D I h;obtain⟨W,⟨y,B⟩,j⟩:=h;refine wpAny_While (codeAny_whileLoop (λn s'=>∃i H',Inv X ag i H' s'/\W n i H') ?_ y ⟨σ,H,I,B⟩);rintro n A ⟨d,H1,z,w⟩;refine wpAny_passesOwn hp (fg (hc ag A d H1 _ z (j n d H1 w)) λb x ⟨H2,t,k⟩=>?_);cases b with
 |true=>
  obtain⟨N,u,k⟩:=k;rw[ak O];refine wpAny_passesOwn hp (fg (hb ag x d H2 _ t k) λf C l=>?_);cases f with
  |next=>
   obtain⟨a,g,q,m⟩:=l;obtain⟨p,r,o⟩:=u a g m;exact⟨p,r,a,g,q,o⟩
  |cont=>
   obtain⟨a,g,q,m⟩:=l;obtain⟨p,r,o⟩:=u a g m;exact⟨p,r,a,g,q,o⟩
  |brk=>exact l
  |ret v=>exact l
 |false=>
  rw[aj aK];exact wpAny_execs_nil ⟨d,H2,t,k⟩
end
structure It where
 go:Nat->Hp->Prop
 yld:Nat->Hp->V->Hp->Prop
 stop:Nat->Hp->Prop
def jt(X:Cx)(ag:List (dE×Obj))(H:Hp)(b:dE):Prop:=
 H b=Y/\b≠X.env.locals/\b∉X.fs/\(b∈X.ex\/X.s₀.heap.objs.size<=b)/\(∀x c,X.env.cells.lookup x=Z c->c≠b) /\ ∀p∈X.pn++ag,p.1≠b
theorem Inv.fpOk{X:Cx}{ag:List (dE×Obj)}{σ:St}{H H':Hp}{s:dD}{b:dE}(I:Inv X ag σ H s)(hb:s.heap.objs.size<=b)(hn:H' b=Y):jt X ag H' b:=by
 refine⟨hn,nG1 (nL1 I.lt hb),I.nofs hb,.inr (aC I.sz hb),λx c e z=>?_,λp a z=>?_⟩
 ·obtain⟨v,q⟩:=I.cell x c e;exact absurd (nL1 q.lt (by rw[z];exact hb)) (az _)
 ·exact absurd (nL1 (hL1 (I.pin p a).1) (by rw[z];exact hb)) (az _)
structure tq (P:dF)(w:dH)(K:Fg1)(tg:Expr)(am:It)(fp:List dE)(it:dE)(tn:Nat->dN->Prop):Prop where
 mem:it∈fp
 obj:∀i h,tn i h -> ∀b∈fp,∃o,h.get? b=some o /\ ∀v,o.data ≠ .cell v
 keep:∀i h h',tn i h->(∀b∈fp,∀o,h.get? b=some o->h'.get? b=some o)->tn i h'
 item:∀(X:Cx),X.prog=P->X.w=w->X.K=K->X.calm=true -> ∀(i:Nat) (ag:List (dE×Obj)) (s:dD) (σ:St) (H:Hp) (E:dB->dD->Prop),Inv X ag σ H s->(∀b∈fp,jt X ag H b)->tn i s.heap->am.go i H ->
  dM (model P w) X.A (pyNext (.ref it)) (λr s1=>∃u,r=some u /\
   dM (model P w) X.A (letOwnedTupleGo tg (.ref it) u) (λ_ s2=>∃x H',Inv X ag σ H' s2/\d7 x u/\am.yld i H x H'/\tn (i+1) s2.heap /\ ∀b∈fp,H' b=none) E s1) E s
 done:∀(X:Cx),X.prog=P->X.w=w->X.K=K->X.calm=true -> ∀(i:Nat) (ag:List (dE×Obj)) (s:dD) (σ:St) (H:Hp) (E:dB->dD->Prop),Inv X ag σ H s->(∀b∈fp,jt X ag H b)->tn i s.heap->am.stop i H ->
  dM (model P w) X.A (pyNext (.ref it)) (λr s1=>r=none/\Inv X ag σ H s1) E s
 self:∀(A:dG) (i:Nat) (s:dD) (Q:dB->dD->Prop) (E:dB->dD->Prop),tn i s.heap->Q (.ref it) s->dM (model P w) A (pyIter (.ref it)) Q E s
abbrev TI:=St->Hp->(It->Hp->Prop)->Prop
def Jf(X:Cx)(ag:List (dE×Obj))(σ:St)(tg:Expr)(R:It->Hp->Prop)(itv:dB)(s2:dD):Prop:=
 ∃(it:dE) (fp:List dE) (tn:Nat->dN->Prop) (am:It) (H':Hp),itv = .ref it/\Inv X ag σ H' s2/\tq X.prog X.w X.K tg am fp it tn/\tn 0 s2.heap/\(∀b∈fp,jt X ag H' b)/\R am H'
def PI(X:Cx)(tg iter:Expr)(wi:TI):Prop:=
 ∀(ag:List (dE×Obj)) (s:dD) (σ:St) (H:Hp) (R:It->Hp->Prop),Inv X ag σ H s->wi σ H R ->
  dM (model X.prog X.w) X.A (eval iter X.env) (λv s1=>dM (model X.prog X.w) X.A (pyIter v) (Jf X ag σ tg R) X.xe s1) X.xe s
theorem vJ {ao:Model}{A:dG}{E:dB->dD->Prop}{s:dD}{tg:Expr}{it:dE}{u:dB}{o:Obj}{n:String}{vs:Array dB}{Q:Unit->dD->Prop}(ho:s.heap.get? it=some o)(hc:o.cls = .type n)(hd:o.data = .fields vs)
   (hn:["enumerate","zip","dict_itemiterator","dict_reverseitemiterator","odict_iterator","itertools.zip_longest","itertools.pairwise"].contains n=J) (a:Q () s):dM ao A (letOwnedTupleGo tg (.ref it) u) Q E s:=by
 unfold letOwnedTupleGo;cases tg <;> first
   |exact wP1 a
   | (cases u<;>first
       |exact wP1 a
       | (refine wB1 (wpAny_load ho ?_)
          rw[hc,hd];show dM ao A (if(["enumerate","zip","dict_itemiterator","dict_reverseitemiterator","odict_iterator","itertools.zip_longest","itertools.pairwise"].contains n&&vs[0]? == Z (rawInt _))=M then _ else _) Q E s;rw[aj (by intro h;rw[hn,Bool.false_and]at h;cases h)];exact wP1 a))
noncomputable def Jj(K:Fg1)(a:dE):It:=
 ⟨λi H=>∃xs x,lV K H a xs/\xs[i]?=Z x,λi H x H'=>H'=H /\ ∀xs,lV K H a xs->xs[i]?=Z x,λi H=>∃xs,lV K H a xs/\xs.length<=i⟩
noncomputable def Ji(K:Fg1)(a:dE):It:=
 ⟨λi H=>∃xs x,jn K H a xs/\xs[i]?=Z x,λi H x H'=>H'=H /\ ∀xs,jn K H a xs->xs[i]?=Z x,λi H=>∃xs,jn K H a xs/\xs.length<=i⟩
noncomputable def Hn(lo:Int)(n:Nat):It:=⟨λi _=>i<n,λi H x H'=>H'=H/\x = .int (lo+i),λi _=>n<=i⟩
theorem wp{P:dF}{w:dH}{K:Fg1}{tg:Expr}(a it:dE):tq P w K tg (Jj K a) [it] it (λi h=>h.IsListIter it a i) where
 mem:=by simp
 obj:=λi h st b f=>by
  have e:b=it:=by simpa using f
  subst e;obtain⟨o,e,c,d⟩:=st;exact⟨o,e,λv z=>by rw[d]at z;cases z⟩
 keep:=λi h h' st k=>st.at λo e=>k it (by simp) o e
 item:=by
  intro X A m F hc i ag s σ H E I g st D;subst A m F;obtain⟨xs,x,j,q⟩:=D;obtain⟨l,n,p,G⟩:=I.list j;obtain⟨u,L,R⟩:=n.get q;obtain⟨r,t,am,B,C,y⟩:=g it (by simp);refine wpAny_pyNext_list_item st p.isList (x:=u) (by simpa using L) λh' st' ao=>?_;have N:Inv X ag σ H {s with heap:=h'}:=I.turned (t':=s.toks) (λb o f e=>(ao.2 b f).trans e) r t B C y;obtain⟨o,e,c,d⟩:=id st';exact⟨u,O,vJ (s:={s with heap:=h'}) e c d (by decide) ⟨x,H,N,R,⟨O,λys au=>by rw[I.list_inj au j];exact q⟩,st',λb f=>(g b f).1⟩⟩
 done:=by
  intro X A m F hc i ag s σ H E I g st D;subst A m F;obtain⟨xs,j,q⟩:=D;obtain⟨l,n,p,G⟩:=I.list j;obtain⟨r,t,am,B,C,y⟩:=g it (by simp);have S:=n.length;exact wpAny_pyNext_list_end (I.ok.hd hc) st p.isList (by simp;lia) λh' Q=>⟨O,I.turned (t':=s.toks) (λb o f e=>Q b o f e) r t B C y⟩
 self:=λ_ _ _ _ _ st h=>wpAny_pyIter_listiter st h
theorem tT{P:dF}{w:dH}{K:Fg1}{tg:Expr}(a it:dE):tq P w K tg (Ji K a) [it] it (λi h=>h.IsTupleIter it a i) where
 mem:=by simp
 obj:=λi h st b g=>by
  have e:b=it:=by simpa using g
  subst e;obtain⟨o,e,c,d⟩:=st;exact⟨o,e,λv z=>by rw[d]at z;cases z⟩
 keep:=λi h h' st k=>st.at λo e=>k it (by simp) o e
 item:=by
  intro X A m F hc i ag s σ H E I j st D;subst A m F;obtain⟨xs,x,l,q⟩:=D;obtain⟨f,n,p,G⟩:=I.tuple l;obtain⟨u,L,R⟩:=n.get q;obtain⟨r,t,am,B,C,y⟩:=j it (by simp);refine wpAny_pyNext_tuple_item st (show s.heap.IsTuple a f.toArray from p) (x:=u) (by simpa using L) λh' st' ao=>?_;have N:Inv X ag σ H {s with heap:=h'}:=I.turned (t':=s.toks) (λb o g e=>(ao.2 b g).trans e) r t B C y;obtain⟨o,e,c,d⟩:=id st';exact⟨u,O,vJ (s:={s with heap:=h'}) e c d (by decide) ⟨x,H,N,R,⟨O,λys au=>by rw[I.tuple_inj au l];exact q⟩,st',λb g=>(j b g).1⟩⟩
 done:=by
  intro X A m F hc i ag s σ H E I j st D;subst A m F;obtain⟨xs,l,q⟩:=D;obtain⟨f,n,p,G⟩:=I.tuple l;obtain⟨r,t,am,B,C,y⟩:=j it (by simp);have S:=n.length;exact wpAny_pyNext_tuple_end (I.ok.hd hc) st (show s.heap.IsTuple a f.toArray from p) (by simp;lia) λh' Q=>⟨O,I.turned (t':=s.toks) (λb o g e=>Q b o g e) r t B C y⟩
 self:=λ_ _ _ _ _ st h=>wpAny_pyIter_tupleiter st h
theorem tU{P:dF}{w:dH}{K:Fg1}{tg:Expr}(it:dE)(lo:Int)(n:Nat):tq P w K tg (Hn lo n) [it] it (λi h=>IsRangeIter h it (lo+(i:Nat)*1) ((n:Int)-(i:Nat)) 1) where
 mem:=by simp
 obj:=λi h st b a=>by
  have e:b=it:=by simpa using a
  subst e;exact⟨_,st,λv z=>by
   have y:Data.fields _=Data.cell v:=z;cases y⟩
 keep:=λi h h' st k=>k it (by simp) _ st
 item:=by
  intro X p g d hc i ag s σ H E I c st m;subst p g d;obtain⟨r,f,x,q,l,j⟩:=c it (by simp);have W:=Walks.range (prog:=X.prog) (w:=X.w) (I.ok.hd hc) it lo 1 n;refine W.item i s _ _ m st λv h' tk A st' C=>?_;obtain⟨t,rfl⟩:=A;have u:Inv X ag σ H {s with heap:=h',toks:=tk}:=I.turned (λb o a e=>C b o (by simpa using a) e) r f q l j;refine⟨_,O,vJ (s:={s with heap:=h',toks:=tk}) (n:="range_iterator") st' O O (by decide) ⟨.int (lo+i),H,u,⟨t,?_⟩,⟨O,O⟩,st',λb a=>(c b a).1⟩⟩;rw[Int.mul_one]
 done:=by
  intro X p g d hc i ag s σ H E I c st m;subst p g d;obtain⟨r,f,x,q,l,j⟩:=c it (by simp);exact wpAny_pyNext_range_end (I.ok.hd hc) st (by have:n<=i:=m;lia) λh' B=>⟨O,I.turned (t':=s.toks) (λb o a e=>B b o a e) r f q l j⟩
 self:=λ_ _ _ _ _ st h=>wpAny_pyIter_rangeiter st h
end L2
namespace L2
open PySem PySem.Spec PyProof.Rows
section
variable{X:Cx}{tg:Expr}
noncomputable def GK(K:Fg1)(tl:TE):TI:=fun σ H R=>tl σ H λx H1=>∃a,x = .ref a/\(∃xs,lV K H1 a xs)/\R (Jj K a) H1
noncomputable def Iy(K:Fg1)(tl:TE):TI:=fun σ H R=>tl σ H λx H1=>∃a,x = .ref a/\(∃xs,jn K H1 a xs)/\R (Ji K a) H1
theorem Bh{l:Expr}{tl:TE}(g:PE X l tl):PI X tg l (GK X.K tl):=by
 intro ag s σ H R I h;refine fg (g ag s σ H _ I h) λv d ⟨x,H1,c,k,m⟩=>?_;obtain⟨a,e,⟨xs,i⟩,q⟩:=m;subst e;cases k;obtain⟨f,r,p,n⟩:=c.list i;refine wpAny_pyIter_list p.isList ?_;refine⟨d.heap.objs.size,[d.heap.objs.size],_,_,H1,O,c.kept (t':=d.toks) λb o e=>hP1 _ e,wp a _,⟨_,hS1 _ O,O,O⟩,λb j=>?_,q⟩;have e:b=d.heap.objs.size:=by simpa using j
 subst e;exact c.fpOk (nR1 _) (c.hok.fresh (nR1 _))
theorem DS{l:Expr}{tl:TE}(g:PE X l tl):PI X tg l (Iy X.K tl):=by
 intro ag s σ H R I h;refine fg (g ag s σ H _ I h) λv c ⟨x,H1,d,k,m⟩=>?_;obtain⟨a,e,⟨xs,i⟩,q⟩:=m;subst e;cases k;obtain⟨f,r,p,n⟩:=d.tuple i;refine wpAny_pyIter_tuple (show c.heap.IsTuple a f.toArray from p) ?_;refine⟨c.heap.objs.size,[c.heap.objs.size],_,_,H1,O,d.kept (t':=c.toks) λb o e=>hP1 _ e,tT a _,⟨_,hS1 _ O,O,O⟩,λb j=>?_,q⟩;have e:b=c.heap.objs.size:=by simpa using j
 subst e;exact d.fpOk (nR1 _) (d.hok.fresh (nR1 _))
theorem rG{ag:List (dE×Obj)}{σ:St}{H:Hp}{s:dD}{R:It->Hp->Prop}{E:dB->dD->Prop}{lo hi:Int}{t u v:Tok}{tk:Nat}(I:Inv X ag σ H s)(h1: -(2^62)<=lo)(h2:lo<2^62)(h: -(2^62)<=hi)(c:hi<2^62)(q:R (Hn lo (hi-lo).toNat) H):dM (model X.prog X.w) X.A (pyIter (.ref s.heap.objs.size)) (Jf X ag σ tg R) E {s with heap:=s.heap.push {cls:=.type "range",data:=.fields #[.int lo t,.int hi u,.int 1 v]},toks:=tk}:=by
 refine wpAny_pyIter_range (IsRange.new ..) (small_one h1 h2 h c) ?_;have a:Inv X ag σ H {s with heap:=s.heap.push {cls:=.type "range",data:=.fields #[.int lo t,.int hi u,.int 1 v]},toks:=tk}:=I.kept λb o e=>hP1 _ e;refine⟨(s.heap.push {cls:=.type "range",data:=.fields #[.int lo t,.int hi u,.int 1 v]}).objs.size,[(s.heap.push {cls:=.type "range",data:=.fields #[.int lo t,.int hi u,.int 1 v]}).objs.size],_,_,H,O,
  a.kept (t':=tk) λb o e=>hP1 _ e,tU _ lo (hi-lo).toNat,?_,λb f=>?_,q⟩
 ·have g:lo+((0:Nat):Int)*1=lo:=by simp
  have d:(((hi-lo).toNat:Nat):Int)-((0:Nat):Int)=Builtin.Range.rangeSize lo hi 1:=by rw[rangeSize_one];split<;>lia
  show IsRangeIter _ _ (lo+((0:Nat):Int)*1) ((((hi-lo).toNat:Nat):Int)-((0:Nat):Int)) 1;rw[g,d];exact hS1 _ O
 ·have e:b=(s.heap.push {cls:=.type "range",data:=.fields #[.int lo t,.int hi u,.int 1 v]}).objs.size:=by simpa using f
  subst e;exact a.fpOk (nR1 _) (a.hok.fresh (nR1 _))
noncomputable def GI(ta:TA):TI:=fun σ H R=>ta σ H λvs H1=>∃j:Int,vs=[.int j] /\ -(2^62)<=j/\j<2^62/\R (Hn 0 j.toNat) H1
noncomputable def GH(ta:TA):TI:=fun σ H R=>ta σ H λvs H1=>∃i j:Int,vs=[.int i,.int j]/\(-(2^62)<=i/\i<2^62 /\ -(2^62)<=j/\j<2^62)/\R (Hn i (j-i).toNat) H1
theorem wE {a:Expr}{ta:TA}{p pos:Pos}(hg:Gl X "range")(hm:X.mg "range"=Y)(ha:PA X [a] ta)(hs:dJ [a] X.env=[(J,eval a X.env)]:=by rfl):PI X tg (.Call (.Name "range" p) [a] [] pos) (GI ta):=by
 intro ag s σ H R I h;refine Call_ (jF I hg hm boot_range (PyProof.Rows.callWith_type1 (fg (ha pos ag s σ H _ I h) λk i ⟨vs,H1,d,f,b⟩=>?_) hs O));obtain⟨j,e,b,g,q⟩:=b;subst e;cases f with
 |cons r c=>
  cases c;obtain⟨t,rfl⟩:=r;exact call_range_1 (rG d (by lia) (by lia) b g (by simpa using q))
theorem wD {a b:Expr}{ta:TA}{p pos:Pos}(hg:Gl X "range")(hm:X.mg "range"=none)(ha:PA X [a,b] ta)(hs:dJ [a,b] X.env=[(false,eval a X.env),(false,eval b X.env)]:=by rfl)(hs2:dJ [b] X.env=[(false,eval b X.env)]:=by rfl):
  PI X tg (.Call (.Name "range" p) [a,b] [] pos) (GH ta):=by
 intro ag s σ H R I h;refine Call_ (jF I hg hm boot_range (PyProof.Rows.callWith_type1 (fg (ha pos ag s σ H _ I h) λv o ⟨vs,H1,g,m,d⟩=>?_) (by rw[hs,hs2]) (by rw[hs2];rfl)));obtain⟨i,j,e,⟨d,n,f,k⟩,q⟩:=d;subst e;cases m with
 |cons r c=>
  cases c with
  |cons l c=>
   cases c;obtain⟨t,rfl⟩:=r;obtain⟨u,rfl⟩:=l;exact call_range_2 (rG g d n f k q)
noncomputable def FQ(wi:TI)(g:TG)(tb:TS):TS:=λD σ H=>wi σ H λam H1=>∃W:Nat->Nat->St->Hp->Prop,(∃m,W 0 m σ H1) /\ ∀i m σ H,W i m σ H ->
 (am.stop i H/\D.nx σ H)\/(am.go i H /\ ∃N:St->Hp->Prop,(∀ σ' H',N σ' H' -> ∃m',m'<m/\W (i+1) m' σ' H') /\ ∀x H',am.yld i H x H'->g x σ H' fun σ2 H2=>tb {D with nx:=N,ct:=N,bk:=D.nx} σ2 H2)
noncomputable def mO(fp:List dE)(h:dN):List (dE×Obj):=fp.filterMap λb=>(h.get? b).map λo=>(b,o)
theorem iC{a:List dE}{h:dN}{b:dE}{o:Obj}(hb:b∈a)(e:h.get? b=Z o):(b,o)∈mO a h:=aL.mpr ⟨b,hb,by rw[e];rfl⟩
theorem wG{a:List dE}{h:dN}{p:dE×Obj}(hp:p∈mO a h):p.1∈a/\h.get? p.1=Z p.2:=by
 obtain⟨b,c,e⟩:=aL.mp hp;cases q:h.get? b with
 |none=>rw[q]at e;cases e
 |some o=>
  rw[q]at e;have d:(b,o)=p:=Option.some.inj e;subst d;exact⟨c,q⟩
theorem Inv.pinned{ag:List (dE×Obj)}{σ:St}{H:Hp}{s:dD}{a:List dE}(I:Inv X ag σ H s)(hf:∀b∈a,jt X ag H b)(ho:∀b∈a,∃o,s.heap.get? b=Z o /\ ∀v,o.data ≠ .cell v):Inv X (ag++mO a s.heap) σ H s:=
 I.pins_of λp j=>(aG.mp j).elim (λz=>I.pin p (mA1 _ z)) λz=>by
  obtain⟨c,e⟩:=wG z;obtain⟨i,g,h,_⟩:=hf p.1 c;obtain⟨o,f,d⟩:=ho p.1 c;rw[e]at f;cases f;exact⟨e,i,g,h,d⟩
theorem Inv.unpinned{ag pl:List (dE×Obj)}{σ:St}{H:Hp}{s:dD}(I:Inv X (ag++pl) σ H s):Inv X ag σ H s:=I.pins_of λp a=>I.pin p (mA1 _ (aH _ a))
theorem DN{iter:Expr}{t:List dQ}{U:TI}{g:TG}{tb:TS}{pos:Pos}(hp:PassesOwn (model X.prog X.w) X.A X.env X.xe)(hc:X.calm=M)(hi:PI X tg iter U)(hg:PG X tg g)(hb:tG X t tb)(hs:∀x,foldedSetIterable iter X.env x=pure x:=by intro _;rfl):PS X (.For tg iter t [] pos) (FQ U g tb):=by
 intro ag s σ H D I h;refine wpAny_For (fg (hi ag s σ H _ I h) λv s1 h1=>fg h1 λitv s2 h2=>?_) hs;obtain⟨it,E,aq,am,H2,e,I2,T,au,Q,W,⟨m0,w0⟩,B⟩:=h2;subst e
 -- what stays M of the iterator's objects through the loop
 have p:∀{H':Hp},(∀b∈E,H' b=Y) -> ∀b∈E,jt X ag H' b:=λhn b hb=>⟨hn b hb,(Q b hb).2⟩;refine codeAny_forLoop_any (λn s'=>∃i k H',Inv X ag k H' s'/\aq i s'.heap/\(∀b∈E,H' b=Y)/\W i n k H') ?_ m0 ⟨0,σ,H2,I2,au,λb hb=>(Q b hb).1,w0⟩;rintro n R ⟨i,l,F,S,y,C,w3⟩;rcases B i n l F w3 with⟨A,qn⟩|⟨go,N,hN,step⟩
 ·refine wpAny_passesOwn hp (fg (T.done X O O O hc i ag R l F X.xe S (p C) y A) λr s4 ⟨L,I4⟩=>?_);subst L;exact wpAny_execs_nil ⟨l,F,I4,qn⟩
 ·refine wpAny_passesOwn hp (fg (T.item X rfl rfl rfl hc i ag R l F X.xe S (p C) y go) fun r s4 ⟨u,L,h4⟩=>?_);subst L;refine wpAny_passesOwn hp (fg h4 fun _ wq ⟨x,V,I5,r5,y5,w,P⟩=>?_);have ao:=I5.pinned (p P) (T.obj _ _ w);refine wpAny_passesOwn hp (fg (hg _ wq l V x u _ ao r5 (step x V y5)) fun _ s6 ⟨K,H6,I6,q6⟩=>?_);refine wpAny_passesOwn hp (fg (hb _ s6 K H6 _ I6 q6) fun f G q=>?_);have again:∀ {a:St} {c:Hp},Inv X (ag++mO E wq.heap) a c G->N a c -> ∃ m,m<n /\ ∃ i k H',Inv X ag k H' G/\aq i G.heap/\(∀ b∈E,H' b=none)/\W i m k H':=fun {a c} j z=>by
   obtain⟨m',hm,w7⟩:=hN a c z;refine⟨m',hm,i+1,a,c,j.unpinned,T.keep _ _ _ w λb hb o e=>(j.pin (b,o) (mA1 _ (mA1 _ (iC hb e)))).1,λb hb=>?_,w7⟩;obtain⟨o,e,d⟩:=T.obj _ _ w b hb;exact(j.pin (b,o) (mA1 _ (mA1 _ (iC hb e)))).2.1
  cases f with
  |next=>obtain⟨a,c,j,z⟩:=q;exact again j z
  |cont=>obtain⟨a,c,j,z⟩:=q;exact again j z
  |brk=>obtain⟨a,c,j,q⟩:=q;exact⟨a,c,j.unpinned,q⟩
  |ret v=>obtain⟨x7,a,c,j,r7,q⟩:=q;exact⟨x7,a,c,j.unpinned,r7,q⟩
end
end L2
namespace L2
open PySem PySem.Spec PyProof.Rows
abbrev R2:=V->V->Hp->VK->Prop
def gn(X:Cx)(f:dB->dB->Sem dB)(r:R2):Prop:=
 ∀(ag:List (dE×Obj)) (s:dD) (σ:St) (H:Hp) (x y:V) (v u:dB) (Q:VK),Inv X ag σ H s->d7 x v->d7 y u->r x y H Q ->
  dM (model X.prog X.w) X.A (f v u) (EP X ag σ Q) X.xe s
def Fu(X:Cx)(f:dB->Sem dB)(r:V->Hp->VK->Prop):Prop:=
 ∀(ag:List (dE×Obj)) (s:dD) (σ:St) (H:Hp) (x:V) (v:dB) (Q:VK),Inv X ag σ H s->d7 x v->r x H Q ->
  dM (model X.prog X.w) X.A (f v) (EP X ag σ Q) X.xe s
def fj(X:Cx)(f:dB)(r:List V->Hp->VK->Prop):Prop:=
 ∀(ag:List (dE×Obj)) (s:dD) (σ:St) (H:Hp) (xs:List V) (us:List dB) (Q:VK),Inv X ag σ H s->ei xs us->r xs H Q ->
  dM (model X.prog X.w) X.A (call f us) (EP X ag σ Q) X.xe s
def IJ(X:Cx)(r:V->Hp->(Bool->Hp->Prop)->Prop):Prop:=
 ∀(ag:List (dE×Obj)) (s:dD) (σ:St) (H:Hp) (x:V) (v:dB) (Q:Bool->Hp->Prop),Inv X ag σ H s->d7 x v->r x H Q ->
  dM (model X.prog X.w) X.A (truthy v) (TP X ag σ Q) X.xe s
noncomputable def FL(r:R2)(ta tb:TE):TE:=fun σ H Q=>ta σ H λx H1=>tb σ H1 λy H2=>r x y H2 Q
def IQ(r:V->Hp->VK->Prop)(ta:TE):TE:=fun σ H Q=>ta σ H λx H1=>r x H1 Q
def rI(C:Int->Int->Prop)(g:Int->Int->V):R2:=λx y H Q=>∃i j,x = .int i/\y = .int j/\C i j/\Q (g i j) H
noncomputable def CL(g:Int->Int->V):R2:=λx y H Q=>∃i j,x = .int i/\y = .int j/\Q (g i j) H
def rU(g:Int->V):V->Hp->VK->Prop:=λx H Q=>∃i,x = .int i/\Q (g i) H
section
variable{X:Cx}{a b c:Expr}{ta tb tc:TE}{pos:Pos}
theorem Fa(ha:PE X a ta)(hb:PE X b tb){ag:List (dE×Obj)}{s:dD}{σ:St}{H:Hp}{R:V->V->Hp->Prop}(I:Inv X ag σ H s)(h:ta σ H fun x H1=>tb σ H1 fun y H2=>R x y H2){Q:dB->dD->Prop}{f:dB->dB->Sem dB}(hf:∀v u e x y H2,Inv X ag σ H2 e->d7 x v->d7 y u->R x y H2->dM (model X.prog X.w) X.A (f v u) Q X.xe e):
  dM (model X.prog X.w) X.A (eval a X.env) (λv d=>dM (model X.prog X.w) X.A (eval b X.env) (λu c=>dM (model X.prog X.w) X.A (f v u) Q X.xe c) X.xe d) X.xe s:=by
 refine fg (ha ag s σ H _ I h) λv g ⟨x,H1,i,j,k⟩=>?_;refine fg (hb ag g σ H1 _ i k) λu e ⟨y,H2,l,r2,m⟩=>?_;exact hf v u e x y H2 l j r2 m
theorem Ga{op:Operator}{r:R2}(ho:gn X (binaryOp op) r)(ha:PE X a ta)(hb:PE X b tb):PE X (.BinOp a op b pos) (FL r ta tb):=by
 intro ag s σ H Q I h;exact wpAny_BinOp (Fa ha hb I h λv u c x y H2 f e d q=>ho ag c σ H2 x y v u Q f e d q)
theorem F9{op:UnaryOp}{r:V->Hp->VK->Prop}(ho:Fu X (unaryOp op) r)(ha:PE X a ta):PE X (.UnaryOp op a pos) (IQ r ta):=by
 intro ag s σ H Q I h;exact UnaryOp_ (fg (ha ag s σ H _ I h) λv d ⟨x,H1,e,c,b⟩=>ho ag d σ H1 x v Q e c b)
theorem Hw{f:dB->dB->Sem dB}{C:Int->Int->Prop}{g:Int->Int->Int}(a:∀(i j:Int) (t u:Tok) (s:dD) (Q:dB->dD->Prop) (E:dB->dD->Prop),C i j->Q (.int (g i j) s.toks) {s with toks:=s.toks+1}->dM (model X.prog X.w) X.A (f (.int i t) (.int j u)) Q E s):
  gn X f (rI C λi j=>.int (g i j)):=by
 intro ag s σ H x y v u Q I d b h;obtain⟨i,j,rfl,rfl,hc,q⟩:=h;obtain⟨t,rfl⟩:=d;obtain⟨c,rfl⟩:=b;exact a i j t c s _ _ hc ⟨.int (g i j),H,I.tok _,⟨_,O⟩,q⟩
theorem D9{f:dB->dB->Sem dB}{g:Int->Int->Int}(a:∀(i j:Int) (t u:Tok) (s:dD) (Q:dB->dD->Prop) (E:dB->dD->Prop),Q (.int (g i j) s.toks) {s with toks:=s.toks+1}->dM (model X.prog X.w) X.A (f (.int i t) (.int j u)) Q E s):
  gn X f (CL λi j=>.int (g i j)):=by
 intro ag s σ H x y v u Q I d b h;obtain⟨i,j,rfl,rfl,q⟩:=h;obtain⟨t,rfl⟩:=d;obtain⟨c,rfl⟩:=b;exact a i j t c s _ _ ⟨.int (g i j),H,I.tok _,⟨_,O⟩,q⟩
theorem Gh{f:dB->dB->Sem dB}{g:Int->Int->Bool}(a:∀(i j:Int) (t u:Tok) (s:dD) (Q:dB->dD->Prop) (E:dB->dD->Prop),Q (.bool (g i j)) s->dM (model X.prog X.w) X.A (f (.int i t) (.int j u)) Q E s):
  gn X f (CL λi j=>.bl (g i j)):=by
 intro ag s σ H x y v u Q I d b h;obtain⟨i,j,rfl,rfl,q⟩:=h;obtain⟨t,rfl⟩:=d;obtain⟨c,rfl⟩:=b;exact a i j t c s _ _ ⟨.bl (g i j),H,I,O,q⟩
def Hr(i j:Int):Prop:=0<j/\j<1073741824
def Hq(i j:Int):Prop:=0<=j/\j<=1000000/\i.natAbs<2^64
theorem D8:gn X (binaryOp .Add) (CL λi j=>.int (i+j)):=D9 λ_ _ _ _ _ _ _ q=>add_int q
theorem D3:gn X (binaryOp .Sub) (CL λi j=>.int (i-j)):=D9 λ_ _ _ _ _ _ _ q=>sub_int q
theorem Bp:gn X (binaryOp .FloorDiv) (rI Hr λi j=>.int (i/j)):=Hw λi j _ _ _ _ _ hc q=>by
 have h1:(0:Int)<j:=hc.1;have h2:j<1073741824:=hc.2;exact floordiv_int (by lia) (by rw[Int.fdiv_eq_ediv_of_nonneg i (by lia)];exact q) (.inl (PyProof.noPylong_small (by lia)))
theorem D5:gn X (binaryOp .Mod) (rI (λ_ j=>0<j) λi j=>.int (i%j)):=Hw λi j _ _ _ _ _ hc q=>by
 have h1:(0:Int)<j:=hc;exact mod_int' (by lia) (by rw[Int.fmod_eq_emod_of_nonneg i (by lia)];exact q)
theorem D4:gn X (binaryOp .Pow) (rI Hq λi j=>.int (i^j.toNat)):=Hw λ_ _ _ _ _ _ _ hc q=>pow_int_small hc.1 hc.2.1 hc.2.2 q
theorem BZ:gn X (inplaceOp .Add) (CL λi j=>.int (i+j)):=D9 λ_ _ _ _ _ _ _ q=>iadd_int q
theorem Jm{f:dB->Sem dB}{g:Int->Int}(a:∀(i:Int) (t:Tok) (s:dD) (Q:dB->dD->Prop) (E:dB->dD->Prop),Q (.int (g i) s.toks) {s with toks:=s.toks+1}->dM (model X.prog X.w) X.A (f (.int i t)) Q E s):
  Fu X f (rU λi=>.int (g i)):=by
 intro ag s σ H x v Q I b h;obtain⟨i,rfl,q⟩:=h;obtain⟨t,rfl⟩:=b;exact a i t s _ _ ⟨.int (g i),H,I.tok _,⟨_,O⟩,q⟩
theorem Db:Fu X (unaryOp .USub) (rU λi=>.int (-i)):=Jm λ_ _ _ _ _ q=>neg_int q
theorem zY{ag:List (dE×Obj)}{σ:St}{H:Hp}{s:dD}{Q:VK}{k k':Bool}(I:Inv X ag σ H s)(q:Q (.bl k) H)(e:k=k'):EP X ag σ Q (.bool k') s:=by
 subst e;exact⟨.bl k,H,I,O,q⟩
theorem Gf:gn X (compareOp .Gt) (CL λi j=>.bl (decide (j<i))):=Gh λ_ _ _ _ _ _ _ q=>gt_int q
theorem Gg:gn X (compareOp .GtE) (CL λi j=>.bl (decide (j<=i))):=Gh λ_ _ _ _ _ _ _ q=>ge_int q
theorem D6:gn X (compareOp .Is) (λx y H Q=>y = .non/\Q (.bl (decide (x = .non))) H):=by
 intro ag s σ H x y v u Q I a b h;obtain⟨rfl,q⟩:=h;cases b;refine is_none_gen (zY I q ?_);cases x<;>first
  |(cases a;rfl)
  |(obtain⟨t,rfl⟩:=a;rfl)
theorem Bo:gn X (compareOp .IsNot) (λx y H Q=>y = .non/\Q (.bl (!decide (x = .non))) H):=by
 intro ag s σ H x y v u Q I a b h;obtain⟨rfl,q⟩:=h;cases b;refine isnot_none_gen (zY I q ?_);cases x<;>first
  |(cases a;rfl)
  |(obtain⟨t,rfl⟩:=a;rfl)
theorem ze(b:Expr){op:CmpOp}(h:op ≠ .In:=by decide)(h2:op ≠ .NotIn:=by decide):behindInMarks op b=J:=by
 have c:(op == CmpOp.In)=J:=by cases op<;>first|rfl|exact absurd rfl h
 have a:(op == CmpOp.NotIn)=J:=by cases op<;>first|rfl|exact absurd rfl h2
 cases b<;>simp[behindInMarks,c,a]
theorem Bm{op:CmpOp}{r:R2}(ho:gn X (compareOp op) r)(ha:PE X a ta)(hb:PE X b tb)(hm:behindInMarks op b=J):PE X (.Compare a [op] [b] pos) (FL r ta tb):=by
 intro ag s σ H Q I h;exact wpAny_Compare1 (Fa ha hb I h λv u c x y H2 f e d q=>ho ag c σ H2 x y v u Q f e d q) hm
noncomputable def FF(t:TE):TT:=fun σ H Q=>t σ H λx H'=>∃k,x = .bl k/\Q k H'
theorem A7{op:CmpOp}{r:R2}(ho:gn X (compareOp op) r)(ha:PE X a ta)(hb:PE X b tb)(hm:behindInMarks op b=J):PT X (.Compare a [op] [b] pos) (FF (FL r ta tb)):=by
 intro ag s σ H Q I h;refine wpAny_isTrue_Compare1 (fg (ha ag s σ H _ I h) λv f ⟨x,H1,g,n,o⟩=>fg (hb ag f σ H1 _ g o) λu i ⟨y,H2,p,r2,q⟩=>
  fg (ho ag i σ H2 x y v u _ p n r2 q) λc t ⟨z,m,j,l,k,e,d⟩=>?_) hm
 subst e;cases l;exact wpAny_truthy_bool ⟨m,j,d⟩
def Cz(K:Fg1)(x:V)(H:Hp)(k:Bool):Prop:=
 match x with
 | .non=>k=J
 | .bl b=>k=b
 | .int i=>k=(i != 0)
 | .str y=>y.length<=dL/\k=((y.length:Int) != 0)
 | .byt y=>y.size<=dL/\k=((y.size:Int) != 0)
 | .ref p=>(∃xs,lV K H p xs/\k = !xs.isEmpty)\/(∃xs,jn K H p xs/\k = !xs.isEmpty) \/ ∃kvs,H p=Z (.dK kvs)/\k = !kvs.isEmpty
 |_=>False
theorem uu{κ:Type}{kvs:List (κ×V)}{vs:List (κ×dB)}(r:KV kvs vs):(!vs.isEmpty) = !kvs.isEmpty:=by
 cases r<;>rfl
theorem m6{xs:List V}{its:List dB}(r:ei xs its):(!its.toArray.isEmpty) = !xs.isEmpty:=by
 cases r<;>simp
theorem lc:(dL:Nat)<2^63:=by rw[sizeLine_eq];decide
theorem Dg:IJ X (λx H Q=>∃k,Cz X.K x H k/\Q k H):=by
 intro ag s σ H x v Q I d h;obtain⟨k,e,q⟩:=h;have o:=lc;have u:dL=16777216:=sizeLine_eq;cases x with
 |non=>
  cases d;have a:k=J:=e;subst a;exact truthy_none ⟨H,I,q⟩
 |bl b=>
  cases d;have a:k=b:=e;subst a;exact wpAny_truthy_bool ⟨H,I,q⟩
 |int i=>
  obtain⟨t,rfl⟩:=d;have a:k=(i != 0):=e;subst a;exact PySem.P.truthy_int ⟨H,I,q⟩
 |str y=>
  obtain⟨t,rfl⟩:=d;obtain⟨l,a⟩:y.length<=dL/\k=((y.length:Int) != 0):=e;subst a;exact PySem.P.truthy_str (by lia) ⟨H,I.tok _,q⟩
 |byt y=>
  obtain⟨t,rfl⟩:=d;obtain⟨l,a⟩:y.size<=dL/\k=((y.size:Int) != 0):=e;subst a;exact PySem.W.truthy_bytes (by lia) ⟨H,I.tok _,q⟩
 |ref p=>
  cases d;have a:(∃xs,lV X.K H p xs/\k = !xs.isEmpty)\/(∃xs,jn X.K H p xs/\k = !xs.isEmpty) \/ ∃kvs,H p=Z (.dK kvs)/\k = !kvs.isEmpty:=e;rcases a with⟨xs,f,a⟩|⟨xs,f,a⟩|⟨kvs,f,a⟩
  ·subst a;obtain⟨g,r,pl,j⟩:=I.list f;have c:=r.length;exact wpAny_truthy_list pl.isList (by simp only[sT1];lia) ⟨H,I.tok _,by rw[m6 r];exact q⟩
  ·subst a;obtain⟨g,r,pl,j⟩:=I.tuple f;have c:=r.length;exact truthy_tuple pl (by simp only[sT1];lia) ⟨H,I.tok _,by rw[m6 r];exact q⟩
  ·subst a;obtain⟨j,n,vs,r,m⟩:kvs.length<=dL/\(p == sysModules)=false /\ ∃vs,KV kvs vs/\s.heap.DictOf (eW X.prog X.w) p vs:=I.hok p _ f;have c:kvs.length=vs.length:=Paired.length r;exact wpAny_truthy_dict n m (by lia) ⟨H,I.tok _,by rw[uu r];exact q⟩
 |_=>exact(show False from e).elim
theorem yF(ha:PE X a ta)(he:∀ b,isTrue a X.env b=(do let v<-b;standAt a.pos;holding [v] (truthy v))):
  PT X a (fun σ H Q=>ta σ H λx H'=>∃k,Cz X.K x H' k/\Q k H'):=by
 intro ag s σ H Q I h;exact isTrue_plain (fg (ha ag s σ H _ I h) λv c ⟨x,H1,d,e,f⟩=>Dg ag c σ H1 x v Q d e f) (he _)
theorem ug:gn X (binaryOp .Add) (λx y H Q=>∃i j,x = .str i/\y = .str j/\i.length+j.length<=dL/\Q (.str (i++j)) H):=by
 intro ag s σ H x y v u Q I d a h;obtain⟨i,j,rfl,rfl,b,q⟩:=h;obtain⟨t,rfl⟩:=d;obtain⟨c,rfl⟩:=a;exact add_str (λc tk=>⟨.str (i++j),H,I.tok _,⟨_,O⟩,q⟩) b
theorem iM{x:V}{a:List dB}(r:ei [x] a):∃u,a=[u]/\d7 x u:=by
 cases r with
 |cons b r2=>cases r2;exact⟨_,O,b⟩
theorem CD{x y:V}{a:List dB}(r:ei [x,y] a):∃u w',a=[u,w']/\d7 x u/\d7 y w':=by
 cases r with
 |cons b r2=>
  cases r2 with
  |cons c d=>cases d;exact⟨_,_,O,b,c⟩
theorem xw(hc:X.calm=M):fj X (.builtin "max") (λxs H Q=>∃i j,xs=[.int i,.int j]/\Q (.int (if j>i then j else i)) H):=by
 intro ag s σ H xs d Q I r h;obtain⟨i,j,rfl,q⟩:=h;obtain⟨u,b,rfl,⟨t,rfl⟩,⟨c,rfl⟩⟩:=CD r;refine max_two_ints (I.ok.hd hc) λh' tk k=>⟨_,H,I.kept k,?_,q⟩;by_cases a:j>i
 ·rw[ak a,ak a];exact⟨_,O⟩
 ·rw[aj a,aj a];exact⟨_,O⟩
theorem xu(hc:X.calm=M):fj X (.builtin "min") (λxs H Q=>∃i j,xs=[.int i,.int j]/\Q (.int (if j<i then j else i)) H):=by
 intro ag s σ H xs d Q I r h;obtain⟨i,j,rfl,q⟩:=h;obtain⟨u,b,rfl,⟨t,rfl⟩,⟨c,rfl⟩⟩:=CD r;refine min_two_ints (I.ok.hd hc) λh' tk k=>⟨_,H,I.kept k,?_,q⟩;by_cases a:j<i
 ·rw[ak a,ak a];exact⟨_,O⟩
 ·rw[aj a,aj a];exact⟨_,O⟩
theorem pg:fj X (.type "int") (λxs H Q=>(∃i,xs=[.int i]/\Q (.int i) H) \/ ∃k,xs=[.bl k]/\Q (.int (if k then 1 else 0)) H):=by
 intro ag s σ H xs b Q I r h;rcases h with⟨i,rfl,q⟩|⟨k,rfl,q⟩
 ·obtain⟨u,rfl,t,rfl⟩:=iM r;exact call_int_int ⟨.int i,H,I,⟨_,O⟩,q⟩
 ·obtain⟨u,rfl,a⟩:=iM r;cases a;exact call_int_bool ⟨.int (if k then 1 else 0),H,I.tok _,⟨_,O⟩,q⟩
end
end L2
namespace L2
open PySem PySem.Spec PyProof.Rows
section
variable{prog:dF}{w:dH}{A:dG}{E:dB->dD->Prop}{s:dD}{K:Fg1}{x dx C f:dE}{mA:Str->Option dB}{name:Str}{v:dB}
end
theorem l6.some_of{v:V}{o:Option dB}(r:l6 (Z v) o):∃u,o=Z u/\d7 v u:=by
 cases o with
 |none=>exact(show False from r).elim
 |some u=>exact⟨u,O,r⟩
section
variable{P:dF}{w:dH}{H H':Hp}{h h':dN}{a C dx:dE}{fs fs':List (Str×V)}
end
section
variable{X:Cx}{ag:List (dE×Obj)}{σ:St}{H:Hp}{s:dD}{a C dx:dE}{fs:List (Str×V)}{f:Str}{v:V}{A:dG}{E:dB->dD->Prop}
end
section
variable{X:Cx}{o e value:Expr}{f:Str}{pos pos' tpos:Pos}{ta tv:TE}
end
section
variable{X:Cx}{ag:List (dE×Obj)}{σ:St}{H:Hp}{s:dD}{A:dG}{E:dB->dD->Prop}{Q:dB->dD->Prop}{c:dB}{b:Bool}
end
end L2
namespace L2
open PySem PySem.Spec PyProof.Rows
structure fN (k:Nat)(A:dG):Prop where
 hd:A.handled=none
 dp:A.depth+3*k+5<recursionLimit
 un:A.units+16*k+200<cLine
 gd:A.guards=some []
theorem fN.mono{j k:Nat}{A:dG}(r:fN k A)(h:j<=k):fN j A:=⟨r.hd,by have:=r.dp;lia,by have:=r.un;lia,r.gd⟩
theorem fN.deeper{k:Nat}{A:dG}(r:fN (k+1) A)(env:Env):fN k (A.deeper env):=
 ⟨r.hd,by have:=r.dp;show A.depth+1+3*k+5<_;lia,by have:=r.un;show A.units+3+16*k+200<_;lia,r.gd⟩
theorem fN.depth{k:Nat}{A:dG}(r:fN k A):A.depth<recursionLimit:=by have:=r.dp;lia
theorem fN.units{k:Nat}{A:dG}(r:fN k A):A.units+64<cLine:=by have:=r.un;lia
noncomputable def HR:TA:=λ_ H Q=>Q [] H
noncomputable def FW(ta:TE)(tr:TA):TA:=fun σ H Q=>ta σ H λx H1=>tr σ H1 λxs H2=>Q (x::xs) H2
section
variable{X:Cx}{e:Expr}{es:List Expr}{te:TE}{t:TA}{pos:Pos}
theorem mS:PA X [] HR:=λ_ _ _ _ H Q I h=>Calls.spliced_nil ⟨[],H,I,.nil,h⟩
theorem j8(ha:PE X e te)(hr:PA X es t)(hs:dJ (e::es) X.env=(J,eval e X.env)::dJ es X.env:=by rfl):PA X (e::es) (FW te t):=by
 intro pos ag s σ H Q I h;rw[hs];show dM _ _ (spliced ((J,eval e X.env)::backTo pos (dJ es X.env))) _ _ s;refine Calls.spliced_cons (fg (ha ag s σ H _ I h) λu a ⟨x,H1,b,c,d⟩=>?_);exact fg (hr pos ag a σ H1 _ b d) λj i ⟨xs,H2,f,r2,g⟩=>⟨x::xs,H2,f,.cons c r2,g⟩
noncomputable def HL(t:TA):TE:=fun σ H Q=>t σ H λxs H1=>xs.length<=dL /\ ∀p,H1 p=Y->Q (.ref p) (upd H1 p (.tup xs))
noncomputable def HW(t:TA):TE:=fun σ H Q=>t σ H λxs H1=>xs.length<=dL /\ ∀p,H1 p=Y->Q (.ref p) (upd H1 p (.lst xs))
theorem DW{x1}(h:PA X es t):PE X (.Tuple es x1 pos) (HL t):=by
 intro ag s σ H Q I d;refine wpAny_Tuple_spliced (fg (h pos ag s σ H _ I d) λg a ⟨xs,H1,c,r,z,q⟩=>⟨by rw[<- r.length];exact z,?_⟩);have f:H1 a.heap.objs.size=Y:=c.hok.fresh (nR1 _);refine⟨.ref a.heap.objs.size,upd H1 a.heap.objs.size (.tup xs),c.laid (t':=a.toks) (λb u e=>hP1 _ e) (nR1 _) ?_,O,q _ f⟩;exact⟨z,g,r,⟨_,hS1 _ O,O,_,O⟩⟩
theorem DZ(h:PA X es t):PE X (.List es pos) (HW t):=by
 intro ag s σ H Q I d;refine wpAny_List_spliced (fg (h pos ag s σ H _ I d) λg a ⟨xs,H1,c,r,z,q⟩=>⟨by rw[<- r.length];exact z,?_⟩);have f:H1 a.heap.objs.size=Y:=c.hok.fresh (nR1 _);refine⟨.ref a.heap.objs.size,upd H1 a.heap.objs.size (.lst xs),c.laid (t':=a.toks) (λb u e=>hP1 _ e) (nR1 _) ?_,O,q _ f⟩;exact⟨z,g,0,r,hS1 _ O⟩
end
abbrev Sp:=List V->Hp->VK->XK->Prop
abbrev xE:=List Env->Hp->dD->XK->dB->dD->Prop
structure CB (P:dF)(w:dH)(K:Fg1)(mg:Str->Option dB)(base:dN)(A:dG)(outer:List Env)(s:dD)(H:Hp):Prop where
 frames:A.frames=some outer
 mod:Mod K mg base
 bs:∀b o,base.get? b=some o->s.heap.get? b=some o/\H b=none
 bsz:base.objs.size<=s.heap.objs.size
 funs:s.heap.FunFrames base outer
 frf:∀b∈frs outer,H b=none
 hok:kU P w H s.heap
 bare:AllBare s.gens
def CE(outer:List Env)(P:dF)(w:dH)(H:Hp)(s:dD)(Q:VK)(u:dB)(s':dD):Prop:=
 ∃v H',s'.os=s.os/\AllBare s'.gens/\Un (frs outer) [] H H' s.heap s'.heap/\kU P w H' s'.heap/\d7 v u/\Q v H'
def CR(CX:xE)(outer:List Env)(P:dF)(w:dH)(H:Hp)(s:dD)(Q:VK)(E:XK)(r:Result)(s':dD):Prop:=
 match r with
 | .ok (.ret u)=>CE outer P w H s Q u s'
 | .ok _=>False
 | .error e=>CX outer H s E e s'
structure ju (P:dF)(w:dH)(K:Fg1)(mg:Str->Option dB)(base:dN)(CX:xE)(k:Nat)(f:dE)(fd:dP)(ps:List Str)(sp:Sp):Prop where
 len:∀vs H Q E,sp vs H Q E->vs.length=ps.length
 run:∀(A:dG) (outer:List Env) (s:dD) (H:Hp) (args:Args) (us:List dB) (vs:List V) (Q:VK) (E:XK),fN k A->CB P w K mg base A outer s H->BindsTo s fd args (ps.zip us)->ei vs us->sp vs H Q E ->
  codeAny (model P w) A (.call (.ref f) args) (CR CX outer P w H s Q E) s
theorem ju.imp{P:dF}{w:dH}{K:Fg1}{mg:Str->Option dB}{base:dN}{CX:xE}{k:Nat}{f:dE}{fd:dP}{ps:List Str}{sp sp':Sp}(F:ju P w K mg base CX k f fd ps sp)(h:∀vs H Q E,sp' vs H Q E->sp vs H Q E):ju P w K mg base CX k f fd ps sp':=
 ⟨λvs H Q E q=>F.len vs H Q E (h _ _ _ _ q),λA a s H b j vs Q E i e c d g=>F.run A a s H b j vs Q E i e c d (h _ _ _ _ g)⟩
section
variable{X:Cx}{ag:List (dE×Obj)}{σ:St}{H:Hp}{s s':dD}
theorem Inv.env0(I:Inv X ag σ H s):CB X.prog X.w X.K X.mg X.base X.A X.stack s H:=
 ⟨I.ok.frames,I.ok.mod,I.bs,aC I.ok.bsz I.sz,I.stack,I.stkFree,I.hok,I.bare⟩
theorem Inv.after{Q:VK}{u:dB}(I:Inv X ag σ H s)(h:CE X.stack X.prog X.w H s Q u s'):EP X ag σ Q u s':=by
 obtain⟨v,H',f,a,un,c,r,q⟩:=h;obtain⟨i,g,d,t,e⟩:=s';obtain rfl:e=s.os:=f;exact⟨v,H',I.call (h':=i) (g':=g) (d':=d) (t':=t) (ch:=[]) un c a (λb z=>absurd z (by simp)),r,q⟩
end
noncomputable def FX(sp:Sp)(dvs:List V)(E:XK)(t:TA):TE:=fun σ H Q=>t σ H λvs H1=>sp (vs++dvs) H1 Q E
def kW(K:Fg1)(fd:dP)(ps:List Str)(ds:List dB):Prop:=
 ∀(s:dD) (us:List dB),K.In s.heap->(us++ds).length=ps.length->BindsTo s fd ⟨us,[]⟩ (ps.zip (us++ds))
theorem kW.all{K:Fg1}{fd:dP}{ps:List Str}(h:∀a:List dB,a.length=ps.length->bindArgs fd ⟨a,[]⟩=pure (ps.zip a)):kW K fd ps []:=λs a _ b=>by
 rw[aM]at b ⊢;exact .of_eq (h a b)
def uM(CX:xE)(X:Cx)(E:XK):Prop:=∀(ag:List (dE×Obj)) (σ:St) (H:Hp) (s:dD) (e:dB) (s':dD),Inv X ag σ H s->CX X.stack H s E e s'->X.xe e s'
section
variable{X:Cx}{CX:xE}{k:Nat}{f C:dE}{fd:dP}{ps:List Str}{sp:Sp}{dvs:List V}{ds:List dB}{E:XK}{x m:Str}{p pos apos:Pos}{e o:Expr}{es:List Expr}{ta:TE}{t:TA}
theorem Dz{ag:List (dE×Obj)}{σ:St}{H:Hp}{s:dD}{Q:VK}{a:List dB}{vs:List V}(F:ju X.prog X.w X.K X.mg X.base CX k f fd ps sp)(hr:fN k X.A)(hb:kW X.K fd ps ds)(hd:ei dvs ds)(hx:uM CX X E)(I:Inv X ag σ H s)(r:ei vs a)(h:sp (vs++dvs) H Q E):dM (model X.prog X.w) X.A (call (.ref f) a) (EP X ag σ Q) X.xe s:=by
 have r2:ei (vs++dvs) (a++ds):=r.append hd;have d:(a++ds).length=ps.length:=by rw[<- r2.length];exact F.len _ _ _ _ h
 refine wpAny_call (codeAny_mono (F.run X.A X.stack s H ⟨a,[]⟩ (a++ds) (vs++dvs) Q E hr I.env0 (hb s a I.kIn d) r2 h) λr s' b=>?_);cases r with
 |error e=>exact hx ag σ H s e s' I b
 |ok c=>
  cases c with
  |ret u=>exact I.after b
  |next=>exact False.elim b
  |brk=>exact False.elim b
  |cont=>exact False.elim b
theorem Bn (F:ju X.prog X.w X.K X.mg X.base CX k f fd ps sp)(hr:fN k X.A)(hg:Gl X x)(hm:X.mg x=some (.ref f))(hk:wK1 X.K (.ref f)=true)(hb:kW X.K fd ps ds)(hd:ei dvs ds)(hx:uM CX X E)
  (ha:PA X (e::es) t) (hdb:(x == ("__debug__":Str))=J:=by decide) (he:dJ (e::es) X.env=(J,eval e X.env)::dJ es X.env:=by rfl) (hpl:(backTo pos (dJ es X.env)).any (·.1)=J:=by rfl):
  PE X (.Call (.Name x p) (e::es) [] pos) (FX sp dvs E t):=by
 intro ag s σ H Q I h;refine wpAny_Call_Name_kw (vz I hg hm ?_ hdb);refine PySem.W.callWith_K (h₀:=X.base) I.ok.mod.kin hk (fg (ha pos ag s σ H _ I h) λb c ⟨vs,H1,a,r,q⟩=>⟨a.kIn,?_⟩) he hpl;exact Dz F hr hb hd hx a r q
end
section
variable{X:Cx}{CX:xE}{k:Nat}{f C:dE}{fd:dP}{ps ks:List Str}{sp:Sp}{E:XK}{x m:Str}{p pos apos kpos:Pos}{e o:Expr}{es:List Expr}{kws:List Keyword}{te ta:TE}{t tk:TA}{nm:Option Str}
variable{g:List dB->List dB->List dB}{gV:List V->List V->List V}
end
structure gg (N P:List Str)(sc:dR):Prop where
 kind:sc.kind = .function
 co:sc.isCoroutine=false
 gen:sc.isGenerator=false
 nd:N.Nodup
 pre:N.take P.length=P
 par:∀x∈P,sc.names.lookup x=some .local\/sc.names.lookup x=some .cell
 nofree:∀y∈sc.names,y.2 ≠ .free
theorem ph{kindOf:Str->Option NameKind}{x:Str}:∀{binds:List (Str×dB)} {m:Str->Option dB},(∀v,(x,v)∉binds)->bindL kindOf binds m x=m x
 |[],_,_=>rfl
 |(n,v)::r,m,h=>by
  unfold bindL;rw[ph λw a=>h w (mC1 _ a)];split
  ·have:x≠n:=by rintro rfl;exact h v mS1
   simp[this]
  ·rfl
theorem po{kindOf:Str->Option NameKind}{x:Str}:∀{binds:List (Str×dB)} {m:Str->Option dB},(∀v,(x,v)∉binds)->bindC kindOf binds m x=m x
 |[],_,_=>rfl
 |(n,v)::r,m,h=>by
  unfold bindC;rw[po λw a=>h w (mC1 _ a)];split
  ·rfl
  ·have:x≠n:=by rintro rfl;exact h v mS1
   simp[this]
theorem pk{kindOf:Str->Option NameKind}{x:Str}{v:dB}:∀ {P:List Str} {vs:List dB} {i:Nat} {m:Str->Option dB},P.Nodup->P[i]? = some x->vs[i]? = some v->kindOf x=some .local ->
  bindL kindOf (P.zip vs) m x=Z v
 |[],_,_,_,_,h,_,_=>by simp at h
 |_::_,[],_,_,_,_,h,_=>by simp at h
 |p::P,w::vs,0,m,nd,h1,h2,hk=>by
  simp at h1 h2;subst h1;subst h2;show bindL kindOf ((p,w)::P.zip vs) m p=_;unfold bindL;rw[ph λv a=>(aN.mp nd).1 (List.of_mem_zip a).1,ak hk];simp
 |p::P,w::vs,i+1,m,nd,h1,h2,hk=>by
  show bindL kindOf ((p,w)::P.zip vs) m x=_;unfold bindL;exact pk (i:=i) (aN.mp nd).2 (by simpa using h1) (by simpa using h2) hk
theorem pp{kindOf:Str->Option NameKind}{x:Str}{v:dB}:∀ {P:List Str} {vs:List dB} {i:Nat} {m:Str->Option dB},P.Nodup->P[i]? = some x->vs[i]? = some v->kindOf x≠some .local ->
  bindC kindOf (P.zip vs) m x=Z v
 |[],_,_,_,_,h,_,_=>by simp at h
 |_::_,[],_,_,_,_,h,_=>by simp at h
 |p::P,w::vs,0,m,nd,h1,h2,hk=>by
  simp at h1 h2;subst h1;subst h2;show bindC kindOf ((p,w)::P.zip vs) m p=_;unfold bindC;rw[po λv a=>(aN.mp nd).1 (List.of_mem_zip a).1,aj hk];simp
 |p::P,w::vs,i+1,m,nd,h1,h2,hk=>by
  show bindC kindOf ((p,w)::P.zip vs) m x=_;unfold bindC;exact pp (i:=i) (aN.mp nd).2 (by simpa using h1) (by simpa using h2) hk
noncomputable def iO(N:List Str)(vs:List V):St:=vs.map Z++aO (N.length-vs.length) Y
noncomputable def lZ(CX:xE)(P:dF)(w:dH)(K:Fg1)(mg:Str->Option dB)(base:dN)(N:List Str)(qual:Str)(scope:dR)(f:dE)(cd:dB)(A:dG)(outer:List Env)(s:dD)(H:Hp)(E:XK):Cx where
 prog:=P
 w:=w
 K:=K
 mg:=mg
 base:=base
 A:=A.deeper (envOfC qual scope s.heap.objs.size f cd)
 N:=N
 s₀:=s
 H₀:=H
 env:=envOfC qual scope s.heap.objs.size f cd
 outer:=outer
 stack:=envOfC qual scope s.heap.objs.size f cd::outer
 ex:=[]
 calm:=M
 fn:=λ_=>M
 pn:=[]
 xe:=λe s'=>dM (model P w) (A.deeper (envOfC qual scope s.heap.objs.size f cd)) (leaving (envOfC qual scope s.heap.objs.size f cd) e) (λ_ s''=>CX outer H s E e s'') (λe' s''=>CX outer H s E e' s'') s'
theorem sX{a:dR}{n:Nat}{x:Str}(h:a.names.lookup x=Z .cell):∃c,(cellsFrom n a.names []).lookup x=Z c:=by
 have q:=PySem.W.cellsFrom_some a.names n [] (.inl h);exact aP.mp q
theorem wR{CX:xE}{P:dF}{w:dH}{K:Fg1}{mg:Str->Option dB}{base:dN}{N ps:List Str}{g:Str}{scope:dR}{f:dE}{B:dB}{A:dG}{d:List Env}{s s1:dD}{H:Hp}{E:XK}{C:List dB}{vs:List V}(S:gg N ps scope)(hd:A.handled=none)(j:CB P w K mg base A d s H)(L:vs.length=ps.length)(r:ei vs C)(x:InCallC s s.heap.objs.size (bindL (envOfC g scope s.heap.objs.size f B).kindOf (ps.zip C) fun _=>none) (cellsFrom (s.heap.objs.size+1) scope.names []) (bindC (envOfC g scope s.heap.objs.size f B).kindOf (ps.zip C) fun _=>none) s1):
  Inv (lZ CX P w K mg base N g scope f B A d s H E) [] (iO N vs) H s1:=by
 have I:ps.length<=N.length:=by have:=congrArg List.length S.pre;rw[aQ]at this;lia
 obtain⟨h1,tk,rfl,D⟩:=x.done;have l:∀b:dE,b∉(lZ CX P w K mg base N g scope f B A d s H E).ex:=λb z=>absurd (show b∈([]:List dE)from z) (by simp);refine⟨⟨j.mod,S.kind,O,O,nR1 _,λy z c h1 h2=>?_,λy m=>?_,λy c _ h=>?_,λ_=>hd,Around.frames_deeper j.frames,.inr ⟨O,O⟩,λb z=>absurd z (l b),j.bs,j.bsz,λb _ _=>l b,λb z=>absurd z (l b),j.funs,j.frf⟩,
  rfl,j.bare,Un.kept D,⟨_,x.toInCall.ns,λi y v h1 h2 ao=>?_⟩,λy c h=>⟨_,x.cell y c h⟩,j.hok.fresh (nR1 _),λy c h=>?_,λp o=>absurd (show p∈([]:List (dE×Obj))from o) (by simp),j.hok.kept D,?_⟩
 ·exact name_of_addr x.apart (PySem.mem_of_lookup h1) (PySem.mem_of_lookup h2)
 ·have m:scope.names.lookup y=Z .cell\/scope.names.lookup y=Z .free:=m;rcases m with m|m
  ·exact sX m
  ·exact absurd O (S.nofree _ (PySem.mem_of_lookup m))
 ·exact aD (x.above y c (PySem.mem_of_lookup h))
 ·have hi:i<vs.length:=by
   unfold iO at h2;by_cases hi:i<vs.length
   ·exact hi
   ·rw[gR1 (by simpa using hi)]at h2;rw[aR]at h2;split at h2<;>cases h2
  have G:vs[i]?=Z v:=by
   unfold iO at h2;rw[gL1 (by simpa using hi),gP1]at h2;cases e:vs[i]? with
   |none=>rw[e]at h2;cases h2
   |some a=>rw[e]at h2;cases h2;rfl
  obtain⟨u,F,am⟩:=r.get G;have o:ps[i]?=Z y:=by
   rw[<- S.pre,aS (by lia)];exact h1
  have t:ps.Nodup:=by rw[<- S.pre];exact S.nd.sublist (aT _ _)
  refine⟨u,am,?_⟩;rcases S.par y (gM1 o)with k|k
  ·exact .inl ⟨k,pk t o F k⟩
  ·obtain⟨c,e⟩:=sX (n:=s.heap.objs.size+1) k;refine .inr ⟨.inl k,c,e,?_⟩;have q:=x.cell y c e;rw[pp t o F (by show scope.names.lookup y≠_;rw[k];decide)]at q;exact q
 ·exact j.hok.fresh (aD (x.above y c (PySem.mem_of_lookup h)))
 ·unfold iO;show _=N.length;rw[lA1,lM1,lR1];lia
theorem GR{CX:xE}{P:dF}{w:dH}{K:Fg1}{mg:Str->Option dB}{base:dN}{k:Nat}{f:dE}{name c:Str}{params:Arguments}{g:List dQ}{scope:dR}{R kV B ao d ct oc:dB}{T U:Option dE}{G:Array (Option dB)}{N ps:List Str}{sp:Sp}(aq:K.lookup f=some ⟨oc,U,.func (wF1 name c params g scope R kV B ao T d ct),G⟩)(hcd:wC1 K d c=true)(S:gg N ps scope)(len:∀vs H Q E,sp vs H Q E->vs.length=ps.length)(j:∀(A:dG) (a:List Env) (s:dD) (H:Hp) (vs:List V) (Q:VK) (E:XK),fN k (A.deeper (envOfC c scope s.heap.objs.size f d))->sp vs H Q E ->
   ∃t,tG (lZ CX P w K mg base N c scope f d A a s H E) g t/\t {nx:=λ_ H'=>Q .non H',rt:=Q} (iO N vs) H):
  ju P w K mg base CX (k+1) f (wF1 name c params g scope R kV B ao T d ct) ps sp:=by
 refine⟨len,λA a s H au us vs Q E F z X r m=>?_⟩;have W:=len _ _ _ _ m;have L:K.In s.heap:=z.mod.kin.keeps λb o e=>(z.bs b o e).1;have D:s.heap.NoLimit:=z.mod.nolimit.keeps λb o e=>(z.bs b o e).1;have i:∀y∈ps.zip us,scope.names.lookup y.1=Z .local\/(scope.names.lookup y.1=Z .cell/\((cellsFrom (s.heap.objs.size+1) scope.names []).lookup y.1).isSome=M):=λ⟨n,v⟩ hy=>by
  rcases S.par n (List.of_mem_zip hy).1 with q|q
  ·exact .inl q
  ·exact .inr ⟨q,PySem.W.cellsFrom_some _ _ _ (.inl q)⟩
 refine codeAny_call_function F.depth (L _ _ aq) O S.co S.gen O (PySem.W.codeRec_of L hcd) (X _ _ _ _ ?_);refine wpAny_newFunctionEnv_cells S.kind i λenv he s1 x=>?_;subst he;refine⟨D.keeps x.toInCall.keep,codeAny_func ?_⟩;obtain⟨t,wq,hq⟩:=j A a s H vs Q E (F.deeper _) m;have I:Inv (lZ CX P w K mg base N c scope f d A a s H E) [] (iO N vs) H s1:=wR S F.hd z W r x;refine wpAny_mono (wq [] s1 (iO N vs) H _ I hq) (λfl s' l=>?_) λe s' l=>l;have p:∀{h:St} {H':Hp} {v:V} {u:dB},Inv (lZ CX P w K mg base N c scope f d A a s H E) [] h H' s'->d7 v u->Q v H'->CE a P w H s Q u s':=
  λ{h H' v u} am C q=>⟨v,H',am.os,am.bare,am.base,am.hok,C,q⟩
 cases fl with
 |ret u=>
  obtain⟨v,h,H',am,C,q⟩:=l;exact p am C q
 |next=>
  obtain⟨h,H',am,q⟩:=l;exact p (v:=V.non) (u:=Value.none) am O q
 |brk=>
  obtain⟨_,_,_,q⟩:=l;exact False.elim q
 |cont=>
  obtain⟨_,_,_,q⟩:=l;exact False.elim q
end L2
namespace L2
open PySem PySem.Spec PyProof.Rows
section
variable{X:Cx}{x:Str}{p pos:Pos}{e:Expr}{es:List Expr}{t:TA}{id T:String}{r:List V->Hp->VK->Prop}
def IS(r:List V->Hp->VK->Prop)(t:TA):TE:=fun σ H Q=>t σ H λvs H1=>r vs H1 Q
theorem rL (hc:fj X (.builtin id) r)(hg:Gl X x)(hm:X.mg x=none)(hv:bootBuiltins x=some (.builtin id))(ha:PA X (e::es) t)(hn:x≠"__name__":=by decide)(hdb:(x == ("__debug__":Str))=false:=by decide)
  (he:dJ (e::es) X.env=(J,eval e X.env)::dJ es X.env:=by rfl) (hpl:(backTo pos (dJ es X.env)).any (·.1)=J:=by rfl):PE X (.Call (.Name x p) (e::es) [] pos) (IS r t):=by
 intro ag s σ H Q I h;refine wpAny_Call_Name_kw (jF I hg hm hv ?_ hn hdb);exact PyProof.Rows.callWith_builtin1 (fg (ha pos ag s σ H _ I h) λf a ⟨vs,H1,b,c,d⟩=>hc ag a σ H1 vs f Q b c d) he hpl
theorem jj (hc:fj X (.type T) r)(hg:Gl X x)(hm:X.mg x=none)(hv:bootBuiltins x=some (.type T))(ha:PA X (e::es) t)(hn:x≠"__name__":=by decide)(hdb:(x == ("__debug__":Str))=false:=by decide)
  (he:dJ (e::es) X.env=(J,eval e X.env)::dJ es X.env:=by rfl) (hpl:(backTo pos (dJ es X.env)).any (·.1)=J:=by rfl):PE X (.Call (.Name x p) (e::es) [] pos) (IS r t):=by
 intro ag s σ H Q I h;refine wpAny_Call_Name_kw (jF I hg hm hv ?_ hn hdb);exact PyProof.Rows.callWith_type1 (fg (ha pos ag s σ H _ I h) λf a ⟨vs,H1,b,c,d⟩=>hc ag a σ H1 vs f Q b c d) he hpl
end
end L2
namespace HT
open PySem PyProof.Rows
section
open PySem.SeqAt
open PySem.AutoSeq1 (wpAny_loadPart')
open PySem.MeetsSeq PySem.MeetsSeq2 PySem.MeetsSeq3
end
section
variable{prog:dF}{w:dH}{A:dG}{E:dB->dD->Prop}{s:dD}
theorem Ck {t b:dE}{vs ws:List dB}{Q:dB->dD->Prop}(ht:IsTup s.heap t vs.toArray)(hb:IsTup s.heap b ws.toArray)(hv:vs≠[])
  (h1:ws=[]->Q (.ref t) s) (h2:ws≠[]->Q (.ref s.heap.objs.size) {s with heap:=s.heap.push {cls:=.type "tuple",data:=.seq (vs++ws).toArray}})
  (hsz:vs.length+ws.length<=dL):dM (model prog w) A (binaryOp .Add (.ref t) (.ref b)) Q E s:=by
 obtain⟨⟨cls,l,data,p⟩,i,hc,n,o⟩:=id ht;obtain⟨⟨k,f,j,c⟩,a,g,m,d⟩:=id hb;simp only at hc o g d;subst hc o g d;have e:vs.toArray++ws.toArray=(vs++ws).toArray:=by simp
 by_cases h:ws=[]
 ·exact concat_meets ⟨_,i,rfl⟩ ⟨_,a,rfl⟩ noFill_tuple_add seq_tuple_add PySem.F.slot_tuple_add PySem.F.entry_tuple_add (PySem.F.args_tuple_add_2 _ _)
   (tuple_addW1 t b vs.toArray ws.toArray n m l f p c (by simpa using hv) (by simp[h])) ⟨i,a,h1 h⟩
 ·refine concat_meets ⟨_,i,rfl⟩ ⟨_,a,rfl⟩ noFill_tuple_add seq_tuple_add PySem.F.slot_tuple_add PySem.F.entry_tuple_add (PySem.F.args_tuple_add_2 _ _)
   (tuple_addW2 t b vs.toArray ws.toArray n m l f p c (by simpa using hv) (by simpa using h) (by rw[sT1,sT1];exact hsz)) ⟨i,a,?_⟩
  rw[e];exact h2 h
noncomputable def sIx(n d:Nat):Option Int->Nat
 |none=>d
 |some v=>if v<0 then(v+(n:Int)).toNat else min v.toNat n
theorem yw(n d:Nat):sIx n d Y=d:=rfl
theorem A0(n d k:Nat):sIx n d (Z (k:Int))=min k n:=by
 show(if(k:Int)<0 then((k:Int)+(n:Int)).toNat else min (k:Int).toNat n)=min k n;rw[aj (by lia),Int.toNat_natCast]
theorem Dy(n d:Nat)(hd:d<=n)(o:Option Int):sIx n d o<=n:=by
 cases o with
 |none=>exact hd
 |some v=>
  show(if v<0 then(v+(n:Int)).toNat else min v.toNat n)<=n;by_cases a:v<0
  ·rw[ak a];lia
  ·rw[aj a];exact Nat.min_le_right _ _
theorem vY(v:Int)(n d:Nat):(if v<0 then max (v+(n:Int)) 0 else min v (n:Int))=((sIx n d (Z v):Nat):Int):=by
 show(if v<0 then max (v+(n:Int)) 0 else min v (n:Int))=(((if v<0 then(v+(n:Int)).toNat else min v.toNat n):Nat):Int);by_cases a:v<0
 ·simp only[ak a];lia
 ·simp only[aj a];lia
theorem uK(lo hi:Option Int)(n:Nat):Builtin.Slice.sliceAdjust lo hi 1 (n:Int)=(((sIx n 0 lo:Nat):Int),((sIx n n hi:Nat):Int)):=by
 have h1:¬ ((1:Int)<0):=by lia
 unfold Builtin.Slice.sliceAdjust;simp only[h1,if_false];refine Prod.ext ?_ ?_
 ·cases lo with
  |none=>rfl
  |some v=>exact vY v n 0
 ·cases hi with
  |none=>rfl
  |some v=>exact vY v n n
theorem ub(i j:Nat):Builtin.Slice.slicePlaces (i:Int) (j:Int) 1=j-i:=by
 unfold Builtin.Slice.slicePlaces;have h1:(1:Int)>0:=by lia
 simp only[h1,if_true,Int.ediv_one];split<;>lia
theorem gH{v:dB}{o:Option Int}{Q:Option Int->dD->Prop}(p:IsPart v o)(h:Q o s):dM (model prog w) A (Builtin.Slice.slicePartIndex v) Q E s:=by
 cases p with
 |none=>exact slicePart_none h
 |int i t=>exact slicePart_int h
theorem hW{sl:dE}{c vu:dB}{lo hi:Option Int}{n:Nat}{Q:Int×Int×Nat->dD->Prop}(hs:s.heap.IsSliceOf sl c vu .none)(pl:IsPart c lo)(d:IsPart vu hi)(h:Q (((sIx n 0 lo:Nat):Int),1,sIx n n hi-sIx n 0 lo) s):dM (model prog w) A (Builtin.Slice.sliceApplied (.ref sl) (pure (n:Int))) Q E s:=by
 obtain⟨f,a,e,b⟩:=id hs;unfold Builtin.Slice.sliceApplied Builtin.Slice.sliceFields;refine wB1 (wB1 (wpAny_field a b (x:=c) O (wB1 (wpAny_field a b (x:=vu) O (wB1 (wpAny_field a b (x:=.none) O (wP1 ?_)))))));refine wB1 (slicePart_none ?_);show dM _ _ (if((1:Int) == 0)=M then _ else _) _ _ s;rw[aj (by decide)];refine wB1 (gH pl (wB1 (gH d (wB1 (wP1 ?_)))));show dM _ _ (match Builtin.Slice.sliceAdjust lo hi 1 (n:Int)with|(lo,hi)=>pure (lo,(1:Int),Builtin.Slice.slicePlaces lo hi 1)) _ _ s;rw[uK lo hi n];show dM _ _ (pure (((sIx n 0 lo:Nat):Int),(1:Int),Builtin.Slice.slicePlaces ((sIx n 0 lo:Nat):Int) ((sIx n n hi:Nat):Int) 1)) _ _ s;rw[ub];exact wP1 h
theorem yO(xs:Array dB)(i k:Nat):((af k).filterMap λ(m:Nat)=>xs[((i:Int)+(m:Int)*1).toNat]?).toArray=((xs.toList.drop i).take k).toArray:=by
 have e:(λ(m:Nat)=>xs[((i:Int)+(m:Int)*1).toNat]?)=λm=>xs[i+m]?:=by
  funext m
  have:((i:Int)+(m:Int)*1).toNat=i+m:=by lia
  rw[this]
 rw[e];have:=pick_run xs i k;rw[aU]at this;have a:((λx=>xs[x]?)∘λx=>i+x)=λm=>xs[i+m]?:=rfl;rw[a]at this;rw[this]
theorem kx {t sl:dE}{items:Array dB}{f vu:dB}{lo hi:Option Int}{Q:dB->dD->Prop}(ht:IsTup s.heap t items)(hs:s.heap.IsSliceOf sl f vu .none)(pl:IsPart f lo)(i:IsPart vu hi)
  (hw:¬ (sIx items.size 0 lo=0/\sIx items.size items.size hi=items.size))
  (h:Q (.ref s.heap.objs.size) {s with heap:=s.heap.push {cls:=.type "tuple",data:=.seq ((items.toList.drop (sIx items.size 0 lo)).take (sIx items.size items.size hi-sIx items.size 0 lo)).toArray}})
  (hsz:items.size<=dL):dM (model prog w) A (getItem (.ref t) (.ref sl)) Q E s:=by
 have a:sizeOk (.seq ((items.toList.drop (sIx items.size 0 lo)).take (sIx items.size items.size hi-sIx items.size 0 lo)).toArray):=by
  show((items.toList.drop (sIx items.size 0 lo)).take (sIx items.size items.size hi-sIx items.size 0 lo)).toArray.size<=dL;rw[sT1,aQ,aV,aJ];omega
 have k:sIx items.size items.size hi<=items.size:=Dy _ _ (nR1 _) hi;obtain⟨g,d,e,j⟩:=id hs;have b:s.TypeIs (.ref sl) "slice":=⟨g,d,e⟩;unfold getItem
 try with_reducible refine wpAny_holding ?_
 first|refine wB1 (wP1 ?_)|skip
 refine wB1 (wpAny_sequenceKey ht.typeIs (by decide) ?_);refine wB1 (wpAny_callSpecial?_slot (name:=Str.ofString "__getitem__") ht.typeIs PyProof.Rows.slot_tuple_getitem
  (wE1 PyProof.Rows.slot_tuple_getitem ht.typeIs entry_tuple_getitem ?_ (args_tuple_getitem _ _)))
 show dM _ _ (Builtin.Tuple.tupleItemsOf (.ref t) >>= _) _ _ s;refine wB1 (tupleItemsOf_ ht ?_);refine wB1 (wpAny_typeOf b ?_);rw[ak (by decide)];refine wB1 (hW hs pl i ?_);have c:¬ ((((sIx items.size 0 lo:Nat):Int) == 0&&(1:Int) == 1&&(sIx items.size items.size hi-sIx items.size 0 lo) == items.size)=M):=by
  intro q;rw[bA1,bA1]at q;have l:((sIx items.size 0 lo:Nat):Int)=0:=eq_of_beq q.1.1;have n:sIx items.size items.size hi-sIx items.size 0 lo=items.size:=eq_of_beq q.2;exact hw ⟨by omega,by omega⟩
 show dM _ _ (if(((sIx items.size 0 lo:Nat):Int) == 0&&(1:Int) == 1&&(sIx items.size items.size hi-sIx items.size 0 lo) == items.size)=M then _ else _) _ _ s;rw[aj c,yO]
 first
  |exact wB1 (m:=Builtin.Tuple.tupleExact _) (wO1 (wP1 ⟨_,rfl,wP1 h⟩) a)
  |exact wB1 (m:=Builtin.Tuple.tupleExact _) (wO1 (wB1 (wP1 (wP1 ⟨_,rfl,wP1 h⟩))) a)
  |exact wB1 (wB1 (m:=Builtin.Tuple.tupleExact _) (wO1 (wP1 (wP1 ⟨_,rfl,wP1 h⟩)) a))
  |exact wB1 (wB1 (m:=Builtin.Tuple.tupleExact _) (wO1 (wP1 ⟨_,rfl,wP1 h⟩) a))
end
end HT
namespace L2
open PySem PySem.Spec PyProof.Rows
abbrev TO:=St->Hp->(Option Int->Hp->Prop)->Prop
def PO(X:Cx)(e:Option Expr)(t:TO):Prop:=
 ∀(ag:List (dE×Obj)) (s:dD) (σ:St) (H:Hp) (Q:Option Int->Hp->Prop),Inv X ag σ H s->t σ H Q ->
  dM (model X.prog X.w) X.A (evalPart e X.env) (λu s'=>∃o H',Inv X ag σ H' s'/\IsPart u o/\Q o H') X.xe s
noncomputable def AV:TO:=λ_ H Q=>Q Y H
noncomputable def FK(t:TE):TO:=fun σ H Q=>t σ H λx H1=>∃i,x = .int i/\Q (Z i) H1
section
variable{X:Cx}{e:Expr}{te:TE}{lo hi:Option Expr}{tl th:TO}{pos p2:Pos}
theorem Bf:PO X Y AV:=by
 intro ag s σ H Q I h;rw[evalPart_none];exact wP1 ⟨Y,H,I,.none,h⟩
theorem Be(h:PE X e te):PO X (Z e) (FK te):=by
 intro ag s σ H Q I b;rw[evalPart_some];refine fg (h ag s σ H _ I b) λu f ⟨x,H1,a,c,d⟩=>?_;obtain⟨i,rfl,q⟩:=d;obtain⟨t,rfl⟩:=c;exact⟨Z i,H1,a,.int i t,q⟩
def AH(X:Cx)(r:V->Option Int->Option Int->Hp->VK->Prop):Prop:=
 ∀(ag:List (dE×Obj)) (s:dD) (σ:St) (H:Hp) (x:V) (v vl vu:dB) (lo hi:Option Int) (sl:dE) (Q:VK),Inv X ag σ H s->d7 x v->s.heap.IsSliceOf sl vl vu .none->IsPart vl lo->IsPart vu hi->r x lo hi H Q ->
  ∃T id,typeLookup (.type T) "__getitem__"=pure (Z (.builtin id))/\s.TypeIs v T/\dM (model X.prog X.w) X.A (getItem v (.ref sl)) (EP X ag σ Q) X.xe s
theorem AH.or{r e:V->Option Int->Option Int->Hp->VK->Prop}(h:AH X r)(h':AH X e):AH X (λx lo hi H Q=>r x lo hi H Q\/e x lo hi H Q):=by
 intro ag s σ H x v a vu lo hi b Q I d f pl c q;rcases q with q|q
 ·exact h ag s σ H x v a vu lo hi b Q I d f pl c q
 ·exact h' ag s σ H x v a vu lo hi b Q I d f pl c q
def Jn(r:V->Option Int->Option Int->Hp->VK->Prop)(te:TE)(tl th:TO):TE:=fun σ H Q=>te σ H λx H1=>tl σ H1 λl H2=>th σ H2 λu H3=>r x l u H3 Q
theorem yR{r:V->Option Int->Option Int->Hp->VK->Prop}(hr:AH X r)(he:PE X e te)(k:PO X lo tl)(n:PO X hi th):PE X (.Subscript e (.Slice lo hi Y p2) pos) (Jn r te tl th):=by
 intro ag s σ H Q I h;refine Subscript_ (fg (he ag s σ H _ I h) λv C ⟨x,H1,t,z,A⟩=>?_);refine wpAny_Slice (fg (k ag C σ H1 _ t A) λc m ⟨l,H2,i,pl,j⟩=>fg (n ag m σ H2 _ i j) λvu a ⟨u,d,w,o,B⟩=>?_);rw[evalPart_none];refine wP1 ?_;have f:Inv X ag σ d {a with heap:=a.heap.push {cls:=.type "slice",data:=.fields #[c,vu,.none]}}:=w.kept (t':=a.toks) λb D q=>hP1 _ q;obtain⟨T,id,g,p,y⟩:=hr ag {a with heap:=a.heap.push {cls:=.type "slice",data:=.fields #[c,vu,.none]}} σ d x v c vu l u a.heap.objs.size Q f z (Heap.IsSliceOf.new ..) pl o B;show dM (model X.prog X.w) X.A (subscriptTail e (.Slice lo hi Y p2) v (.ref a.heap.objs.size)) (EP X ag σ Q) X.xe {a with heap:=a.heap.push {cls:=.type "slice",data:=.fields #[c,vu,.none]}};exact tail_any (ops:=[.ref a.heap.objs.size,v]) p g y (by with_unfolding_all rfl)
noncomputable def sS(xs:List V)(lo hi:Option Int):List V:=(xs.drop (HT.sIx xs.length 0 lo)).take (HT.sIx xs.length xs.length hi-HT.sIx xs.length 0 lo)
theorem lO(xs:List V)(lo hi:Option Int):(sS xs lo hi).length<=xs.length:=by
 unfold sS;rw[aQ,aV];lia
def Ih(K:Fg1):V->Option Int->Option Int->Hp->VK->Prop:=λx lo hi H Q=>∃a xs,x = .ref a/\jn K H a xs /\
 ¬ (HT.sIx xs.length 0 lo=0/\HT.sIx xs.length xs.length hi=xs.length) /\ ∀p,H p=Y->Q (.ref p) (upd H p (.tup (sS xs lo hi)))
theorem Dt:AH X (Ih X.K):=by
 intro ag s σ H x v n vu lo hi p Q I j l pl i h;obtain⟨a,xs,rfl,k,g,q⟩:=h;cases j;obtain⟨d,r,f,e⟩:=I.tuple k;have c:d.toArray.size=xs.length:=by rw[sT1];exact r.length.symm
 refine⟨"tuple",_,PyProof.Rows.slot_tuple_getitem.lookup,f.typeIs,?_⟩;refine HT.kx f l pl i (by rw[c];exact g) ?_ (by rw[c];exact e);rw[c];refine⟨.ref s.heap.objs.size,_,I.laid (t':=s.toks) (o:=.tup (sS xs lo hi)) (λb m q=>hP1 _ q) (nR1 _) ?_,O,q _ (I.hok.fresh (nR1 _))⟩;exact⟨aC (lO xs lo hi) e,_,(r.drop (HT.sIx xs.length 0 lo)).take (HT.sIx xs.length xs.length hi-HT.sIx xs.length 0 lo),IsTup.new _ _⟩
noncomputable def F5(K:Fg1):R2:=λx y H Q=>∃a b xs ys,x = .ref a/\y = .ref b/\jn K H a xs/\jn K H b ys/\xs≠[]/\xs.length+ys.length<=dL /\
 (ys=[]->Q (.ref a) H)/\(ys≠[] -> ∀p,H p=Y->Q (.ref p) (upd H p (.tup (xs++ys))))
theorem ei.nil_iff{xs:List V}{a:List dB}(r:ei xs a):a=[]↔xs=[]:=by
 cases r with
 |nil=>simp
 |cons _ _=>simp
theorem Bq:gn X (binaryOp .Add) (F5 X.K):=by
 intro ag s σ H x y v u Q I l k h;obtain⟨a,b,xs,ys,rfl,rfl,j,i,m,d,n,p⟩:=h;cases l;cases k;obtain⟨f,c,g,_⟩:=I.tuple j;obtain⟨e,r2,p2,_⟩:=I.tuple i;refine HT.Ck g p2 (λz=>m (c.nil_iff.mp z)) (λz=>⟨.ref a,H,I,O,n (r2.nil_iff.mp z)⟩) (λz=>?_) (by rw[<- c.length,<- r2.length];exact d);refine⟨.ref s.heap.objs.size,_,I.laid (t':=s.toks) (o:=.tup (xs++ys)) (λb r q=>hP1 _ q) (nR1 _) ?_,O,p (λw=>z (r2.nil_iff.mpr w)) _ (I.hok.fresh (nR1 _))⟩;exact⟨by rw[lA1];exact d,_,c.append r2,IsTup.new _ _⟩
end
end L2
namespace L2
open PySem PySem.Spec PyProof.Rows
noncomputable def vE(n:Nat)(i:Int):Option Nat:=if 0<=i then(if i<n then Z i.toNat else Y)else if-(n:Int)<=i then Z (i+n).toNat else Y
noncomputable def tE{α:Type}(xs:List α)(i:Int):Option α:=(vE xs.length i).bind λj=>xs[j]?
theorem qm{n:Nat}{i:Int}{j:Nat}(h:vE n i=Z j):seqIndex? i n=Z j/\j<n /\ -(n:Int)<=i/\i<n:=by
 unfold vE at h;by_cases a:0<=i
 ·rw[ak a]at h;by_cases h1:i<n
  ·rw[ak h1]at h;have e:i.toNat=j:=Option.some.inj h;exact⟨by rw[seqIndex_of a h1,e],by lia,by lia,h1⟩
  ·rw[aj h1]at h;cases h
 ·rw[aj a]at h;by_cases h1: -(n:Int)<=i
  ·rw[ak h1]at h;have e:(i+n).toNat=j:=Option.some.inj h;exact⟨by rw[seqIndex_neg (by lia) h1,e],by lia,h1,by lia⟩
  ·rw[aj h1]at h;cases h
theorem wb{α:Type}{xs:List α}{i:Int}{v:α}(h:tE xs i=Z v):∃j,seqIndex? i xs.length=Z j/\xs[j]?=Z v/\j<xs.length /\ -(xs.length:Int)<=i/\i<xs.length:=by
 unfold tE at h;cases e:vE xs.length i with
 |none=>rw[e]at h;cases h
 |some j=>
  rw[e]at h;obtain⟨h1,h2,b,a⟩:=qm e;exact⟨j,h1,h,h2,b,a⟩
def mo(b:Expr):Prop:=∀o i,subscripted b J o i=operate [o,i] (getItem o i)
def C3(X:Cx)(r:R2):Prop:=
 ∀(value slice:Expr) (ag:List (dE×Obj)) (s:dD) (σ:St) (H:Hp) (x y:V) (v u:dB) (Q:VK),Inv X ag σ H s->d7 x v->d7 y u->r x y H Q ->
  subscripted slice J v u=operate [v,u] (getItem v u)->dM (model X.prog X.w) X.A (subscriptTail value slice v u) (EP X ag σ Q) X.xe s
def C2(X:Cx)(id:String)(r:V->List V->Hp->VK->Prop):Prop:=
 ∀(ag:List (dE×Obj)) (s:dD) (σ:St) (H:Hp) (x:V) (xs:List V) (v:dB) (us:List dB) (Q:VK),Inv X ag σ H s->d7 x v->ei xs us->r x xs H Q ->
  dM (model X.prog X.w) X.A (call (.builtin id) (v::us)) (EP X ag σ Q) X.xe s
section
variable{X:Cx}{a b:Expr}{ta tb:TE}{pos:Pos}
theorem Gb{r:R2}(hr:C3 X r)(ha:PE X a ta)(hb:PE X b tb)(hs:mo b):PE X (.Subscript a b pos) (FL r ta tb):=by
 intro ag s σ H Q I h;exact Subscript_ (Fa ha hb I h λv u c x y H2 f e d q=>hr a b ag c σ H2 x y v u Q f e d q (hs _ _))
noncomputable def Ik(K:Fg1):R2:=λx y H Q=>∃p xs i v,x = .ref p/\y = .int i/\lV K H p xs/\tE xs i=Z v/\Q v H
noncomputable def Ij(K:Fg1):R2:=λx y H Q=>∃p xs i v,x = .ref p/\y = .int i/\jn K H p xs/\tE xs i=Z v/\Q v H
theorem BV:C3 X (Ik X.K):=by
 intro value b ag s σ H x y v u Q I A o h k;obtain⟨p,xs,i,z,rfl,rfl,n,C,q⟩:=h;cases A;obtain⟨t,rfl⟩:=o;obtain⟨c,r,pl,E⟩:=I.list n;obtain⟨j,h1,h2,F,l,B⟩:=wb C;obtain⟨w,g,e⟩:=r.get h2;have m:=r.length;have D:=lc;have a:EP X ag σ Q w s:=⟨z,H,I,e,q⟩;by_cases f:0<=i
 ·have d:i.toNat=j:=by
   rw[seqIndex_of f B]at h1;exact Option.some.inj h1
  exact item_listR pl.isList f (by lia) (by rw[d];simpa using g) a k
 ·have d:(i+(c.toArray.size:Int)).toNat=j:=by
   rw[seqIndex_neg (by lia) l]at h1;rw[sT1,<- m];exact Option.some.inj h1
  exact subscriptTail_builtinR (x:=w) pl.isList.typeIs slot_list_getitem.lookup
   (wpAny_getItem_list_neg (Q:=λr s'=>r=w/\EP X ag σ Q r s') pl.isList (by lia) (by rw[sT1]<;>lia) (by lia) (by rw[d];simpa using g) ⟨O,a⟩) k
theorem EU:C3 X (Ij X.K):=by
 intro value a ag s σ H x y v u Q I l g h n;obtain⟨p,xs,i,z,rfl,rfl,f,m,q⟩:=h;cases l;obtain⟨t,rfl⟩:=g;obtain⟨d,r,pl,B⟩:=I.tuple f;obtain⟨j,h1,h2,D,o,C⟩:=wb m;obtain⟨w,k,c⟩:=r.get h2;have e:=r.length;have A:=lc;have b:EP X ag σ Q w s:=⟨z,H,I,c,q⟩;exact subscriptTail_builtinR (x:=w) pl.typeIs slot_tuple_getitem.lookup
  (getItem_tuple (j:=j) (Q:=λr s'=>r=w/\EP X ag σ Q r s') pl (by lia) (by lia) (by rw[sT1,<- e];exact h1) (by simpa using k) ⟨O,b⟩) n
theorem uo(its:List dB)(n j:Nat)(u:dB):Obj.mapSeq (·.setIfInBounds j u) {cls:=.type "list",data:=.seq its.toArray n}={cls:=.type "list",data:=.seq (its.set j u).toArray n}:=by
 simp[Obj.mapSeq]
theorem Inv.lst{ag:List (dE×Obj)}{σ:St}{H:Hp}{s:dD}{p:dE}{xs:List V}(I:Inv X ag σ H s)(h:H p=some (.lst xs)):
  ∃(its:List dB) (n:Nat),ei xs its/\s.heap.get? p=Z {cls:=.type "list",data:=.seq its.toArray n}/\xs.length<=dL:=by
 obtain⟨z,its,n,r,e⟩:=I.hok p _ h;exact⟨its,n,r,e,z⟩
theorem Inv.lstUpd {ag:List (dE×Obj)}{σ:St}{H:Hp}{s:dD}{p:dE}{xs ys:List V}{its its':List dB}{n a:Nat}{f:Obj->Obj}(I:Inv X ag σ H s)(h:H p=some (.lst xs))
  (ho:s.heap.get? p=Z {cls:=.type "list",data:=.seq its.toArray n}) (hf:f {cls:=.type "list",data:=.seq its.toArray n}={cls:=.type "list",data:=.seq its'.toArray a}) (r:ei ys its') (d:ys.length<=dL) (t:Nat):
  Inv X ag σ (upd H p (.lst ys)) {s with heap:=s.heap.update p f,toks:=t}:=by
 have e:(s.heap.update p f).get? p=Z {cls:=.type "list",data:=.seq its'.toArray a}:=by
  rw[hW1 f ho (by rw[hf]<;>rfl),hf]
 refine I.write (x:=p) (e:=p) (by rw[h];trivial) (.inl O) (λb u c q=>(Heap.get?_update_other _ _ (Ne.symm c)).trans q) ⟨_,e⟩ ?_;exact⟨d,its',a,r,e⟩
def F4:V->V->V->Hp->(Hp->Prop)->Prop:=λo i v H Q=>∃p xs k j,o = .ref p/\i = .int k/\H p=Z (.lst xs)/\vE xs.length k=Z j/\Q (upd H p (.lst (xs.set j v)))
theorem yt:uN X F4:=by
 intro ag s σ H o i v D B u Q I z w A h;obtain⟨p,xs,k,j,rfl,rfl,m,x,q⟩:=h;cases z;obtain⟨t,rfl⟩:=w;obtain⟨a,n,r,d,y⟩:=I.lst m;obtain⟨h1,h2,l,e⟩:=qm x;have b:=r.length;have C:=lc;have f:Inv X ag σ (upd H p (.lst (xs.set j v))) {s with heap:=s.heap.update p (Obj.mapSeq (·.setIfInBounds j u))}:=
  I.lstUpd m d (uo a n j u) (r.set A j) (by rw[aW];exact y) s.toks
 by_cases g:0<=k
 ·have c:k.toNat=j:=by
   rw[seqIndex_of g e]at h1;exact Option.some.inj h1
  exact PySem.W.ki_setAt d g (by lia) (by rw[sT1,<- b];exact e) (by rw[c];exact⟨_,f,q⟩)
 ·have c:(k+(a.toArray.size:Int)).toNat=j:=by
   rw[seqIndex_neg (by lia) l]at h1;rw[sT1,<- b];exact Option.some.inj h1
  exact PySem.W.ki_setBack d (by lia) (by rw[sT1,<- b];exact l) (by lia) (by rw[c];exact⟨_,f,q⟩)
theorem pP(lo hi:Option Int)(n:Nat):(sliceBounds lo hi Y n).1=((HT.sIx n 0 lo:Nat):Int)/\(sliceBounds lo hi Y n).2.1=((HT.sIx n n hi:Nat):Int)/\(sliceBounds lo hi Y n).2.2=1:=by
 refine⟨?_,?_,O⟩
 ·cases lo with
  |none=>simp[sliceBounds,HT.sIx]
  |some i=>
   simp only[sliceBounds,HT.sIx,Option.getD_none,show(1:Int)>0 by decide,if_true];by_cases h:i<0
   ·simp only[h,if_true]<;>lia
   ·simp only[h,if_false]<;>lia
 ·cases hi with
  |none=>simp[sliceBounds,HT.sIx]
  |some i=>
   simp only[sliceBounds,HT.sIx,Option.getD_none,show(1:Int)>0 by decide,if_true];by_cases h:i<0
   ·simp only[h,if_true]<;>lia
   ·simp only[h,if_false]<;>lia
theorem nO(its:List dB)(lo hi:Option Int):slicePick its.toArray lo hi Y=((its.drop (HT.sIx its.length 0 lo)).take (HT.sIx its.length its.length hi-HT.sIx its.length 0 lo)).toArray:=by
 obtain⟨h1,h2,a⟩:=pP lo hi its.toArray.size;unfold slicePick;rw[h1,h2,a];simp only[sliceRange_one,pick_run,sT1]<;>rfl
def Ii(K:Fg1):V->Option Int->Option Int->Hp->VK->Prop:=λx lo hi H Q=>∃a xs,x = .ref a/\lV K H a xs /\ ∀p,H p=Y->Q (.ref p) (upd H p (.lst (sS xs lo hi)))
theorem AY:AH X (Ii X.K):=by
 intro ag s σ H x v m vu lo hi n Q I i k pl g h;obtain⟨a,xs,rfl,j,q⟩:=h;cases i;obtain⟨e,r,d,f⟩:=I.list j;have c:=r.length;refine⟨"list",_,slot_list_getitem.lookup,d.isList.typeIs,?_⟩;refine wpAny_getItem_list_slice d.isList k pl g .none (by simp) ?_ (by rw[sT1]<;>lia);rw[nO,<- c];refine⟨.ref s.heap.objs.size,_,I.laid (t':=s.toks) (o:=.lst (sS xs lo hi)) (λb l q=>hP1 _ q) (nR1 _) ?_,O,q _ (I.hok.fresh (nR1 _))⟩;exact⟨aC (lO xs lo hi) f,_,0,(r.drop (HT.sIx xs.length 0 lo)).take (HT.sIx xs.length xs.length hi-HT.sIx xs.length 0 lo),hS1 _ O⟩
noncomputable def nv:V->Bool
 | .non=>M
 | .bl _=>M
 | .int _=>M
 | .str _=>M
 |_=>J
noncomputable def uD:V->V->Bool
 | .non,.non=>M
 | .bl a,.bl b=>a == b
 | .bl a,.int b=>(if a then 1 else 0) == b
 | .int a,.bl b=>a == (if b then 1 else 0)
 | .int a,.int b=>a == b
 | .str a,.str b=>a == b
 |_,_=>J
theorem jH{A:dG}{s:dD}{y x:V}{u v:dB}(e:d7 y u)(c:d7 x v)(g:nv y=M)(f:nv x=M):SeqAt.EqAt A s u v (uD y x):=by
 cases y with
 |non=>
  cases e;cases x with
  |non=>cases c;exact SeqAt.EqAt.same _
  |bl b=>cases c;exact SeqAt.EqAt.none_bool b
  |int b=>obtain⟨t,rfl⟩:=c;exact SeqAt.EqAt.none_int b t
  |str b=>obtain⟨t,rfl⟩:=c;exact SeqAt.EqAt.none_str b t
  |_=>exact absurd (show J=M from f) aK
 |bl a=>
  cases e;cases x with
  |non=>cases c;exact SeqAt.EqAt.bool_none a
  |bl b=>cases c;exact SeqAt.EqAt.bool_bool a b
  |int b=>obtain⟨t,rfl⟩:=c;exact SeqAt.EqAt.bool_int a b t
  |str b=>obtain⟨t,rfl⟩:=c;exact SeqAt.EqAt.bool_str a b t
  |_=>exact absurd (show J=M from f) aK
 |int a=>
  obtain⟨d,rfl⟩:=e;cases x with
  |non=>cases c;exact SeqAt.EqAt.int_none a d
  |bl b=>cases c;exact SeqAt.EqAt.int_bool a d b
  |int b=>obtain⟨t,rfl⟩:=c;exact SeqAt.EqAt.int_int a d b t
  |str b=>obtain⟨t,rfl⟩:=c;exact SeqAt.EqAt.int_str a d b t
  |_=>exact absurd (show J=M from f) aK
 |str a=>
  obtain⟨d,rfl⟩:=e;cases x with
  |non=>cases c;exact SeqAt.EqAt.str_none a d
  |bl b=>cases c;exact SeqAt.EqAt.str_bool a d b
  |int b=>obtain⟨t,rfl⟩:=c;exact SeqAt.EqAt.str_int a d b t
  |str b=>obtain⟨t,rfl⟩:=c;exact SeqAt.EqAt.str_str a d b t
  |_=>exact absurd (show J=M from f) aK
 |_=>exact absurd (show J=M from g) aK
theorem qL:fj X (.builtin "len") (λxs H Q=>∃p ys,xs=[.ref p]/\(lV X.K H p ys\/jn X.K H p ys)/\Q (.int ys.length) H):=by
 intro ag s σ H xs i Q I r h;obtain⟨p,ys,rfl,b,q⟩:=h;obtain⟨u,rfl,f⟩:=iM r;cases f;have g:=lc;rcases b with b|b
 ·obtain⟨c,d,pl,e⟩:=I.list b;have a:=d.length;exact Calls.call_len_list pl.isList (by simp only[sT1]<;>lia) ⟨.int ys.length,H,I.tok _,⟨s.toks+1,by rw[sT1,a]⟩,q⟩
 ·obtain⟨c,d,pl,e⟩:=I.tuple b;have a:=d.length;exact len_tuple pl (by simp only[sT1]<;>lia) ⟨.int ys.length,H,I.tok _,⟨s.toks+1,by rw[sT1,a]⟩,q⟩
theorem qC:fj X (.builtin "len") (λxs H Q=>∃z,xs=[.str z]/\z.length<=dL/\Q (.int z.length) H):=by
 intro ag s σ H xs c Q I r h;obtain⟨z,rfl,a,q⟩:=h;obtain⟨u,rfl,t,rfl⟩:=iM r;have b:=lc;exact len_str (by lia) ⟨.int z.length,H,I.tok _,⟨_,O⟩,q⟩
theorem n0:fj X (.type "tuple") (λxs H Q=>∃p ys,xs=[.ref p]/\((lV X.K H p ys /\ ∀l,H l=Y->Q (.ref l) (upd H l (.tup ys)))\/(jn X.K H p ys/\Q (.ref p) H))):=by
 intro ag s σ H xs n Q I r h;obtain⟨p,ys,rfl,h⟩:=h;obtain⟨u,rfl,k⟩:=iM r;cases k;rcases h with⟨c,q⟩|⟨c,q⟩
 ·obtain ⟨a,d,pl,g⟩:=I.list c;have i:=d.length;refine call_tuple_list pl.isList (fun h' j=>?_) (by simp only [sT1]<;>lia);have f:Inv X ag σ H {s with heap:=h'}:=I.kept (t':=s.toks) j;have m:Inv X ag σ (upd H h'.objs.size (.tup ys)) {s with heap:=h'.push {cls:=.type "tuple",data:=.seq a.toArray}}:=
   f.laid (t':=s.toks) (λb o e=>hP1 _ e) (nR1 _) (show eO X.prog X.w _ _ _ (.tup ys)from⟨g,a,d,IsTup.new _ _⟩)
  exact⟨.ref h'.objs.size,_,m,O,q _ (f.hok.fresh (nR1 _))⟩
 ·obtain⟨a,d,pl,g⟩:=I.tuple c;exact call_tuple_same pl ⟨.ref p,H,I,O,q⟩
def IP(K:Fg1)(T:String)(x:V)(H:Hp):Prop:=match x with
 | .str _=>T="str"
 | .int _=>T="int"
 | .ref p=>(T="list" /\ ∃ xs,lV K H p xs)\/(T="tuple" /\ ∃ o,K.lookup p=some o/\o.cls = .type "tuple"/\o.dict=none) \/
   (T="dict"/\((∃kvs,H p=Z (.dK kvs)) \/ ∃kvs,H p=Z (.dT kvs)))\/(T="set" /\ ∃S n,H p=Z (.set S n))
 |_=>False
theorem Dc{ag:List (dE×Obj)}{σ:St}{H:Hp}{s:dD}{T:String}{x:V}{v:dB}(I:Inv X ag σ H s)(r:d7 x v)(ty:IP X.K T x H):
  s.TypeIs v T /\ ∀a,v = .ref a -> ∃g,s.heap.get? a=Z g/\g.dict=Y:=by
 cases x with
 |str z=>
  obtain⟨t,rfl⟩:=r;cases(show T="str" from ty);exact⟨typeIs_str s z t,λ_ e=>nomatch e⟩
 |int i=>
  obtain⟨t,rfl⟩:=r;cases(show T="int" from ty);exact⟨typeIs_int s i t,λ_ e=>nomatch e⟩
 |ref p=>
  cases r;rcases ty with⟨rfl,xs,j⟩|⟨rfl,o,b,hc,f⟩|⟨rfl,b⟩|⟨rfl,S,n,b⟩
  ·obtain⟨h,_,pl,_⟩:=I.list j;refine⟨pl.isList.typeIs,λa e=>?_⟩;cases e;obtain⟨o,n,e,c,f,_⟩:=pl;exact⟨o,e,f⟩
  ·refine⟨⟨o,I.kIn p o b,hc⟩,λa e=>?_⟩;cases e;exact⟨o,I.kIn _ o b,f⟩
  ·have z:∃ o,s.heap.get? p=some o/\o.ExactDict:=by
    rcases b with⟨kvs,b⟩|⟨kvs,b⟩
    ·obtain⟨_,_,_,_,o,_,_,e,ex,_⟩:=I.hok p _ b;exact⟨o,e,ex⟩
    ·obtain⟨_,_,_,_,o,_,_,e,ex,_⟩:=I.hok p _ b;exact⟨o,e,ex⟩
   obtain⟨o,e,ex⟩:=z;refine⟨⟨o,e,ex.1⟩,λa d=>?_⟩;cases d;exact⟨o,e,ex.2.1⟩
  ·obtain⟨o,_,_,_,e,ex,_⟩:=I.hok p _ b;refine⟨⟨o,e,ex.1⟩,λa d=>?_⟩;cases d;exact⟨o,e,ex.2.1⟩
 |_=>exact False.elim ty
def Jr(K:Fg1)(T:String)(r:V->List V->Hp->VK->Prop)(to:TE)(t:TA):TE:=fun σ H Q=>to σ H λx H1=>IP K T x H1/\t σ H1 λxs H2=>r x xs H2 Q
variable{o e:Expr}{es:List Expr}{to:TE}{t:TA}{name:Str}{apos cpos:Pos}{T id:String}{r:V->List V->Hp->VK->Prop}
theorem Gc (i:PlainAttrs T)(slot:Slot T name id)(hty:typeOf (.builtin id)=pure (.type "method_descriptor"))(hm:C2 X id r)(ho:PE X o to)(ha:PA X (e::es) t)
  (hbase:attributeBase o name X.env (eval o X.env)=eval o X.env:=by rfl)
  (hfew:((backTo cpos (dJ (e::es) X.env)).all (λx=> !x.1)&&(backToKw cpos (keywordEach [] X.env)).all (λx=>x.1.isSome)
   && decide ((e::es).length+([]:List Keyword).length+(if([]:List Keyword).isEmpty then 0 else 1)<30))=M:=by rfl)
  (hline:(apos.endLine == cpos.line)=M:=by rfl) (hs:dJ (e::es) X.env=(J,eval e X.env)::dJ es X.env:=by rfl) (hplain:(backTo cpos (dJ es X.env)).any (·.1)=J:=by rfl):
  PE X (.Call (.Attribute o name apos) (e::es) [] cpos) (Jr X.K T r to t):=by
 intro ag s σ H Q I h;refine wpAny_Call_method_late hbase hfew hline O (fg (ho ag s σ H _ I h) λv d ⟨x,H1,a,c,ty,j⟩=>?_);obtain⟨h1,h2⟩:=Dc a c ty;refine⟨T,id,i,slot,hty,h1,h2,?_⟩;have b:=ha cpos ag d σ H1 _ a j;rw[hs]at b ⊢;refine Calls.callWith_builtin (by show(J||(backTo cpos (dJ es X.env)).any (·.1))=J;rw[hplain]<;>rfl) (Calls.evalArgs_plain ?_);exact fg b λg f ⟨vs,H2,k,r2,l⟩=>hm ag f σ H2 x vs v g Q k c r2 l
end
end L2
namespace L2
open PySem PySem.Spec PyProof.Rows
def Jg(X:Cx)(id:String)(r:V->List V->Hp->VK->Prop):Prop:=
 ∀(ag:List (dE×Obj)) (s:dD) (σ:St) (H:Hp) (x:V) (xs:List V) (v:dB) (us:List dB) (Q:VK),Inv X ag σ H s->d7 x v->ei xs us->r x xs H Q ->
  dM (model X.prog X.w) X.A (call (.builtin id) (v::us)) (EP X ag σ Q) X.xe s
theorem ei.one:∀{x:V} {a:List dB},ei [x] a -> ∃u,a=[u]/\d7 x u:=by
 intro x a h;cases h with
 |cons r t=>cases t;exact⟨_,O,r⟩
theorem ei.two:∀{x y:V} {a:List dB},ei [x,y] a -> ∃u v,a=[u,v]/\d7 x u/\d7 y v:=by
 intro x y a h;cases h with
 |cons r t=>obtain⟨v,rfl,q⟩:=ei.one t;exact⟨_,_,O,r,q⟩
theorem ei.eraseIdx:∀{xs:List V} {a:List dB} (i:Nat),ei xs a->ei (xs.eraseIdx i) (a.eraseIdx i)
 |_,_,_,.nil=>.nil
 |_,_,0,.cons _ t=>t
 |_,_,i+1,.cons r t=>.cons r (ei.eraseIdx i t)
theorem oN{α:Type}:∀(l:List α) (i:Nat),(l.eraseIdx i).length<=l.length
 |[],_=>nR1 _
 |_::_,0=>aX _
 |_::r,i+1=>Nat.succ_le_succ (oN r i)
section
variable{X:Cx}{ag:List (dE×Obj)}{σ:St}{H:Hp}{s:dD}{l b:dE}{xs ys zs:List V}
theorem Inv.lset {its its':List dB}{n:Nat}{f:Array dB->Array dB}{t':Nat}(I:Inv X ag σ H s)(a:H l=some (.lst xs))
  (e:s.heap.get? l=Z {cls:=.type "list",data:=.seq its.toArray n}) (hf:f its.toArray=its'.toArray) (hv:ei ys its') (c:ys.length<=dL):
  Inv X ag σ (upd H l (.lst ys)) {s with heap:=s.heap.update l (Obj.mapSeq f),toks:=t'}:=by
 have q:=PySem.IsL.update e f;rw[hf]at q;refine I.write (x:=l) (e:=l) (by rw[a];exact trivial) (.inl O) (λg u b d=>(Heap.get?_update_other s.heap (Obj.mapSeq f) (Ne.symm b)).trans d) ⟨_,q⟩ ?_;exact⟨c,its',_,hv,q⟩
theorem Inv.lnew{its:List dB}{t':Nat}(I:Inv X ag σ H s)(hv:ei ys its)(a:ys.length<=dL):
  Inv X ag σ (upd H s.heap.objs.size (.lst ys)) {s with heap:=s.heap.push {cls:=.type "list",data:=.seq its.toArray},toks:=t'}:=
 I.laid (λ_ _ q=>hP1 _ q) (nR1 _) ⟨a,its,0,hv,hS1 _ O⟩
theorem Inv.fresh(I:Inv X ag σ H s):H s.heap.objs.size=Y:=I.hok.fresh (nR1 _)
theorem Inv.lstM(I:Inv X ag σ H s)(a:H l=Z (.lst xs)):xs.length<=dL /\ ∃(its:List dB) (n:Nat),ei xs its/\xs.length=its.length/\s.heap.get? l=Z {cls:=.type "list",data:=.seq its.toArray n}:=by
 obtain⟨z,its,n,r,e⟩:=I.hok l _ a;exact⟨z,its,n,r,r.length,e⟩
end
section
variable{X:Cx}
def A4:V->List V->Hp->VK->Prop:=λx vs H Q=>∃l xs y,x = .ref l/\vs=[y]/\H l=Z (.lst xs)/\xs.length<dL/\Q .non (upd H l (.lst (xs++[y])))
theorem oG:Jg X "list.append" A4:=by
 intro ag s σ H x vs v j Q I d f h;obtain⟨l,xs,y,rfl,rfl,b,i,q⟩:=h;cases d;obtain⟨u,rfl,c⟩:=f.one;obtain⟨z,a,n,r,g,e⟩:=I.lstM b;refine call_meets F.slot_list_append ⟨_,e,O⟩ F.entry_list_append (F.args_list_append_2 _ _) (PySem.list_append l a.toArray n u (by rw[sT1];lia)) ⟨e,?_⟩;refine⟨.non,_,I.lset (its':=a++[u]) b e (by simp) (r.append (.cons c .nil)) ?_,O,q⟩;rw[lA1,aY];lia
def DE:V->List V->Hp->VK->Prop:=λx vs H Q=>∃l xs i k y,x = .ref l/\vs=[.int i]/\H l=Z (.lst xs) /\ -(2^63)<=i/\i<2^63/\seqIndex? i xs.length=Z k/\xs[k]?=Z y/\Q y (upd H l (.lst (xs.eraseIdx k)))
theorem zi:Jg X "list.pop" DE:=by
 intro ag s σ H x vs v A Q I o p h;obtain⟨l,xs,i,k,y,rfl,rfl,c,h1,h2,g,j,q⟩:=h;cases o;obtain⟨u,rfl,m⟩:=p.one;obtain⟨t,rfl⟩:=m;obtain⟨z,a,n,r,d,e⟩:=I.lstM c;obtain⟨w,f,b⟩:=r.get j;refine call_meets F.slot_list_pop ⟨_,e,O⟩ F.entry_list_pop (F.args_list_pop_2 _ _)
  (MeetsSeq.list_pop_at l a.toArray n i t k w (fitsIndex_both h1 h2) (by rw[sT1,<- d];exact g) (by rw[<- aT1];exact f) (by rw[sT1];lia)) ⟨e,?_⟩
 refine⟨y,_,I.lset (its':=a.eraseIdx k) c e ?_ (r.eraseIdx k) ?_,b,q⟩
 ·show a.toArray.eraseIdxIfInBounds k=(a.eraseIdx k).toArray;rw[List.eraseIdxIfInBounds_toArray]
 ·have:=oN xs k;lia
noncomputable def Il:R2:=λx y H Q=>∃l b xs zs,x = .ref l/\y = .ref b/\H l=Z (.lst xs)/\H b=Z (.lst zs)/\xs.length+zs.length<=dL /\ ∀p,H p=Y->Q (.ref p) (upd H p (.lst (xs++zs)))
theorem D7:gn X (binaryOp .Add) Il:=by
 intro ag s σ H x y v u Q I m i h;obtain⟨l,b,xs,zs,rfl,rfl,g,k,t,q⟩:=h;cases m;cases i;obtain⟨z,c,n,r,o,e⟩:=I.lstM g;obtain⟨w,a,p,r2,d,f⟩:=I.lstM k;refine PySem.P.add_list e f ?_ (by rw[sT1,sT1];lia);have j:c.toArray++a.toArray=(c++a).toArray:=by simp
 rw[j];exact⟨.ref _,_,I.lnew (t':=s.toks) (r.append r2) (by rw[lA1];lia),O,q _ I.fresh⟩
end
section
variable{prog:dF}{w:dH}{A:dG}{E:dB->dD->Prop}{s:dD}
end
section
variable{X:Cx}
end
end L2
namespace Att
open PySem PySem.W PySem.Calls PyProof.Rows
theorem lY{P:Params}{h:dN}:∀(ns:List Int) (vs:List dB),WellAll P h vs (ns.map WData.int)->IntsAre vs ns:=by
 intro ns
 induction ns with
 |nil=>
  intro vs w;rw[aZ]at w;cases w;exact .nil
 |cons n ns ih=>
  intro vs w;rw[mP1]at w;cases w with
  |cons a b=>
   cases a;exact .cons _ _ (ih _ b)
theorem wA{l:OpenLaw}{n:Nat}(hn:l.most=some n){P:Params}{h:dN}{args:List WData}{b:List dB}(c:l.row.toRowW.claim.pre args=true)(k:WellAll P h b args):
  ∃a vs ns,b=[Value.ref a]/\args=[WData.list (ns.map WData.int)]/\h.get? a=Z {cls:=.type "list",data:=.seq vs.toArray}/\IntsAre vs ns/\ns.length<=n:=by
 have j:WShape.hasAll [] args [.list .int]=M:=(pre_splitW c).1;have hc:l.pre.holds [] {args:=args}=M:=(pre_splitW c).2;obtain⟨d,r,rfl,h1,h2⟩:=hasAllW_cons j;obtain rfl:=hasAllW_nil h2;obtain⟨xs,rfl,s⟩:=hasW_list h1;obtain⟨ns,rfl⟩:=items_int s;have f:ns.length<=n:=by
  unfold OpenLaw.pre at hc;have g:(WTm.not (.lt (.lit (.int (n:Int))) (.len (.arg 0)))).holds [] {args:=[.list (ns.map .int)]}=M:=by
   have g:=(holds_andW hc).1;rw[hn]at g;exact g
  have i:=condW_of g (w_not (w_lt w_lit (w_len_list (w_arg O))));rw[lM1]at i;refine a0 λq=>?_;have p:(n:Int)<((ns.length:Nat):Int):=by omega
  first
   |(rw[ah p]at i;exact absurd i (by decide))
   |(simp at i;omega)
 cases k with
 |cons m t=>
  cases t;cases m with
  |list o e=>exact⟨_,_,ns,O,O,o,lY ns _ e,f⟩
theorem wB(l:OpenLaw)(args:List WData):l.row.toRowW.claim.post args (.bool M) args=M:=
 postW_of (r:=l.row.toRowW) (X:=(M == M))
  (show WShape.has [] (.bool M) .bool=M by first|rfl|decide|simp[WShape.has,WShape.arms,WShape.armsAll])
  (show(WTm.eq .res (.lit (.bool M))).value [] {args:=args,res:=Z (.bool M),after:=args}=Z (.bool (M == M))from w_eq_bool (w_res O) w_lit) O
theorem attach_call {l:OpenLaw}{n:Nat}{q:dF}{e:List Str}{XP:(Str->Option dB)->dN->Prop}{A:dH->dN->Prop}{d:DefRec}
  (hn:l.most=Z n) (v:d.params.defaults=[])
  (call:∀(w:dH) (c b:dD) (mg u:Str->Option dB) (m:dE) (o:Obj) (y p h:dB) (a:dE) (vs:List dB) (ns:List Int),
   Ground q e [] XP w c mg u b.heap->A w b.heap ->
   b.heap.get? m=Z o->o.data = .func (docDef d.name d.params d.body d.scope y p h)->b.heap.CodeRec p d.name->mg d.name=Z (.ref m) ->
   b.heap.get? a=Z {cls:=.type "list",data:=.seq vs.toArray}->IntsAre vs ns->ns.length<=n->b.gens = #[] ->
   codeAny (model l.prog w) callerA (.call (.ref m) ⟨[.ref a],[]⟩) (λr s'=>r = .ok (.ret (.bool M))/\OldK b.heap s'.heap/\s'.os=b.os/\AllBare s'.gens) b):
  WalkO q e XP A l.row.toRowW d [] (λf vs=>PySem.call f vs):=by
 intro w c b mg u G aq m o y p h N kV ao H x B s K C D as i z au t F;obtain rfl:N = .none:=Dflts.none B v;obtain rfl:kV = .none:=Dflts.noKw B;obtain⟨a,vs,ns,rfl,rfl,j,g,k⟩:=wA hn i t;refine enter_call (codeAny_mono (call w c b mg u m o y p h a vs ns G aq ao (fd_plain H) x s j g k K) λr s' am=>?_);obtain⟨rfl,h2,E,I⟩:=am;exact⟨.inl ⟨.bool M,.bool M,[],O,λ_=>rfl,.bool M,wB l _,λ_=>⟨List.Pairwise.nil,λ_ L=>(nomatch L)⟩⟩,h2,E,I⟩
section
variable{prog:dF}{w:dH}{A:dG}{E:dB->dD->Prop}{s:dD}{K:Frag}
end
end Att
namespace L2
open PySem PySem.Spec PyProof.Rows
theorem wo:∀{vs:List dB} {ns:List Int},IntsAre vs ns->ei (ns.map V.int) vs:=by
 intro vs ns h
 induction h with
 |nil=>exact .nil
 |cons n t h ih=>exact .cons ⟨t,O⟩ ih
def CA(H:Hp):Prop:=∀b,H b=Y \/ ∃o xs,H b=Z (.frz o (.lst xs))
theorem zB {P:dF}{w:dH}{K:Fg1}{mg am:Str->Option dB}{CX:xE}{k:Nat}{I a:dE}{fd:dP}{x:Str}{sp:Sp}{s₁:dD}{vs:List dB}{ns:List Int}
  (ao:K.In s₁.heap) (i:s₁.heap.Ns dI mg) (hb:s₁.heap.Ns builtinsNs am) (E:∀x:Str,x≠"__name__"->am x=bootBuiltins x) (j:s₁.heap.NoLimit) (hg:s₁.gens = #[])
  (ha:s₁.heap.get? a=Z {cls:=.type "list",data:=.seq vs.toArray}) (hi:IntsAre vs ns) (au:ns.length<=dL) (hr:fN k callerA)
  (F:∀base:dN,K.In base->base.Ns dI mg->ju P w K mg base CX k I fd [x] sp) (g:∀(s:dD) (u:dB),BindsTo s fd ⟨[u],[]⟩ [(x,u)])
  (D:∀H:Hp,CA H->lV K H a (ns.map V.int)->sp [.ref a] H (λv _=>v = .bl M) λ_ _ _=>False)
  (C:∀H e s',CX [] H s₁ (λ_ _ _=>False) e s'->False):
  codeAny (model P w) callerA (.call (.ref I) ⟨[.ref a],[]⟩) (λr s'=>r = .ok (.ret (.bool M))/\OldK s₁.heap s'.heap/\s'.os=s₁.os/\AllBare s'.gens) s₁:=by
 have N:=wo hi;have y:=hi.length
 -- from an abstract heap in which nothing but the script may be tracked
 have f:∀ H:Hp,CA H->lV K H a (ns.map V.int)->kU P w H s₁.heap->(∀ b,H b≠none->b=a)->(H a≠none->K.lookup a=none) ->
   codeAny (model P w) callerA (.call (.ref I) ⟨[.ref a],[]⟩) (λr s'=>r = .ok (.ret (.bool M))/\OldK s₁.heap s'.heap/\s'.os=s₁.os/\AllBare s'.gens) s₁:=by
  intro H S hS A R hK;have base_of:∀{b:dE} {o:Obj},s₁.heap.get? b=Z o->H b=Y->(qr s₁.heap H).get? b=Z o:=λe n=>zM e n;have L:∀{b:dE} {o:Obj} {es:Array DictEntry} {ep:Nat},s₁.heap.get? b=Z o->o.data = .dict es ep->H b=Y:=λ{b o es ep} e d=>by
   cases q:H b with
   |none=>rfl
   |some u=>
    have G:b=a:=R b (by rw[q];simp);subst G;rw[ha]at e;cases e;have d':Data.seq vs.toArray _=Data.dict es ep:=d;cases d'
  have c:∀{b:dE} {m:Str->Option dB},s₁.heap.Ns b m->(qr s₁.heap H).Ns b m:=λ{b m} ⟨o,es,ep,e,d,r⟩=>⟨o,es,ep,base_of e (L e d),d,r⟩;have l:K.In (qr s₁.heap H):=λb o e=>base_of (ao b o e) (by
   cases q:H b with
   |none=>rfl
   |some u=>
    have G:b=a:=R b (by rw[q];simp);subst G;rw[hK (by rw[q];simp)]at e;cases e)
  have T:Mod K mg (qr s₁.heap H):=⟨l,c i,⟨am,c hb,E⟩,let ⟨mc,h1,h2⟩:=j;⟨mc,c h1,h2⟩⟩;have e0:CB P w K mg (qr s₁.heap H) callerA [] s₁ H:=⟨O,T,λb o e=>Bt e,Nat.le_of_eq (wZ _ _),trivial,λb hb=>absurd (show b∈([]:List dE)from hb) (by simp),A,.of_eq hg⟩;refine codeAny_mono ((F _ l (c i)).run callerA [] s₁ H ⟨[.ref a],[]⟩ [.ref a] [.ref a] _ _ hr e0 (g s₁ (.ref a)) (.cons O .nil) (D H S hS)) λr s' h=>?_;cases r with
  |error e=>exact(C H e s' h).elim
  |ok fl=>
   cases fl with
   |next=>exact False.elim h
   |brk=>exact False.elim h
   |cont=>exact False.elim h
   |ret u=>
    obtain⟨v,H',os,p,un,t,X,q⟩:=h;have U:v = .bl M:=q;subst U;obtain rfl:u=Value.bool true:=X;refine⟨O,OldK.of_keep λb o e=>?_,os,p⟩;cases q:H b with
    |none=>exact un.keep b o e q (by intro z;exact absurd (show b∈([]:List dE)from z) (by simp)) (by simp)
    |some u=>
     rcases S b with z|⟨wq,xs,z⟩
     ·rw[q]at z;cases z
     ·have W:=un.frzs b wq _ z;obtain⟨Q,_⟩:=A b _ z;obtain⟨aq,_⟩:=t b _ W;rw[e]at Q;cases Q;exact aq
 cases hk:K.lookup a with
 |some o=>
  -- the script is one of the module's own objects
  have e:=ao a o hk;rw[ha]at e;cases e;refine f (λ_=>Y) (λ_=>.inl O) (.inr ⟨_,vs.toArray,_,hk,O,O,O,by rw[sT1,y];exact au,by simpa using N⟩) (λb u z=>by have B:(Y:Option HO)=Z u:=z;cases B) (λb z=>absurd O z) λz=>absurd O z
 |none=>
  refine f (λb=>if b=a then Z (.frz {cls:=.type "list",data:=.seq vs.toArray} (.lst (ns.map V.int)))else Y) (λb=>?_) (.inl (.inr ⟨{cls:=.type "list",data:=.seq vs.toArray},ak O⟩)) (λb u z=>?_) (λb z=>?_) λ_=>hk
  ·by_cases hb:b=a
   ·exact .inr ⟨_,_,ak hb⟩
   ·exact .inl (aj hb)
  ·by_cases hb:b=a
   ·have B:=(ak hb).symm.trans z;cases B;subst hb;exact⟨ha,by rw[lM1];exact au,vs,_,N,ha⟩
   ·have B:=(aj hb).symm.trans z;cases B
  ·by_cases hb:b=a
   ·exact hb
   ·exact absurd (aj hb) z
end L2
namespace L2
open PySem PySem.Spec PyProof.Rows
theorem AT{l:PySem.W.OpenLaw}{n k:Nat}{q:dF}{g:List Str}{XP:(Str->Option dB)->dN->Prop}{B:dH->dN->Prop}{d:DefRec}{K:Params->Fg1}{CX:dH->xE}{sp:dH->Sp}{x:Str}(hn:l.most=some n)(y:n<=dL)(z:d.params.defaults=[])(hr:fN k callerA)(I:∀(w:dH) (h:dN),B w h->(K w.params).In h)(F:∀(w:dH) (mg:Str->Option dB) (m:dE) (h:dN),(K w.params).In h->h.Ns dI mg->mg d.name=some (.ref m) ->
   ∃fd:dP,(∀(s:dD) (u:dB),BindsTo s fd ⟨[u],[]⟩ [(x,u)]) /\
    ∀base:dN,(K w.params).In base->base.Ns dI mg->ju l.prog w (K w.params) mg base (CX w) k m fd [x] (sp w))(r:∀(w:dH) (H:Hp) (a:dE) (ns:List Int),ns.length<=n->CA H->lV (K w.params) H a (ns.map V.int)->sp w [.ref a] H (λv _=>v = .bl M) λ_ _ _=>False)(p:∀(w:dH) (H:Hp) (s:dD) (e:dB) (s':dD),CX w [] H s (λ_ _ _=>False) e s'->False):
  PySem.W.WalkO q g XP B l.row.toRowW d [] (λf vs=>PySem.call f vs):=by
 refine Att.attach_call hn z λw C j mg R m o T P N a vs ns G aq S Q ao t i c b L=>?_;have A:=I w _ aq;obtain⟨fd,E,D⟩:=F w mg m _ A G.T.g t;exact zB A G.T.g G.T.b G.T.builtins G.T.nolimit L i c (aC b y) hr D E (λH au am=>r w H a ns b au am) λH e s'=>p w H j e s'
end L2
namespace L2
open PySem PySem.Spec PyProof.Rows
noncomputable def hC(s:dQ):Arguments:=match s with
 | .FunctionDef _ a _ _ _ _ _ _ _ _=>a
 |_=>{posonlyargs:=[],args:=[],vararg:=Y,kwonlyargs:=[],kw_defaults:=[],kwarg:=Y,defaults:=[]}
noncomputable def fq(s:dQ):List dQ:=match s with
 | .FunctionDef _ _ b _ _ _ _ _ _ _=>b
 |_=>[]
noncomputable def ec(s:dQ):dR:=match s with
 | .FunctionDef _ _ _ _ _ _ sc _ _ _=>sc
 |_=>{kind:=.function,names:=[],isGenerator:=J,isCoroutine:=J}
abbrev tw:xE:=λ_ _ _ _ _ _=>False
abbrev E0:XK:=λ_ _ _=>False
theorem Ge{X:Cx}:uM tw X E0:=λ_ _ _ _ _ _ _ h=>h.elim
structure xJ (K:Fg1)(x qual:Str)(st:dQ)(f:dE)(fd:dP):Prop where
 ex:∃(oc:dB) (od:Option dE) (kV doc pm:dB) (an:Option dE) (cdv ct:dB) (osl:Array (Option dB)),
  fd=wF1 x qual (hC st) (fq st) (ec st) .none kV doc pm an cdv ct/\K.lookup f=some ⟨oc,od,.func fd,osl⟩/\wC1 K cdv qual=true
 kp:wK1 K (.ref f)=true
section
variable{P:dF}{w:dH}{K:Fg1}{mg:Str->Option dB}{base:dN}
theorem xJ.ok{x b:Str}{st:dQ}{f:dE}{fd:dP}{N ps:List Str}{k:Nat}{sp:Sp}(F:xJ K x b st f fd)(S:gg N ps (ec st))(len:∀ vs H Q E,sp vs H Q E->vs.length=ps.length)(d:∀(c:dB) (A:dG) (a:List Env) (s:dD) (H:Hp) (vs:List V) (Q:VK) (E:XK),fN k (A.deeper (envOfC b (ec st) s.heap.objs.size f c))->sp vs H Q E ->
   ∃t,tG (lZ tw P w K mg base N b (ec st) f c A a s H E).nox (fq st) t/\t {nx:=λ_ H'=>Q .non H',rt:=Q} (iO N vs) H):ju P w K mg base tw (k+1) f fd ps sp:=by
 obtain⟨p,o,kV,l,r,n,c,ct,j,rfl,i,g⟩:=F.ex;refine GR i g S len λA a s H vs Q E m e=>?_;obtain⟨t,h,q⟩:=d c A a s H vs Q E m e;exact⟨t,h.nox,q⟩
theorem xJ.binds{x a:Str}{st:dQ}{f:dE}{fd:dP}{ps:List Str}(F:xJ K x a st f fd)(h:∀(kV c e:dB) (g:Option dE) (b ct:dB) (d:List dB),d.length=ps.length->bindArgs (wF1 x a (hC st) (fq st) (ec st) .none kV c e g b ct) ⟨d,[]⟩=pure (ps.zip d)):kW K fd ps []:=by
 obtain⟨m,l,kV,c,e,g,b,ct,j,rfl,k,i⟩:=F.ex;exact .all (h kV c e g b ct)
theorem zV{x a:Str}{st:dQ}{f:dE}{j:dB}{i h:Option dE}{e:Array (Option dB)}{kV d g b ct:dB}(l:K.lookup f=Z ⟨j,i,.func (wF1 x a (hC st) (fq st) (ec st) .none kV d g h b ct),e⟩)(c:wC1 K b a=M)(k:wK1 K (.ref f)=M):xJ K x a st f (wF1 x a (hC st) (fq st) (ec st) .none kV d g h b ct):=⟨⟨j,i,kV,d,g,h,b,ct,e,O,l,c⟩,k⟩
end
section
variable{X:Cx}
theorem pv (i:Nat){x:Str}{pos:Pos}(hN:X.N[i]? = some x:=by rfl)(hv:Vis X.env.scope x:=by first | exact Or.inl rfl | exact Or.inr (Or.inl rfl) | exact Or.inr (Or.inr rfl))(hd:(x == ("__debug__":Str))=false:=by decide)
  (hcd:(x == ("__classdict__":Str))=J:=by decide):PE X (.Name x pos) (FD i):=yQ hN hv hd hcd
end
end L2
namespace L2
open PySem PySem.Spec PyProof.Rows
section
variable{κ:Type} [DecidableEq κ]
noncomputable def ip(kvs:List (κ×V))(k:κ):Option V:=(kvs.find? λkv=>decide (kv.1=k)).map (·.2)
noncomputable def ii(kvs:List (κ×V))(k:κ)(v:V):List (κ×V):=
 if(kvs.any λkv=>decide (kv.1=k))=M then kvs.map (λkv=>if kv.1=k then(kv.1,v)else kv)else kvs++[(k,v)]
theorem ms{p:κ×V}{r:List (κ×V)}{k:κ}(e:p.1=k):ip (p::r) k=Z p.2:=by simp[ip,bc,e]
theorem mw{p:κ×V}{r:List (κ×V)}{k:κ}(e:¬ p.1=k):ip (p::r) k=ip r k:=by simp[ip,bc,e]
theorem rh(k:κ):∀kvs:List (κ×V),(kvs.any λa=>decide (a.1=k))=(ip kvs k).isSome
 |[]=>rfl
 |p::r=>by
  rw[bd];by_cases e:p.1=k
  ·simp only[ms e,ah e,Bool.true_or,Option.isSome_some]
  ·rw[mw e,ai e,Bool.false_or];exact rh k r
theorem iY(kvs:List (κ×V))(k:κ)(v:V):(ii kvs k v).length<=kvs.length+1:=by
 unfold ii;split
 ·rw[lM1];lia
 ·rw[lA1,lC1,bf];lia
theorem l6.isSome_eq{o:Option V}{u:Option dB}(r:l6 o u):o.isSome=u.isSome:=by
 cases o with
 |none=>cases u with
  |none=>rfl
  |some _=>exact(show False from r).elim
 |some _=>cases u with
  |none=>exact(show False from r).elim
  |some _=>rfl
theorem l6.getD{o:Option V}{u:Option dB}{d:V}{d':dB}(r:l6 o u)(a:d7 d d'):d7 (o.getD d) (u.getD d'):=by
 cases o with
 |none=>cases u with
  |none=>exact a
  |some _=>exact(show False from r).elim
 |some _=>cases u with
  |none=>exact(show False from r).elim
  |some _=>exact r
theorem KV.val{kvs:List (κ×V)}{vs:List (κ×dB)}(r:KV kvs vs)(k:κ):l6 (ip kvs k) (valueAt vs k):=by
 unfold KV at r
 induction r with
 |nil=>exact True.intro
 | @cons p q ps c h t ih=>
  obtain⟨h1,h2⟩:=h;by_cases e:p.1=k
  ·have a:q.1=k:=h1.symm.trans e;have b:valueAt (q::c) k=Z q.2:=by simp[valueAt,bc,a]
   rw[ms e,b];exact h2
  ·have a:¬ q.1=k:=λz=>e (h1.trans z);have b:valueAt (q::c) k=valueAt c k:=by simp[valueAt,bc,a]
   rw[mw e,b];exact ih
theorem KV.any{kvs:List (κ×V)}{vs:List (κ×dB)}(r:KV kvs vs)(k:κ):(kvs.any λa=>decide (a.1=k))=vs.any λa=>decide (a.1=k):=by
 unfold KV at r
 induction r with
 |nil=>rfl
 |cons h t ih=>rw[bd,bd,ih,h.1]
theorem KV.repl{kvs:List (κ×V)}{vs:List (κ×dB)}(r:KV kvs vs)(k:κ){y:V}{u:dB}(b:d7 y u):
  KV (kvs.map λa=>if a.1=k then(a.1,y)else a) (vs.map λa=>if a.1=k then(a.1,u)else a):=by
 unfold KV at r ⊢
 induction r with
 |nil=>exact .nil
 | @cons p q ps c h t ih=>
  rw[mP1,mP1];refine .cons ?_ ih;obtain⟨h1,h2⟩:=h;by_cases e:p.1=k
  ·rw[ak e,ak (h1.symm.trans e)];exact⟨h1,b⟩
  ·rw[aj e,aj (λz=>e (h1.trans z))];exact⟨h1,h2⟩
theorem KV.put{kvs:List (κ×V)}{vs:List (κ×dB)}(r:KV kvs vs)(k:κ){y:V}{u:dB}(a:d7 y u):KV (ii kvs k y) (stored vs k u):=by
 unfold ii stored;rw[r.any k];by_cases e:(vs.any λb=>decide (b.1=k))=M
 ·rw[ak e,ak e];exact r.repl k a
 ·rw[aj e,aj e];exact Paired.snoc r ⟨O,a⟩
theorem KV.length{kvs:List (κ×V)}{vs:List (κ×dB)}(r:KV kvs vs):kvs.length=vs.length:=Paired.length r
end
theorem oP{P:dF}{w:dH}{k:Key}{u:dB}(r:d7 (kV k) u):(eW P w).is k u=M:=by
 cases k with
 |inl i=>obtain⟨t,e⟩:=(show∃t,u=Value.int i t from r);subst e;exact rZ P w i t
 |inr x=>obtain⟨t,e⟩:=(show∃t,u=Value.str x t from r);subst e;exact rY P w x t
theorem oQ{P:dF}{w:dH}:∀{ks:List Key} {a:List dB},ei (ks.map kV) a->ItemsAre (eW P w) ks a
 |[],_,r=>by rw[aZ]at r;cases r;exact .nil
 |k::ks,_,r=>by
  rw[mP1]at r;cases r with
  |cons h t=>exact .cons (oP h) (oQ t)
abbrev KT(H:Hp):List (List Key×V)->List (List Key×dE×dB)->Prop:=Paired λp q=>p.1=q.1/\H q.2.1=Z (.tup (p.1.map kV))/\d7 p.2 q.2.2
theorem KT.val{H:Hp}{kvs:List (List Key×V)}{xs:List (List Key×dE×dB)}(r:KT H kvs xs)(k:List Key):l6 (ip kvs k) ((atKey xs k).map (·.2)):=by
 induction r with
 |nil=>exact True.intro
 | @cons p q ps c h t ih=>
  obtain⟨h1,_,h2⟩:=h;by_cases e:p.1=k
  ·have a:q.1=k:=h1.symm.trans e;have b:atKey (q::c) k=Z q.2:=by simp[atKey,bc,a]
   rw[ms e,b];exact h2
  ·have a:¬ q.1=k:=λz=>e (h1.trans z);have b:atKey (q::c) k=atKey c k:=by simp[atKey,bc,a]
   rw[mw e,b];exact ih
theorem KT.repl{H:Hp}{kvs:List (List Key×V)}{xs:List (List Key×dE×dB)}(r:KT H kvs xs)(k:List Key){y:V}{u:dB}(c:d7 y u):
  KT H (kvs.map λa=>if a.1=k then(a.1,y)else a) (xs.map (putAt k u)):=by
 induction r with
 |nil=>exact .nil
 | @cons p q ps d h t ih=>
  rw[mP1,mP1];refine .cons ?_ ih;obtain⟨h1,h2,b⟩:=h;unfold putAt;by_cases e:p.1=k
  ·rw[ak e,ak (h1.symm.trans e)];exact⟨h1,h2,c⟩
  ·rw[aj e,aj (λz=>e (h1.trans z))];exact⟨h1,h2,b⟩
theorem KT.put{H:Hp}{kvs:List (List Key×V)}{xs:List (List Key×dE×dB)}(r:KT H kvs xs)(k:List Key){b:dE}{y:V}{u:dB}(hb:H b=some (.tup (k.map kV)))(a:d7 y u):
  KT H (ii kvs k y) (storedH xs k b u):=by
 have e:(kvs.any λc=>decide (c.1=k))=(atKey xs k).isSome:=by
  rw[rh,(r.val k).isSome_eq,bg]
 unfold ii storedH;rw[e];by_cases q:(atKey xs k).isSome=M
 ·rw[ak q,ak q];exact r.repl k a
 ·rw[aj q,aj q];exact Paired.snoc r ⟨O,hb,a⟩
theorem KT.keeps{H H':Hp}{kvs:List (List Key×V)}{xs:List (List Key×dE×dB)}(r:KT H kvs xs)(ht:∀b ys,H b=Z (.tup ys)->H' b=Z (.tup ys)):KT H' kvs xs:=
 Paired.mapP r λ_ _ z=>⟨z.1,ht _ _ z.2.1,z.2.2⟩
section
variable{P:dF}{w:dH}{H:Hp}{h:dN}{a:dE}
theorem CK{u:HO}(ok:kU P w H h)(e:Rd H a u):eO P w H h a u:=e.ok ok
theorem sN{kvs:List (Key×V)}(ok:kU P w H h)(e:Rd H a (.dK kvs)):kvs.length<=dL/\(a == sysModules)=J /\ ∃vs,KV kvs vs/\h.DictOf (eW P w) a vs:=
 show eO P w H h a (.dK kvs)from CK ok e
theorem vU{kvs:List (Key×V)}(ok:kU P w H h)(e:H a=Z (.dK kvs)):kvs.length<=dL/\(a == sysModules)=J /\ ∃vs,KV kvs vs/\h.DictOf (eW P w) a vs:=sN ok (.inl e)
theorem m5{ks:List Key}(ok:kU P w H h)(e:H a=Z (.tup (ks.map kV))):(tupleKind (eW P w)).is h ks a:=by
 obtain⟨_,b,r,o,h1,h2,n,c⟩:=(show eO P w H h a (.tup (ks.map kV))from ok a _ e);exact⟨o,b.toArray,n,h1,h2,c,by simpa using oQ r⟩
theorem sL{kvs:List (List Key×V)}(ok:kU P w H h)(e:Rd H a (.dT kvs)):kvs.length<=dL/\(a == sysModules)=false /\
  ∃xs,KT H kvs xs/\h.DictOfH (tupleKind (eW P w)) a xs:=by
 obtain⟨z,y,xs,r,o,es,ep,h1,h2,g,d,f⟩:=(show eO P w H h a (.dT kvs)from CK ok e);refine⟨z,y,xs,r,o,es,ep,h1,h2,g,d,λx b=>?_,f⟩;have all:∀{l:List (List Key×V)} {m:List (List Key×dE×dB)},KT H l m -> ∀x∈m,(tupleKind (eW P w)).is h x.1 x.2.1:=by
  intro l m q
  induction q with
  |nil=>intro x b;exact nomatch b
  | @cons p q ps i c t ih=>
   intro x b;rcases aF.mp b with e|b
   ·subst e;exact m5 ok (by rw[<- c.1];exact c.2.1)
   ·exact ih x b
 exact all r x b
theorem GY{kvs:List (List Key×V)}(ok:kU P w H h)(e:H a=some (.dT kvs)):kvs.length<=dL/\(a == sysModules)=false /\
  ∃xs,KT H kvs xs/\h.DictOfH (tupleKind (eW P w)) a xs:=sL ok (.inl e)
end
def n6(H:Hp)(a:dE)(y:V)(r:Option V):Prop:=
 (∃kvs k,Rd H a (.dK kvs)/\y=kV k/\r=ip kvs k) \/ ∃kvs k b,Rd H a (.dT kvs)/\y = .ref b/\H b=Z (.tup (k.map kV))/\r=ip kvs k
def xD(H:Hp)(a:dE)(y v:V)(H':Hp):Prop:=
 (∃kvs k,H a=Z (.dK kvs)/\y=kV k/\kvs.length<dL/\H'=upd H a (.dK (ii kvs k v))) \/
 ∃kvs k b,H a=Z (.dT kvs)/\y = .ref b/\H b=Z (.tup (k.map kV))/\kvs.length<dL/\H'=upd H a (.dT (ii kvs k v))
theorem n6.k{H:Hp}{a:dE}{kvs:List (Key×V)}{k:Key}(e:H a=Z (.dK kvs)):n6 H a (kV k) (ip kvs k):=.inl ⟨kvs,k,.inl e,O,O⟩
theorem n6.t{H:Hp}{a b:dE}{kvs:List (List Key×V)}{k:List Key}(e:H a=Z (.dT kvs))(c:H b=Z (.tup (k.map kV))):n6 H a (.ref b) (ip kvs k):=.inr ⟨kvs,k,b,.inl e,O,c,O⟩
theorem xD.k{H:Hp}{a:dE}{kvs:List (Key×V)}{k:Key}{v:V}(e:H a=Z (.dK kvs))(b:kvs.length<dL):xD H a (kV k) v (upd H a (.dK (ii kvs k v))):=.inl ⟨kvs,k,e,O,b,O⟩
theorem xD.t{H:Hp}{a b:dE}{kvs:List (List Key×V)}{k:List Key}{v:V}(e:H a=some (.dT kvs))(c:H b=some (.tup (k.map kV)))(d:kvs.length<dL):
  xD H a (.ref b) v (upd H a (.dT (ii kvs k v))):=.inr ⟨kvs,k,b,e,O,c,d,O⟩
section
variable{X:Cx}{ag:List (dE×Obj)}{σ:St}{H:Hp}{s:dD}{a:dE}{y v:V}{u r:dB}{o:Option V}{A:dG}{E:dB->dD->Prop}
theorem Inv.big(I:Inv X ag σ H s):sysModules<s.heap.objs.size:=by
 have h:dI<s.heap.objs.size:=(I.mod.glob.keeps I.bk).lt;exact bh (by decide) h
theorem xj{Q:dB->dD->Prop}(r:A.units+1<cLine)(I:Inv X ag σ H s)(g:n6 H a y (some v))(q:d7 y u)(h:∀ f s',Inv X ag σ H s'->d7 v f->Q f s'):
  dM (model X.prog X.w) A (getItem (.ref a) u) Q E s:=by
 rcases g with⟨kvs,k,e,n,l⟩|⟨kvs,k,b,e,n,w,l⟩
 ·subst n;obtain⟨z,t,vs,d,i⟩:=sN I.hok e;obtain⟨f,j,c⟩:=l6.some_of (v:=v) (o:=valueAt vs k) (by rw[l];exact d.val k);exact wpAny_getItem_of (oP q) i.mapOf j (h f _ (I.tok _) c)
 ·subst n;cases(show u=Value.ref b from q);obtain⟨z,t,xs,d,i⟩:=sL I.hok e;obtain⟨f,j,c⟩:=l6.some_of (v:=v) (o:=(atKey xs k).map (·.2)) (by rw[l];exact d.val k);obtain⟨p,x,m⟩:=oM1.mp j;refine wpAny_getItem_heap (tupleKind_room_in1 r) (m5 I.hok w) i x ?_;rw[m];exact h f _ (I.tok _) c
theorem IB{Q:dB->dD->Prop}(m:A.units+1<cLine)(I:Inv X ag σ H s)(g:n6 H a y o)(j:d7 y u)(h:∀ s',Inv X ag σ H s'->Q (.bool o.isSome) s'):
  dM (model X.prog X.w) A (compareOp .In u (.ref a)) Q E s:=by
 rcases g with⟨kvs,k,e,i,l⟩|⟨kvs,k,b,e,i,n,l⟩
 ·subst i;obtain⟨z,f,vs,c,d⟩:=sN I.hok e;refine wpAny_in_of (oP j) f d.mapOf ?_;rw[<- (c.val k).isSome_eq,<- l];exact h _ (I.tok _)
 ·subst i;cases(show u=Value.ref b from j);obtain⟨z,f,xs,c,d⟩:=sL I.hok e;refine wpAny_in_heap (tupleKind_room_in1 m) (m5 I.hok n) f d ?_;have q:=(c.val k).isSome_eq;rw[bg]at q;rw[<- q,<- l];exact h _ (I.tok _)
theorem Cj{Q:dB->dD->Prop}(m:A.units+1<cLine)(I:Inv X ag σ H s)(g:n6 H a y o)(j:d7 y u)(h:∀ s',Inv X ag σ H s'->Q (.bool (!o.isSome)) s'):
  dM (model X.prog X.w) A (compareOp .NotIn u (.ref a)) Q E s:=by
 rcases g with⟨kvs,k,e,i,l⟩|⟨kvs,k,b,e,i,n,l⟩
 ·subst i;obtain⟨z,f,vs,c,d⟩:=sN I.hok e;refine wpAny_notIn_of (oP j) f d.mapOf ?_;rw[<- (c.val k).isSome_eq,<- l];exact h _ (I.tok _)
 ·subst i;cases(show u=Value.ref b from j);obtain⟨z,f,xs,c,d⟩:=sL I.hok e;refine wpAny_notIn_heap (tupleKind_room_in1 m) (m5 I.hok n) f d ?_;have q:=(c.val k).isSome_eq;rw[bg]at q;rw[<- q,<- l];exact h _ (I.tok _)
theorem kI{h':dN}{t':Nat}{c:HO}(I:Inv X ag σ H s)(mu:Mut (H a))(hs:Heap.SameBut a s.heap h')(he:∃ q,h'.get? a=some q)(new:eO X.prog X.w (upd H a c) h' a c):
  Inv X ag σ (upd H a c) {s with heap:=h',toks:=t'}:=
 I.write (x:=a) (e:=a) mu (.inl O) (λb q d z=>(hs.2 b d).trans z) he new
theorem Aj{P:dF}{w:dH}{H':Hp}{h':dN}{kvs:List (Key×V)}{vs:List (Key×dB)}(z:kvs.length<=dL)(hd:(a == sysModules)=false)(b:KV kvs vs)(dd:h'.DictOf (eW P w) a vs):
  eO P w H' h' a (.dK kvs):=⟨z,hd,vs,b,dd⟩
theorem xi{H':Hp}{Q:Unit->dD->Prop}(am:A.units+1<cLine)(I:Inv X ag σ H s)(g:xD H a y v H')(C:d7 y u)(x:d7 v r)(h:∀ s',Inv X ag σ H' s'->Q () s'):
  dM (model X.prog X.w) A (setItem (.ref a) u r) Q E s:=by
 rcases g with⟨kvs,k,e,t,l,o⟩|⟨kvs,k,b,e,t,D,l,o⟩
 ·subst t o;obtain⟨z,n,vs,d,p⟩:=vU I.hok e;have j:vs.length<=dL:=by rw[<- d.length];exact z
  have m:(ii kvs k v).length<=dL:=by have:=iY kvs k v;lia
  refine wpAny_setItem_pairs (hsz:=j) (oP C) p λh' f w=>h _ ?_;have L:∃q,h'.get? a=Z q:=let ⟨q,_,_,i,_⟩:=f;⟨q,i⟩
  exact kI I (by rw[e];exact True.intro) w L (Aj m n (d.put k x) f)
 ·subst t o;cases(show u=Value.ref b from C);obtain⟨z,n,xs,d,p⟩:=GY I.hok e;have j:xs.length<=dL:=by rw[<- Paired.length d];exact z
  have m:(ii kvs k v).length<=dL:=by have:=iY kvs k v;lia
  refine wpAny_setItem_heap (hsz:=j) (tupleKind_room_in1 am) (m5 I.hok D) p λh' f w=>h _ ?_;obtain⟨q,es,ep,i,h2,G,K,_,F⟩:=f;refine kI I (by rw[e];exact True.intro) w ⟨q,i⟩ ⟨m,n,_,(d.put k D x).keeps λc ys B=>?_,q,es,ep,i,h2,G,K,F⟩;rw[dY (Gn B e (λz=>nomatch z))];exact B
end
section
variable{X:Cx}{ag:List (dE×Obj)}{σ:St}{H:Hp}{s:dD}{a:dE}{kvs:List (Key×V)}{k:Key}{u:dB}{A:dG}{E:dB->dD->Prop}
end
theorem sP{X:Cx}{ag:List (dE×Obj)}{σ:St}{H:Hp}{s:dD}{a:dE}{y:V}{o:Option V}(I:Inv X ag σ H s)(g:n6 H a y o):s.TypeIs (.ref a) "dict":=by
 rcases g with⟨kvs,k,e,_,_⟩|⟨kvs,k,b,e,_,_,_⟩
 ·obtain⟨_,_,vs,_,c⟩:=sN I.hok e;exact c.typeIs
 ·obtain⟨_,_,xs,_,c⟩:=sL I.hok e;exact c.typeIs
section
variable{X:Cx}{o i e value:Expr}{pos pos' tpos:Pos}{td ty tv:TE}
end
theorem sO{P:dF}{w:dH}{H:Hp}(h:dN)(hb:sysModules<h.objs.size):eO P w H (h.push {cls:=.type "dict",data:=.dict #[]}) h.objs.size (.dK []):=
 ⟨bi _,beq_eq_false_iff_ne.mpr (Ne.symm (nN1 hb)),[],.nil,Heap.DictOf.new h⟩
noncomputable def Dn:TE:=λ_ H Q=>∀p,H p=Y->Q (.ref p) (upd H p (.dK []))
section
variable{X:Cx}{pos:Pos}
theorem yT:PE X (.Dict [] [] pos) Dn:=λag s σ H Q I h=>
 wpAny_Dict_empty ⟨.ref s.heap.objs.size,_,I.laid (a:=s.heap.objs.size) (o:=.dK []) (t':=s.toks) (λ_ _ q=>hP1 _ q) (nR1 _) (sO s.heap I.big),O,h _ (I.hok.fresh (nR1 _))⟩
end
def pM:List (TE×TE)->St->Hp->(List (V×V)->Hp->Prop)->Prop
 |[],_,H,Q=>Q [] H
 |(tk,tv)::r,σ,H,Q=>tk σ H λx H1=>tv σ H1 λy H2=>pM r σ H2 λps H3=>Q ((x,y)::ps) H3
abbrev VV:List (V×V)->List (dB×dB)->Prop:=Paired λp q=>d7 p.1 q.1/\d7 p.2 q.2
def Hk(X:Cx)(pos:Pos)(keys:List (Option Expr))(values:List Expr)(trs:List (TE×TE)):Prop:=
 ∀(ag:List (dE×Obj)) (s:dD) (σ:St) (H:Hp) (Q:List (V×V)->Hp->Prop),Inv X ag σ H s->pM trs σ H Q ->
  dM (model X.prog X.w) X.A (evalPairs (pairTrees keys values X.env pos)) (λvs s'=>∃ps H',Inv X ag σ H' s'/\VV ps vs/\Q ps H') X.xe s
theorem Bd{X:Cx}{pos:Pos}:Hk X pos [] [] []:=λag s σ H Q I h=>pairTrees_nil_walk ⟨[],H,I,.nil,h⟩
theorem yJ{X:Cx}{pos:Pos}{k v:Expr}{ks:List (Option Expr)}{vs:List Expr}{tk tv:TE}{a:List (TE×TE)}(hk:PE X k tk)(hv:PE X v tv)(hr:Hk X pos ks vs a):
  Hk X pos (Z k::ks) (v::vs) ((tk,tv)::a):=λag s σ H Q I h=>
 pairTrees_cons_walk (fg (hk ag s σ H _ I h) λu d ⟨x,H1,e,l,m⟩=>fg (hv ag d σ H1 _ e m) λq f ⟨y,H2,n,g,o⟩=>
  fg (hr ag f σ H2 _ n o) λws p ⟨ps,j,i,b,c⟩=>⟨(x,y)::ps,j,i,.cons ⟨l,g⟩ b,c⟩)
noncomputable def iB(kvs more:List (Key×V)):List (Key×V):=more.foldl (λacc kv=>ii acc kv.1 kv.2) kvs
theorem KV.merge:∀{more:List (Key×V)} {rs:List (Key×dB)} {kvs:List (Key×V)} {vs:List (Key×dB)},KV more rs->KV kvs vs->KV (iB kvs more) (merged vs rs):=by
 intro more rs kvs vs r;unfold KV at r
 induction r generalizing kvs vs with
 |nil=>intro q;exact q
 | @cons p q ps b h t ih=>
  intro a;have e:KV (ii kvs p.1 p.2) (stored vs q.1 q.2):=by
   have:=a.put p.1 h.2;rw[<- h.1];exact this
  exact ih e
theorem jA:∀(more kvs:List (Key×V)),(iB kvs more).length<=kvs.length+more.length
 |[],kvs=>by show kvs.length<=kvs.length+0;lia
 |p::r,kvs=>by
  have h1:=jA r (ii kvs p.1 p.2);have h2:=iY kvs p.1 p.2;show(iB (ii kvs p.1 p.2) r).length<=_;rw[lC1];lia
theorem nC{P:dF}{w:dH}:∀{kvs:List (Key×V)} {ws:List (dB×dB)},VV (kvs.map λd=>(kV d.1,d.2)) ws -> ∃rs,Carries (eW P w) ws rs/\KV kvs rs
 |[],_,r=>by rw[aZ]at r;cases r;exact⟨[],True.intro,.nil⟩
 |p::kvs,_,r=>by
  rw[mP1]at r;cases r with
  | @cons a b as bs h t=>
   obtain⟨rs,c,q⟩:=nC (P:=P) (w:=w) t;obtain⟨b1,b2⟩:=b;exact⟨(p.1,b2)::rs,⟨oP h.1,O,c⟩,.cons ⟨O,h.2⟩ q⟩
noncomputable def FU(trs:List (TE×TE)):TE:=fun σ H Q=>∀p,H p=Y->pM trs σ (upd H p (.dK [])) λps H2=>H2 p=Z (.dK []) /\ ∃kvs:List (Key×V),ps=kvs.map (λkv=>(kV kv.1,kv.2))/\kvs.length<=15/\Q (.ref p) (upd H2 p (.dK (iB [] kvs)))
theorem Bl{X:Cx}{pos:Pos}{keys:List (Option Expr)}{values:List Expr}{b:List (TE×TE)}(h:Hk X pos keys values b)(d:keys.all (·.isSome)=M)(m:keys.length=values.length)(h0:keys≠[])(i:keys.length<=15):PE X (.Dict keys values pos) (FU b):=by
 intro ag s σ H Q I q;have p:=I.hok.fresh (nR1 s.heap.objs.size);have r:=I.laid (a:=s.heap.objs.size) (o:=.dK []) (h':=s.heap.push {cls:=.type "dict",data:=.dict #[]}) (t':=s.toks) (λ_ _ q=>hP1 _ q) (nR1 _) (sO s.heap I.big);refine wpAny_Dict_walk (knd:=eW X.prog X.w) d m h0 i (fg (h ag _ σ _ _ r (q _ p)) λws A ⟨ps,H2,j,g,e,kvs,ep,B,l⟩=>?_);subst ep;obtain⟨rs,c,rk⟩:=nC (P:=X.prog) (w:=X.w) g;obtain⟨z,n,u,v,x⟩:=vU j.hok e;cases v;refine⟨rs,c,x,λh' f y=>⟨.ref s.heap.objs.size,_,?_,O,l⟩⟩;have k:(iB [] kvs).length<=dL:=by
  have h1:=jA kvs [];rw[bf]at h1;rw[sizeLine_eq];lia
 have t:∃q,h'.get? s.heap.objs.size=Z q:=let ⟨q,_,_,hq,_⟩:=f;⟨q,hq⟩
 exact kI j (by rw[e];exact True.intro) y t (Aj k n (rk.merge .nil) f)
structure M2 (X:Cx)(o:Expr)(m:Str)(apos:Pos)(e f:Expr)(cpos:Pos):Prop where
 base:attributeBase o m X.env (eval o X.env)=eval o X.env
 few:((backTo cpos (dJ [e,f] X.env)).all (λx=> !x.1)&&(backToKw cpos (keywordEach [] X.env)).all (λx=>x.1.isSome)
  && decide (([e,f]:List Expr).length+([]:List Keyword).length+(if([]:List Keyword).isEmpty then 0 else 1)<30))=true
 line:(apos.endLine == cpos.line)=true
 trees:backTo cpos (dJ [e,f] X.env)=[(false,eval e X.env),(false,eval f X.env)]
section
variable{X:Cx}{ag:List (dE×Obj)}{σ:St}{H:Hp}{s:dD}{a:dE}{y d:V}{u r:dB}{o:Option V}{A:dG}{E:dB->dD->Prop}
end
section
variable{X:Cx}{o e f:Expr}{apos cpos:Pos}{td ty tx:TE}
end
section
variable{X:Cx}{ag:List (dE×Obj)}{σ:St}{H:Hp}{s:dD}{a:dE}{kvs:List (Key×V)}{A:dG}{E:dB->dD->Prop}
end
section
variable{X:Cx}{ag:List (dE×Obj)}{σ:St}{H:Hp}{s:dD}{a:dE}{y:V}{u:dB}{A:dG}{E:dB->dD->Prop}
end
end L2
namespace Mi
open PySem PySem.Spec PyProof.Rows L2
inductive TK where
 |non|int (i:Int)|tup (xs:List TK)
instance:DecidableEq TK:=λ_ _=>Classical.propDecidable _
mutual
noncomputable def TK.hash:TK->Int
 | .non=>0xFCA86420
 | .int i=>hashInt i
 | .tup xs=>reduceHash (Builtin.Tuple.tupleHashOf (TK.hashes xs))
noncomputable def TK.hashes:List TK->List Int
 |[]=>[]
 |x::xs=>TK.hash x::TK.hashes xs
end
mutual
noncomputable def TK.draws:TK->Nat
 | .non=>1
 | .int _=>1
 | .tup xs=>TK.drawsAll xs+1
noncomputable def TK.drawsAll:List TK->Nat
 |[]=>0
 |x::xs=>TK.draws x+TK.drawsAll xs
end
mutual
noncomputable def TK.dep:TK->Nat
 | .non=>0
 | .int _=>0
 | .tup xs=>TK.depAll xs+1
noncomputable def TK.depAll:List TK->Nat
 |[]=>0
 |x::xs=>max (TK.dep x) (TK.depAll xs)
end
theorem TK.dep_mem:∀{xs:List TK} {x:TK},x∈xs->x.dep<=TK.depAll xs
 |y::ys,x,h=>by
  rw[TK.depAll];rcases aF.mp h with e|e
  ·rw[e];exact Nat.le_max_left _ _
  ·exact aC (TK.dep_mem e) (Nat.le_max_right _ _)
theorem TK.hashes_app:∀a b:List TK,TK.hashes (a++b)=TK.hashes a++TK.hashes b
 |[],_=>rfl
 |x::xs,b=>by rw[bj,TK.hashes,TK.hashes,TK.hashes_app xs b];rfl
theorem TK.draws_app:∀a b:List TK,TK.drawsAll (a++b)=TK.drawsAll a+TK.drawsAll b
 |[],_=>by simp[TK.drawsAll]
 |x::xs,b=>by rw[bj,TK.drawsAll,TK.drawsAll,TK.draws_app xs b,bm]
def uL(xs:Array Nat):Prop:=xs.toList.Pairwise (· < ·)
noncomputable def CJ(m:Nat):Nat->Nat->Nat->List Nat
 |0,_,_=>[]
 |n+1,i,b=>List.range' i (SetTable.runEnd m i-i+1)++CJ m n (SetTable.leap m i b).1 (SetTable.leap m i b).2
def Js(m:Nat):Prop:=m=7\/m=31\/m=127
noncomputable def H9(m:Nat)(h:Int):List Nat:=CJ m (SetTable.turns m) (SetTable.bits h%(m+1)) (SetTable.bits h)
def Ib(m:Nat)(occ:List Nat)(h:Int)(j:Nat):Prop:=∃pre post,H9 m h=pre++j::post /\ ∀y∈pre,y∈occ
structure Ia (es:Array (Int×dB))(t:SetTable):Prop where
 mks:Js t.mask
 up:uL t.place
 du:t.dummies = #[]
 sz:t.place.size=es.size
 le:∀j∈t.place.toList,j<=t.mask
 fl:es.size<=t.mask
 rc:∀z∈t.place.toList.zip es.toList,Ib t.mask t.place.toList z.2.1 z.1
noncomputable def stO(es:Array (Int×dB))(ep:Nat)(t:SetTable):Obj:={cls:=.type "set",dict:=Y,data:=.set es ep t,slots:= #[]}
def Hj(a:dE)(xs:List (TK×dE×dB))(h:dN):Prop:=(xs.map (·.1)).Nodup /\ ∃es ep t,h.get? a=Z (stO es ep t)/\Ia es t/\t.tooFull=J/\(∀e∈es.toList,∃z∈xs,e=(z.1.hash,.ref z.2.1))/\(∀z∈xs,(z.1.hash,Value.ref z.2.1)∈es.toList)/\es.size=xs.length
inductive D where
 |non|bl (b:Bool)|int (i:Int)|str (x:Str)|tup (xs:List D)|rol (xs:List D)|ref (n:Nat)|fn (x:Str)
inductive Ob where
 |lst (xs:List D)|dct (kvs:List (Key×D))|dcT (kvs:List (TK×D))|iset (xs:List Int)|dcF (kvs:List (TK×D))|tst (ks:List TK)
abbrev Sto:=List Ob
abbrev Ev:=List (Option D)
abbrev FE:=Ev->Sto->Option (D×Sto)
abbrev FT:=Ev->Sto->Option (Bool×Sto)
abbrev FA:=Ev->Sto->Option (List D×Sto)
abbrev FN:=List D->Sto->Option (D×Sto)
inductive Fl where
 |nx|rt (d:D)|bk|ct
abbrev FS:=Ev->Sto->Option (Fl×Ev×Sto)
def RoL(K:Fg1)(H:Hp)(a:dE)(xs:List V):Prop:=(∃o,H a=Z (.frz o (.lst xs))) \/
 ∃(o:Obj) (its:Array dB) (n:Nat),K.lookup a=Z o/\o.cls = .type "list"/\o.dict=Y/\o.data = .seq its n/\its.size<=dL/\ei xs its.toList
theorem RoL.sq{K:Fg1}{H:Hp}{a:dE}{xs:List V}(h:RoL K H a xs):lV K H a xs:=h.elim (λ⟨o,q⟩=>.inl (.inr ⟨o,q⟩)) .inr
mutual
inductive eJ (K:Fg1)(H:Hp)(mu:List dE):D->V->Prop
 |non:eJ K H mu .non .non
 |bl (b:Bool):eJ K H mu (.bl b) (.bl b)
 |int (i:Int):eJ K H mu (.int i) (.int i)
 |str (x:Str):eJ K H mu (.str x) (.str x)
 |tup {ds:List D} {vs:List V} {a:dE} (h:jn K H a vs) (r:d0 K H mu ds vs):eJ K H mu (.tup ds) (.ref a)
 |rol {ds:List D} {vs:List V} {a:dE} (h:RoL K H a vs) (r:d0 K H mu ds vs):eJ K H mu (.rol ds) (.ref a)
 |ref {n:Nat} {a:dE} (h:mu[n]?=some a):eJ K H mu (.ref n) (.ref a)
 |fn {x:Str} {a:dE} (h:wN1 K dI x=some (some (.ref a))):eJ K H mu (.fn x) (.ref a)
inductive d0 (K:Fg1)(H:Hp)(mu:List dE):List D->List V->Prop
 |nil:d0 K H mu [] []
 |cons {d:D} {v:V} {ds:List D} {vs:List V} (r:eJ K H mu d v) (t:d0 K H mu ds vs):d0 K H mu (d::ds) (v::vs)
end
structure Ext (mu mu':List dE)(H H':Hp):Prop where
 pre:mu <+: mu'
 old:∀a o,H a=some o->a∉mu->H' a=some o
 tup:∀a xs,Rd H a (.tup xs)->Rd H' a (.tup xs)
 frz:∀a o u,H a=some (.frz o u)->H' a=some (.frz o u)
 new:∀a∈mu',a∈mu\/H a=none
theorem Ext.refl(mu:List dE)(H:Hp):Ext mu mu H H:=⟨bn,λ_ _ h _=>h,λ_ _ h=>h,λ_ _ _ h=>h,λ_ h=>.inl h⟩
theorem Ext.trans{mu m1 m2:List dE}{H H1 H2:Hp}(a:Ext mu m1 H H1)(b:Ext m1 m2 H1 H2):Ext mu m2 H H2 where
 pre:=a.pre.trans b.pre
 old:=λc o h n=>b.old c o (a.old c o h n) λz=>by
  rcases a.new c z with q|q
  ·exact n q
  ·rw[h]at q;cases q
 tup:=λc xs h=>b.tup c xs (a.tup c xs h)
 frz:=λc o u h=>b.frz c o u (a.frz c o u h)
 new:=λc h=>by
  rcases b.new c h with q|q
  ·exact a.new c q
  ·by_cases z:c∈mu
   ·exact .inl z
   ·right;cases e:H c with
    |none=>rfl
    |some o=>rw[a.old c o e z]at q;cases q
theorem Ext.at{mu mu':List dE}{H H':Hp}(e:Ext mu mu' H H'){n:Nat}{a:dE}(h:mu[n]?=Z a):mu'[n]?=Z a:=by
 obtain⟨t,rfl⟩:=e.pre;have b:n<mu.length:=(gE1.mp h).1;rw[gL1 b];exact h
theorem Ext.back{mu mu':List dE}{H H':Hp}(e:Ext mu mu' H H'):Ext mu mu H H':=⟨bn,e.old,e.tup,e.frz,λ_ h=>.inl h⟩
structure q9 (mu mu':List dE)(H H':Hp):Prop where
 pre:mu <+: mu'
 tup:∀a xs,Rd H a (.tup xs)->Rd H' a (.tup xs)
 frz:∀a o u,H a=some (.frz o u)->H' a=some (.frz o u)
theorem Ext.w{mu mu':List dE}{H H':Hp}(e:Ext mu mu' H H'):q9 mu mu' H H':=⟨e.pre,e.tup,e.frz⟩
theorem q9.trans{mu m1 m2:List dE}{H H1 H2:Hp}(a:q9 mu m1 H H1)(b:q9 m1 m2 H1 H2):q9 mu m2 H H2:=⟨a.pre.trans b.pre,λc xs h=>b.tup c xs (a.tup c xs h),λc o u h=>b.frz c o u (a.frz c o u h)⟩
theorem q9.at{mu mu':List dE}{H H':Hp}(e:q9 mu mu' H H'){n:Nat}{a:dE}(h:mu[n]?=Z a):mu'[n]?=Z a:=by
 obtain⟨t,rfl⟩:=e.pre;have b:n<mu.length:=(gE1.mp h).1;rw[gL1 b];exact h
structure xK (mu mu':List dE)(H H':Hp):Prop where
 pre:mu <+: mu'
 tup:∀a xs,Rd H a (.tup xs)->Rd H' a (.tup xs)
 frl:∀a o xs,H a=some (.frz o (.lst xs))->H' a=some (.frz o (.lst xs))
theorem q9.v{mu mu':List dE}{H H':Hp}(e:q9 mu mu' H H'):xK mu mu' H H':=⟨e.pre,e.tup,λa o xs h=>e.frz a o _ h⟩
theorem Ext.v{mu mu':List dE}{H H':Hp}(e:Ext mu mu' H H'):xK mu mu' H H':=e.w.v
theorem xK.at{mu mu':List dE}{H H':Hp}(e:xK mu mu' H H'){n:Nat}{a:dE}(h:mu[n]?=Z a):mu'[n]?=Z a:=by
 obtain⟨t,rfl⟩:=e.pre;have b:n<mu.length:=(gE1.mp h).1;rw[gL1 b];exact h
theorem jn.exv{K:Fg1}{mu mu':List dE}{H H':Hp}{a:dE}{vs:List V}(e:xK mu mu' H H')(h:jn K H a vs):jn K H' a vs:=by
 rcases h with h|h
 ·exact .inl (e.tup a vs h)
 ·exact .inr h
theorem RoL.exv{K:Fg1}{mu mu':List dE}{H H':Hp}{a:dE}{vs:List V}(e:xK mu mu' H H')(h:RoL K H a vs):RoL K H' a vs:=by
 rcases h with⟨o,h⟩|h
 ·exact .inl ⟨o,e.frl a o _ h⟩
 ·exact .inr h
theorem eJ.exv{K:Fg1}{mu mu':List dE}{H H':Hp}(e:xK mu mu' H H'):∀ {d:D} {v:V},eJ K H mu d v->eJ K H' mu' d v:=fun h=>h.rec (motive_1:=fun d v _=>eJ K H' mu' d v) (motive_2:=fun ds vs _=>d0 K H' mu' ds vs)
  .non .bl .int .str (λh _ ih=>.tup (jn.exv e h) ih) (λh _ ih=>.rol (RoL.exv e h) ih) (λh=>.ref (e.at h)) (λh=>.fn h) .nil (λ_ _ a b=>.cons a b)
theorem d0.ind{K:Fg1}{mu:List dE}{H:Hp}{P:(ds:List D)->(vs:List V)->d0 K H mu ds vs->Prop}(hn:P [] [] .nil)(hc:∀{d v ds vs} (r:eJ K H mu d v) (t:d0 K H mu ds vs),P ds vs t->P (d::ds) (v::vs) (.cons r t)){ds:List D}{vs:List V}(h:d0 K H mu ds vs):P ds vs h:=
 h.rec (motive_1:=λ_ _ _=>True) (motive_2:=P) trivial (λ_=>trivial) (λ_=>trivial) (λ_=>trivial) (λ_ _ _=>trivial) (λ_ _ _=>trivial) (λ_=>trivial) (λ_=>trivial) hn (λr t _ ih=>hc r t ih)
theorem d0.exv{K:Fg1}{mu mu':List dE}{H H':Hp}(e:xK mu mu' H H'):∀{ds:List D} {vs:List V},d0 K H mu ds vs->d0 K H' mu' ds vs:=λh=>h.ind (P:=λds vs _=>d0 K H' mu' ds vs) .nil λr _ ih=>.cons (eJ.exv e r) ih
section
variable{K:Fg1}{mu mu':List dE}{H H':Hp}{a:dE}{vs:List V}
theorem eJ.exw(e:q9 mu mu' H H'){d:D}{v:V}(h:eJ K H mu d v):eJ K H' mu' d v:=h.exv e.v
theorem d0.exw(e:q9 mu mu' H H'){ds:List D}(h:d0 K H mu ds vs):d0 K H' mu' ds vs:=h.exv e.v
theorem eJ.ext(e:Ext mu mu' H H'){d:D}{v:V}(h:eJ K H mu d v):eJ K H' mu' d v:=h.exv e.v
theorem d0.ext(e:Ext mu mu' H H'){ds:List D}(h:d0 K H mu ds vs):d0 K H' mu' ds vs:=h.exv e.v
end
section
variable{K:Fg1}{H:Hp}{mu:List dE}
theorem d0.length:∀{ds:List D} {vs:List V},d0 K H mu ds vs->ds.length=vs.length:=λh=>h.ind (P:=λds vs _=>ds.length=vs.length) O λ_ _ ih=>congrArg (· + 1) ih
theorem d0.get:∀{ds:List D} {vs:List V} {i:Nat} {d:D},d0 K H mu ds vs->ds[i]?=Z d -> ∃v,vs[i]?=Z v/\eJ K H mu d v:=by
 intro ds vs i d h e
 induction h using d0.ind generalizing i with
 |hn=>cases e
 |hc r t ih=>cases i with
  |zero=>cases e;exact⟨_,O,r⟩
  |succ i=>exact ih (i:=i) e
theorem d0.getV:∀{ds:List D} {vs:List V} {i:Nat} {v:V},d0 K H mu ds vs->vs[i]?=Z v -> ∃d,ds[i]?=Z d/\eJ K H mu d v:=by
 intro ds vs i d h e
 induction h using d0.ind generalizing i with
 |hn=>cases e
 |hc r t ih=>cases i with
  |zero=>cases e;exact⟨_,O,r⟩
  |succ i=>exact ih (i:=i) e
theorem d0.append:∀{ds es:List D} {vs ws:List V},d0 K H mu ds vs->d0 K H mu es ws->d0 K H mu (ds++es) (vs++ws):=λh s=>h.ind (P:=λds vs _=>d0 K H mu (ds++_) (vs++_)) s λr _ ih=>.cons r ih
theorem d0.take:∀{ds:List D} {vs:List V} (n:Nat),d0 K H mu ds vs->d0 K H mu (ds.take n) (vs.take n):=by
 intro ds vs n h
 induction h using d0.ind generalizing n with
 |hn=>rw[av,av];exact .nil
 |hc r t ih=>cases n with
  |zero=>exact .nil
  |succ n=>exact .cons r (ih n)
theorem d0.drop:∀{ds:List D} {vs:List V} (n:Nat),d0 K H mu ds vs->d0 K H mu (ds.drop n) (vs.drop n):=by
 intro ds vs n h
 induction h using d0.ind generalizing n with
 |hn=>rw[aw,aw];exact .nil
 |hc r t ih=>cases n with
  |zero=>exact .cons r t
  |succ n=>exact ih n
theorem d0.set{d:D}{v:V}(r:eJ K H mu d v):∀{ds:List D} {vs:List V} (i:Nat),d0 K H mu ds vs->d0 K H mu (ds.set i d) (vs.set i v):=by
 intro ds vs i h
 induction h using d0.ind generalizing i with
 |hn=>exact .nil
 |hc q t ih=>cases i with
  |zero=>exact .cons r t
  |succ i=>exact .cons q (ih i)
theorem d0.eraseIdx:∀{ds:List D} {vs:List V} (i:Nat),d0 K H mu ds vs->d0 K H mu (ds.eraseIdx i) (vs.eraseIdx i):=by
 intro ds vs i h
 induction h using d0.ind generalizing i with
 |hn=>exact .nil
 |hc q t ih=>cases i with
  |zero=>exact t
  |succ i=>exact .cons q (ih i)
theorem d0.reverse:∀{ds:List D} {vs:List V},d0 K H mu ds vs->d0 K H mu ds.reverse vs.reverse:=by
 intro ds vs h
 induction h using d0.ind with
 |hn=>exact .nil
 |hc r t ih=>rw[bo,bo];exact d0.append ih (.cons r .nil)
end
def KR{κ:Type}(K:Fg1)(H:Hp)(mu:List dE):List (κ×D)->List (κ×V)->Prop:=Paired λp q=>p.1=q.1/\eJ K H mu p.2 q.2
mutual
noncomputable def tkD:TK->D
 | .non=>.non
 | .int i=>.int i
 | .tup xs=>.tup (hG xs)
noncomputable def hG:List TK->List D
 |[]=>[]
 |x::xs=>tkD x::hG xs
end
def gr(a:dE)(xs:List (TK×dE×dB))(h:dN):Prop:=(a == sysModules)=J/\(xs.map (·.1)).Nodup /\ ∃o es ep,h.get? a=Z o/\o.ExactDict/\o.data = .dict es ep/\es.toList=xs.map λx=>(⟨x.1.hash,.ref x.2.1,x.2.2⟩:DictEntry)
def wh(a:dE)(xs:List (TK×dE×dB))(o:Obj):Prop:=(a == sysModules)=J/\(xs.map (·.1)).Nodup/\o.ExactDict /\ ∃es ep,o.data = .dict es ep/\es.toList=xs.map λx=>(⟨x.1.hash,.ref x.2.1,x.2.2⟩:DictEntry)
def KT(K:Fg1)(H:Hp)(mu:List dE):List (TK×D)->List (TK×dE×dB)->Prop:=Paired λp q=>p.1=q.1/\p.1.dep<=8/\eJ K H mu (tkD p.1) (.ref q.2.1) /\ ∃v,d7 v q.2.2/\eJ K H mu p.2 v
def jJ(K:Fg1)(H:Hp)(mu:List dE)(a:dE):Ob->Prop
 | .lst ds=>∃vs,H a=Z (.lst vs)/\d0 K H mu ds vs
 | .dct kvs=>∃ws,H a=Z (.dK ws)/\KR K H mu kvs ws
 | .dcT kvs=>∃xs,H a=Z (.ext (gr a xs))/\KT K H mu kvs xs/\xs.length<=dL
 | .iset xs=>H a=Z (.set (λk=>xs.contains k) xs.length)/\xs.Nodup
 | .dcF kvs=>∃xs,(∃o u,H a=Z (.frz o u)/\wh a xs o)/\KT K H mu kvs xs/\xs.length<=dL
 | .tst ks=>∃xs,H a=Z (.ext (Hj a xs))/\KT K H mu (ks.map λk=>(k,D.non)) xs
structure Sim (K:Fg1)(H:Hp)(mu:List dE)(S:Sto):Prop where
 len:mu.length=S.length
 nd:mu.Nodup
 ob:∀(n:Nat) (o:Ob) (a:dE),S[n]?=some o->mu[n]?=some a->jJ K H mu a o
structure fJ (K:Fg1)(H:Hp)(mu:List dE)(r:Ev)(σ:L2.St):Prop where
 len:r.length=σ.length
 val:∀(i:Nat) (d:D),r[i]?=some (some d) -> ∃v,σ[i]?=some (some v)/\eJ K H mu d v
theorem fJ.ext{K:Fg1}{mu mu':List dE}{H H':Hp}{r:Ev}{σ:L2.St}(e:Ext mu mu' H H')(h:fJ K H mu r σ):fJ K H' mu' r σ:=⟨h.len,λi d q=>by
 obtain⟨v,b,a⟩:=h.val i d q;exact⟨v,b,a.ext e⟩⟩
theorem KR.ext{κ:Type}{K:Fg1}{mu mu':List dE}{H H':Hp}{ks:List (κ×D)}{ws:List (κ×V)}(e:Ext mu mu' H H')(h:KR K H mu ks ws):KR K H' mu' ks ws:=
 Paired.mapP h λ_ _ z=>⟨z.1,z.2.ext e⟩
theorem KT.ext{K:Fg1}{mu mu':List dE}{H H':Hp}{ks:List (TK×D)}{ws:List (TK×dE×dB)}(e:Ext mu mu' H H')(h:KT K H mu ks ws):KT K H' mu' ks ws:=
 Paired.mapP h λ_ _ ⟨z,d,k,v,a,r⟩=>⟨z,d,k.ext e,v,a,r.ext e⟩
theorem Sim.nil{K:Fg1}{H:Hp}:Sim K H [] []:=⟨O,bq,λn o a h=>by simp at h⟩
theorem Sim.here{K:Fg1}{H:Hp}{mu:List dE}{S:Sto}(s:Sim K H mu S){a:dE}(h:a∈mu):∃o,H a=Z o:=by
 obtain⟨n,b⟩:=br h;have c:n<S.length:=by rw[<- s.len];exact(gE1.mp b).1
 have q:=s.ob n _ a (gG1 c) b;cases e:S[n]with
 |lst ds=>rw[e]at q;obtain⟨vs,z,_⟩:=q;exact⟨_,z⟩
 |dct ks=>rw[e]at q;obtain⟨vs,z,_⟩:=q;exact⟨_,z⟩
 |dcT ks=>rw[e]at q;obtain⟨vs,z,_⟩:=q;exact⟨_,z⟩
 |iset xs=>rw[e]at q;exact⟨_,q.1⟩
 |dcF ks=>rw[e]at q;obtain⟨vs,⟨_,_,z,_⟩,_⟩:=q;exact⟨_,z⟩
 |tst ks=>rw[e]at q;obtain⟨vs,z,_⟩:=q;exact⟨_,z⟩
def n9(K:Fg1)(mu:List dE)(H:Hp)(d:D)(S':Sto)(Q:VK):Prop:=∀v H' mu',Ext mu mu' H H'->eJ K H' mu' d v->Sim K H' mu' S'->Q v H'
inductive tM (K:Fg1)(m:FE)(σ:L2.St)(H:Hp)(Q:VK):Prop
 |mk (r:Ev) (mu:List dE) (S:Sto) (d:D) (S':Sto) (he:fJ K H mu r σ) (hs:Sim K H mu S) (hm:m r S=some (d,S')) (hc:n9 K mu H d S' Q)
inductive yg (K:Fg1)(m:FT)(σ:L2.St)(H:Hp)(Q:Bool->Hp->Prop):Prop
 |mk (r:Ev) (mu:List dE) (S:Sto) (b:Bool) (S':Sto) (he:fJ K H mu r σ) (hs:Sim K H mu S) (hm:m r S=some (b,S')) (hc:∀H' mu',Ext mu mu' H H'->Sim K H' mu' S'->Q b H')
inductive IR (K:Fg1)(m:FA)(σ:L2.St)(H:Hp)(Q:List V->Hp->Prop):Prop
 |mk (r:Ev) (mu:List dE) (S:Sto) (ds:List D) (S':Sto) (he:fJ K H mu r σ) (hs:Sim K H mu S) (hm:m r S=some (ds,S')) (hc:∀vs H' mu',Ext mu mu' H H'->d0 K H' mu' ds vs->Sim K H' mu' S'->Q vs H')
def HS(K:Fg1)(mu:List dE)(H:Hp)(r':Ev)(S':Sto)(E:jv)(f:Fl):Prop:=match f with
 | .nx=>∀ σ' H' mu',Ext mu mu' H H'->fJ K H' mu' r' σ'->Sim K H' mu' S'->E.nx σ' H'
 | .bk=>∀ σ' H' mu',Ext mu mu' H H'->fJ K H' mu' r' σ'->Sim K H' mu' S'->E.bk σ' H'
 | .ct=>∀ σ' H' mu',Ext mu mu' H H'->fJ K H' mu' r' σ'->Sim K H' mu' S'->E.ct σ' H'
 | .rt d=>n9 K mu H d S' E.rt
inductive xF (K:Fg1)(m:FS)(E:jv)(σ:L2.St)(H:Hp):Prop
 |mk (r:Ev) (mu:List dE) (S:Sto) (f:Fl) (r':Ev) (S':Sto) (he:fJ K H mu r σ) (hs:Sim K H mu S) (hm:m r S=some (f,r',S')) (hc:HS K mu H r' S' E f)
inductive rN (K:Fg1)(f:FN)(vs:List V)(H:Hp)(Q:VK):Prop
 |mk (mu:List dE) (S:Sto) (ds:List D) (d:D) (S':Sto) (hr:d0 K H mu ds vs) (hs:Sim K H mu S) (hm:f ds S=some (d,S')) (hc:n9 K mu H d S' Q)
abbrev ME(X:Cx)(e:Expr)(m:FE):Prop:=PE X e (tM X.K m)
abbrev MT(X:Cx)(e:Expr)(m:FT):Prop:=PT X e (yg X.K m)
abbrev MW(X:Cx)(e:Expr)(m:FT):Prop:=PW X e (yg X.K m)
abbrev MA(X:Cx)(es:List Expr)(m:FA):Prop:=PA X es (IR X.K m)
abbrev MS(X:Cx)(st:dQ)(m:FS):Prop:=PS X st (xF X.K m)
abbrev AA(X:Cx)(st:List dQ)(m:FS):Prop:=tG X st (xF X.K m)
section
variable{X:Cx}{e:Expr}{es:List Expr}{st:dQ}{sts:List dQ}
theorem eU{t t':TE}(h:PE X e t)(i:∀ σ H Q,t' σ H Q->t σ H Q):PE X e t':=λag s σ H Q I q=>h ag s σ H Q I (i σ H Q q)
theorem ua{t t':TT}(h:PT X e t)(i:∀ σ H Q,t' σ H Q->t σ H Q):PT X e t':=λag s σ H Q I q=>h ag s σ H Q I (i σ H Q q)
theorem yD{t t':TT}(h:PW X e t)(i:∀ σ H Q,t' σ H Q->t σ H Q):PW X e t':=λa ag s σ H Q I q=>h a ag s σ H Q I (i σ H Q q)
theorem yV{t t':TA}(h:PA X es t)(i:∀ σ H Q,t' σ H Q->t σ H Q):PA X es t':=λpos ag s σ H Q I q=>h pos ag s σ H Q I (i σ H Q q)
theorem hI{t t':TS}(h:PS X st t)(i:∀E σ H,t' E σ H->t E σ H):PS X st t':=λag s σ H E I q=>h ag s σ H E I (i E σ H q)
theorem vb{t t':TS}(h:tG X sts t)(i:∀E σ H,t' E σ H->t E σ H):tG X sts t':=λag s σ H E I q=>h ag s σ H E I (i E σ H q)
end
noncomputable def mV (i:Nat):FE:=λr S=>match r[i]? with
 |some (some d)=>some (d,S)
 |_=>none
noncomputable def mC (d:D):FE:=λ_ S=>some (d,S)
section
variable{X:Cx}{pos:Pos}
theorem Ew (i:Nat){x:Str}(hN:X.N[i]?=Z x)(hv:Vis X.env.scope x)(hd:(x == ("__debug__":Str))=J:=by decide)(hcd:(x == ("__classdict__":Str))=J:=by decide):ME X (.Name x pos) (mV i):=
 eU (yQ hN hv hd hcd) <| by
  rintro σ H Q ⟨r,mu,S,d,j,c,g,a,hc⟩;unfold mV at a;split at a
  ·rename_i h e;cases a;obtain⟨v,b,f⟩:=c.val i _ e;exact⟨v,b,hc v H mu (.refl _ _) f g⟩
  ·cases a
theorem zq{e:Expr}{v:V}(d:D)(h:PE X e (tC v))(hr:∀H mu,eJ X.K H mu d v):ME X e (mC d):=
 eU h <| by
  rintro σ H Q ⟨r,mu,S,c,f,g,b,a,hc⟩;cases a;exact hc v H mu (.refl _ _) (hr H mu) b
theorem EC{i:Int}{j}:ME X (.Constant (.int i) j pos) (mC (.int i)):=zq _ D0 λ_ _=>.int i
theorem Gv{b:Bool}{j}:ME X (.Constant (.bool b) j pos) (mC (.bl b)):=zq _ Gd λ_ _=>.bl b
theorem EA{j}:ME X (.Constant .none j pos) (mC .non):=zq _ DY λ_ _=>.non
theorem Ey{x:Str}{j}:ME X (.Constant (.str x) j pos) (mC (.str x)):=zq _ DX λ_ _=>.str x
end
noncomputable def dU:FA:=λ_ S=>Z ([],S)
noncomputable def dS (m:FE)(n:FA):FA:=λr S=>(m r S).bind λp=>(n r p.2).bind λq=>some (p.1::q.1,q.2)
section
variable{X:Cx}{pos:Pos}{e:Expr}{es:List Expr}{m:FE}{n:FA}
theorem EE:MA X [] dU:=yV mS <| by
 rintro σ H Q ⟨r,mu,S,ds,d,c,b,a,hc⟩;cases a;exact hc [] H mu (.refl _ _) .nil b
theorem BK(h:ME X e m)(ht:MA X es n)(hs:dJ (e::es) X.env=(J,eval e X.env)::dJ es X.env:=by rfl):MA X (e::es) (dS m n):=
 yV (j8 h ht hs) <| by
  rintro σ H Q ⟨r,mu,S,ds,s,i,hs,a,hc⟩;unfold dS at a;obtain⟨⟨d,f⟩,p,a⟩:=oB1.mp a;obtain⟨⟨c,t⟩,k,a⟩:=oB1.mp a;cases a;refine⟨r,mu,S,d,f,i,hs,p,λv H1 mu1 g q l=>?_⟩;refine⟨r,mu1,f,c,_,i.ext g,l,k,λvs H2 b j r2 o=>?_⟩;exact hc _ H2 b (g.trans j) (.cons (q.ext j) r2) o
end
noncomputable def m2 (f:FN)(a b:FE):FE:=λr S=>(a r S).bind λp=>(b r p.2).bind λq=>f [p.1,q.1] q.2
noncomputable def m1 (f:FN)(a:FE):FE:=λr S=>(a r S).bind λp=>f [p.1] p.2
noncomputable def mN (f:FN)(a:FA):FE:=λr S=>(a r S).bind λp=>f p.1 p.2
abbrev r2(K:Fg1)(f:FN):R2:=λx y H Q=>rN K f [x,y] H Q
section
variable{X:Cx}{K:Fg1}{f:FN}{a b:FE}{σ:L2.St}{H:Hp}{Q:VK}
theorem vw(h:tM K (m2 f a b) σ H Q):FL (r2 K f) (tM K a) (tM K b) σ H Q:=by
 obtain⟨r,mu,S,d,B,l,C,c,hc⟩:=h;obtain⟨⟨j,i⟩,x,c⟩:=oB1.mp c;obtain⟨⟨k,n⟩,t,c⟩:=oB1.mp c;refine⟨r,mu,S,j,i,l,C,x,λv H1 mu1 o y A=>?_⟩;refine⟨r,mu1,i,k,n,l.ext o,A,t,λu H2 g m r2 q=>?_⟩;exact⟨g,n,[j,k],d,B,.cons (y.ext m) (.cons r2 .nil),q,c,λv p e z s w=>hc v p e ((o.trans m).trans z) s w⟩
theorem GA(h:tM K (m1 f a) σ H Q):IQ (λx H Q=>rN K f [x] H Q) (tM K a) σ H Q:=by
 obtain⟨r,mu,S,d,n,s,t,c,hc⟩:=h;obtain⟨⟨g,e⟩,m,c⟩:=oB1.mp c;refine⟨r,mu,S,g,e,s,t,m,λv H1 mu1 o j k=>?_⟩;exact⟨mu1,e,[g],d,n,.cons j .nil,k,c,λv q b i p l=>hc v q b (o.trans i) p l⟩
theorem zt{a:FA}(h:tM K (mN f a) σ H Q):IR K a σ H λvs H1=>rN K f vs H1 Q:=by
 obtain⟨r,mu,S,d,n,j,t,c,hc⟩:=h;obtain⟨⟨g,e⟩,m,c⟩:=oB1.mp c;refine⟨r,mu,S,g,e,j,t,m,λv H1 mu1 o s k=>?_⟩;exact⟨mu1,e,g,d,n,s,k,c,λv q b i p l=>hc v q b (o.trans i) p l⟩
theorem Gr{op:Operator}{x y:Expr}{pos:Pos}(ho:gn X (binaryOp op) (r2 X.K f))(hx:ME X x a)(hy:ME X y b):ME X (.BinOp x op y pos) (m2 f a b):=eU (Ga ho hx hy) λ_ _ _=>vw
theorem Gq{op:UnaryOp}{x:Expr}{pos:Pos}(ho:Fu X (unaryOp op) (λx H Q=>rN X.K f [x] H Q))(hx:ME X x a):ME X (.UnaryOp op x pos) (m1 f a):=eU (F9 ho hx) λ_ _ _=>GA
theorem ED{op:CmpOp}{x y:Expr}{pos:Pos}(ho:gn X (compareOp op) (r2 X.K f))(hx:ME X x a)(hy:ME X y b)(hm:behindInMarks op y=J):ME X (.Compare x [op] [y] pos) (m2 f a b):=eU (Bm ho hx hy hm) λ_ _ _=>vw
theorem Gs{x y:Expr}{pos:Pos}(ho:C3 X (r2 X.K f))(hx:ME X x a)(hy:ME X y b)(hs:mo y):ME X (.Subscript x y pos) (m2 f a b):=eU (Gb ho hx hy hs) λ_ _ _=>vw
theorem zp {x:Str}{p pos:Pos}{e:Expr}{es:List Expr}{id:String}{a:FA}(hc:fj X (.builtin id) (rN X.K f))(hg:Gl X x)(hm:X.mg x=none)(hv:bootBuiltins x=some (.builtin id))(ha:MA X (e::es) a)(hn:x≠"__name__":=by decide)(hdb:(x == ("__debug__":Str))=false:=by decide)
  (he:dJ (e::es) X.env=(J,eval e X.env)::dJ es X.env:=by rfl) (hpl:(backTo pos (dJ es X.env)).any (·.1)=J:=by rfl):ME X (.Call (.Name x p) (e::es) [] pos) (mN f a):=
 eU (rL hc hg hm hv ha hn hdb he hpl) λ_ _ _=>zt
theorem wM {x:Str}{p pos:Pos}{e:Expr}{es:List Expr}{T:String}{a:FA}(hc:fj X (.type T) (rN X.K f))(hg:Gl X x)(hm:X.mg x=none)(hv:bootBuiltins x=some (.type T))(ha:MA X (e::es) a)(hn:x≠"__name__":=by decide)(hdb:(x == ("__debug__":Str))=false:=by decide)
  (he:dJ (e::es) X.env=(J,eval e X.env)::dJ es X.env:=by rfl) (hpl:(backTo pos (dJ es X.env)).any (·.1)=J:=by rfl):ME X (.Call (.Name x p) (e::es) [] pos) (mN f a):=
 eU (jj hc hg hm hv ha hn hdb he hpl) λ_ _ _=>zt
end
noncomputable def mB (m:FE):FT:=λr S=>(m r S).bind λp=>match p.1 with
 | .bl b=>some (b,p.2)
 |_=>none
theorem Gz{K:Fg1}{m:FE}{σ:L2.St}{H:Hp}{Q:Bool->Hp->Prop}(h:yg K (mB m) σ H Q):tB (tM K m) σ H Q:=by
 obtain⟨r,mu,S,b,n,g,j,a,hc⟩:=h;obtain⟨⟨d,l⟩,e,a⟩:=oB1.mp a;cases d with
 |bl k=>
  cases a;refine⟨r,mu,S,_,_,g,j,e,λv H1 mu1 f i c=>?_⟩;cases i;exact⟨_,O,hc H1 mu1 f c⟩
 |_=>cases a
noncomputable def se(a b:FT):FT:=λr S=>(a r S).bind λp=>if p.1=M then b r p.2 else Z (J,p.2)
noncomputable def Fp(a b:FT):FT:=λr S=>(a r S).bind λp=>if p.1=M then Z (M,p.2)else b r p.2
noncomputable def wO(a:FT):FT:=λr S=>(a r S).bind λp=>Z (!p.1,p.2)
noncomputable def IY(a b:FE):FE:=λr S=>(a r S).bind λp=>match p.1 with
 | .bl c=>if c=M then b r p.2 else Z (.bl J,p.2)
 |_=>Y
noncomputable def JL(a b:FE):FE:=λr S=>(a r S).bind λp=>match p.1 with
 | .bl c=>if c=M then Z (.bl M,p.2)else b r p.2
 |_=>Y
noncomputable def IV(a:FE):FE:=λr S=>(a r S).bind λp=>match p.1 with
 | .bl c=>Z (.bl (!c),p.2)
 |_=>Y
noncomputable def vv(c:FT)(a b:FE):FE:=λr S=>(c r S).bind λp=>if p.1=M then a r p.2 else b r p.2
section
variable{X:Cx}{x y c:Expr}{rest:List Expr}{pos:Pos}{a b:FT}{f g:FE}
theorem Eh{op:CmpOp}{f:FN}{a b:FE}(ho:gn X (compareOp op) (r2 X.K f))(hx:ME X x a)(hy:ME X y b)(hm:behindInMarks op y=J):MT X (.Compare x [op] [y] pos) (mB (m2 f a b)):=
 ua (A7 ho hx hy hm) fun σ H Q h=>by
  obtain⟨r,mu,S,d,e,i,k,hm,hc⟩:=Gz h;exact vw ⟨r,mu,S,d,e,i,k,hm,λv H' mu' g j c=>hc v H' mu' g j c⟩
theorem Bw(ha:MT X x a):MW X (.BoolOp .And [x] pos) a:=A5 ha
theorem Ee(ha:MT X x a):MW X (.BoolOp .Or [x] pos) a:=DF ha
theorem Ef(ha:MT X x a)(hb:MW X (.BoolOp .And (y::rest) pos) b):MW X (.BoolOp .And (x::y::rest) pos) (se a b):=
 yD (DG ha hb) <| by
  rintro σ H Q ⟨r,mu,S,k,l,h,n,c,hc⟩;obtain⟨⟨b1,g⟩,j,c⟩:=oB1.mp c;refine⟨r,mu,S,b1,g,h,n,j,λH1 mu1 e f=>?_⟩;cases b1 with
  |true=>exact⟨r,mu1,g,k,l,h.ext e,f,c,λH2 d m i=>hc H2 d (e.trans m) i⟩
  |false=>cases c;exact hc H1 mu1 e f
theorem Go(ha:MT X x a)(hb:MW X (.BoolOp .Or (y::rest) pos) b):MW X (.BoolOp .Or (x::y::rest) pos) (Fp a b):=
 yD (F6 ha hb) <| by
  rintro σ H Q ⟨r,mu,S,k,l,h,n,c,hc⟩;obtain⟨⟨b1,g⟩,j,c⟩:=oB1.mp c;refine⟨r,mu,S,b1,g,h,n,j,λH1 mu1 e f=>?_⟩;cases b1 with
  |false=>exact⟨r,mu1,g,k,l,h.ext e,f,c,λH2 d m i=>hc H2 d (e.trans m) i⟩
  |true=>cases c;exact hc H1 mu1 e f
theorem Io(h:MW X x a):MT X x a:=PW.pt h
theorem Eg(ha:MT X x a):MT X (.UnaryOp .Not x pos) (wO a):=
 ua (DI ha) <| by
  rintro σ H Q ⟨r,mu,S,k,i,g,h,b,hc⟩;obtain⟨⟨b1,e⟩,d,b⟩:=oB1.mp b;cases b;exact⟨r,mu,S,b1,e,g,h,d,λH1 mu1 f c=>hc H1 mu1 f c⟩
theorem Gu(hc:MT X c a)(hx:ME X x f)(hy:ME X y g):ME X (.IfExp c x y pos) (vv a f g):=
 eU (yS hc hx hy) <| by
  rintro σ H Q ⟨r,mu,S,k,o,j,q,e,hc⟩;obtain⟨⟨b1,i⟩,p,e⟩:=oB1.mp e;refine⟨r,mu,S,b1,i,j,q,p,λH1 mu1 d n=>?_⟩;cases b1 with
  |true=>exact⟨r,mu1,i,k,o,j.ext d,n,e,λm H2 b l r2 h=>hc m H2 b (d.trans l) r2 h⟩
  |false=>exact⟨r,mu1,i,k,o,j.ext d,n,e,λm H2 b l r2 h=>hc m H2 b (d.trans l) r2 h⟩
end
section
variable{X:Cx}{x y z:Expr}{pos:Pos}{f g:FN}{a b c:FE}{op op':CmpOp}
end
mutual
noncomputable def D.und(n:Nat):D->Bool
 | .tup xs=>D.unds n xs
 | .rol xs=>D.unds n xs
 | .ref k=>decide (k<n)
 | .non=>M
 | .bl _=>M
 | .int _=>M
 | .str _=>M
 | .fn _=>M
noncomputable def D.unds(n:Nat):List D->Bool
 |[]=>M
 |d::ds=>D.und n d&&D.unds n ds
end
noncomputable def D.sames(a b:List D):Bool:=@decide (a=b) (Classical.propDecidable _)
theorem D.sames_eq{a b:List D}(h:D.sames a b=M):a=b:=@of_decide_eq_true _ (Classical.propDecidable _) h
theorem D.sames_refl(a:List D):D.sames a a=M:=@decide_eq_true _ (Classical.propDecidable _) O
section
variable{K:Fg1}{H:Hp}{mu mu':List dE}
theorem eJ.cut{n:Nat}(h:∀ k,k<n->mu[k]? = mu'[k]?):∀ {d:D} {v:V},eJ K H mu d v->d.und n=true->eJ K H mu' d v:=fun c=>c.rec (motive_1:=fun d v _=>d.und n=true->eJ K H mu' d v) (motive_2:=fun ds vs _=>D.unds n ds=true->d0 K H mu' ds vs)
  (λ_=>.non) (λb _=>.bl b) (λi _=>.int i) (λx _=>.str x) (λq _ ih e=>.tup q (ih (by rw[D.und]at e;exact e))) (λq _ ih e=>.rol q (ih (by rw[D.und]at e;exact e)))
  (λq e=>.ref (by rw[D.und]at e;rw[<- h _ (of_decide_eq_true e)];exact q)) (λq _=>.fn q) (λ_=>.nil) (λ_ _ a b e=>by rw[D.unds,bA1]at e;exact .cons (a e.1) (b e.2))
theorem d0.cut{n:Nat}(h:∀k,k<n->mu[k]?=mu'[k]?):∀{ds:List D} {vs:List V},d0 K H mu ds vs->D.unds n ds=M->d0 K H mu' ds vs:=λa=>a.ind (P:=λds vs _=>D.unds n ds=M->d0 K H mu' ds vs) (λ_=>.nil) λr _ b e=>by rw[D.unds,bA1]at e;exact .cons (eJ.cut h r e.1) (b e.2)
end
noncomputable def Ob.und(n:Nat):Ob->Bool
 | .lst xs=>D.unds n xs
 | .dct kvs=>D.unds n (kvs.map (·.2))
 | .dcT kvs=>D.unds n (kvs.map (·.2))
 | .iset _=>M
 | .dcF kvs=>D.unds n (kvs.map (·.2))
 | .tst _=>M
theorem KR.cut{κ:Type}{K:Fg1}{H:Hp}{mu mu':List dE}{n:Nat}(h:∀k,k<n->mu[k]?=mu'[k]?):∀{ks:List (κ×D)} {ws:List (κ×V)},KR K H mu ks ws->D.unds n (ks.map (·.2))=M->KR K H mu' ks ws:=by
 intro ks ws a e
 induction a with
 |nil=>exact .nil
 |cons r t ih=>
  rw[mP1,D.unds,bA1]at e;exact .cons ⟨r.1,r.2.cut h e.1⟩ (ih e.2)
mutual
theorem yd(n:Nat):∀k:TK,(tkD k).und n=M
 | .non=>rfl
 | .int _=>rfl
 | .tup xs=>by rw[tkD,D.und];exact uV n xs
theorem uV(n:Nat):∀ks:List TK,D.unds n (hG ks)=M
 |[]=>rfl
 |x::xs=>by rw[hG,D.unds,yd n x,uV n xs];rfl
end
theorem KT.cut{K:Fg1}{H:Hp}{mu mu':List dE}{n:Nat}(h:∀k,k<n->mu[k]?=mu'[k]?):∀{ks:List (TK×D)} {ws:List (TK×dE×dB)},KT K H mu ks ws->D.unds n (ks.map (·.2))=M->KT K H mu' ks ws:=by
 intro ks ws b e
 induction b with
 |nil=>exact .nil
 |cons r t ih=>
  rw[mP1,D.unds,bA1]at e;obtain⟨z,d,k,v,a,r⟩:=r;exact .cons ⟨z,d,k.cut h (yd n _),v,a,r.cut h e.1⟩ (ih e.2)
theorem vp(n:Nat):∀ks:List TK,D.unds n ((ks.map λk=>(k,D.non)).map (·.2))=M
 |[]=>rfl
 |_::ks=>by rw[mP1,mP1,D.unds,vp n ks];rfl
theorem jJ.cut{K:Fg1}{H:Hp}{mu mu':List dE}{n:Nat}{a:dE}(h:∀k,k<n->mu[k]?=mu'[k]?):∀{o:Ob},jJ K H mu a o->o.und n=M->jJ K H mu' a o
 | .lst _,⟨vs,e,r⟩,b=>⟨vs,e,r.cut h b⟩
 | .dct _,⟨ws,e,r⟩,b=>⟨ws,e,KR.cut h r b⟩
 | .dcT _,⟨ws,e,r,l⟩,b=>⟨ws,e,KT.cut h r b,l⟩
 | .iset _,q,_=>q
 | .dcF _,⟨ws,e,r,l⟩,b=>⟨ws,e,KT.cut h r b,l⟩
 | .tst ks,⟨ws,e,r⟩,_=>⟨ws,e,KT.cut h r (vp n ks)⟩
noncomputable def gc(n:Nat)(p:D×Sto):D×Sto:=if p.1.und n&&(p.2.take n).all (Ob.und n)then(p.1,p.2.take n)else p
mutual
noncomputable def D.sh(n:Nat):D->D
 | .tup xs=>.tup (D.shs n xs)
 | .rol xs=>.rol (D.shs n xs)
 | .ref k=>.ref (n+k)
 | .fn x=>.fn x
 | .non=>.non
 | .bl b=>.bl b
 | .int i=>.int i
 | .str x=>.str x
noncomputable def D.shs(n:Nat):List D->List D
 |[]=>[]
 |d::ds=>D.sh n d::D.shs n ds
end
noncomputable def Ob.sh(n:Nat):Ob->Ob
 | .lst xs=>.lst (D.shs n xs)
 | .dct kvs=>.dct (kvs.map λp=>(p.1,p.2.sh n))
 | .dcT kvs=>.dcT (kvs.map λp=>(p.1,p.2.sh n))
 | .iset xs=>.iset xs
 | .dcF kvs=>.dcF (kvs.map λp=>(p.1,p.2.sh n))
 | .tst ks=>.tst ks
theorem eJ.sh{K:Fg1}{H:Hp}{mu mu':List dE}:∀ {d:D} {v:V},eJ K H mu' d v->eJ K H (mu++mu') (d.sh mu.length) v:=fun c=>c.rec (motive_1:=fun d v _=>eJ K H (mu++mu') (d.sh mu.length) v) (motive_2:=fun ds vs _=>d0 K H (mu++mu') (D.shs mu.length ds) vs)
  .non .bl .int .str (λh _ ih=>.tup h ih) (λh _ ih=>.rol h ih) (λh=>.ref (by rw[gR1 (bt _ _),bu];exact h)) (λh=>.fn h) .nil (λ_ _ a b=>.cons a b)
theorem d0.sh{K:Fg1}{H:Hp}{mu mu':List dE}:∀{ds:List D} {vs:List V},d0 K H mu' ds vs->d0 K H (mu++mu') (D.shs mu.length ds) vs:=λh=>h.ind (P:=λds vs _=>d0 K H (mu++mu') (D.shs mu.length ds) vs) .nil λr _ ih=>.cons (eJ.sh r) ih
theorem KR.sh{κ:Type}{K:Fg1}{H:Hp}{mu mu':List dE}:∀{ks:List (κ×D)} {ws:List (κ×V)},KR K H mu' ks ws->KR K H (mu++mu') (ks.map λp=>(p.1,p.2.sh mu.length)) ws:=by
 intro ks ws h
 induction h with
 |nil=>exact .nil
 |cons r t ih=>exact .cons ⟨r.1,r.2.sh⟩ ih
mutual
theorem CF(n:Nat):∀k:TK,(tkD k).sh n=tkD k
 | .non=>rfl
 | .int _=>rfl
 | .tup xs=>by rw[tkD,D.sh,ya n xs]
theorem ya(n:Nat):∀ks:List TK,D.shs n (hG ks)=hG ks
 |[]=>rfl
 |x::xs=>by rw[hG,D.shs,CF n x,ya n xs]
end
theorem KT.sh{K:Fg1}{H:Hp}{mu mu':List dE}:∀{ks:List (TK×D)} {ws:List (TK×dE×dB)},KT K H mu' ks ws->KT K H (mu++mu') (ks.map λp=>(p.1,p.2.sh mu.length)) ws:=by
 intro ks ws h
 induction h with
 |nil=>exact .nil
 |cons r t ih=>
  obtain⟨z,d,k,v,a,r⟩:=r;exact .cons ⟨z,d,by have:=k.sh (mu:=mu);rw[CF]at this;exact this,v,a,r.sh⟩ ih
theorem jJ.sh{K:Fg1}{H:Hp}{mu mu':List dE}{a:dE}:∀{o:Ob},jJ K H mu' a o->jJ K H (mu++mu') a (o.sh mu.length)
 | .lst _,⟨vs,e,r⟩=>⟨vs,e,r.sh⟩
 | .dct _,⟨ws,e,r⟩=>⟨ws,e,KR.sh r⟩
 | .dcT _,⟨ws,e,r,l⟩=>⟨ws,e,KT.sh r,l⟩
 | .iset _,q=>q
 | .dcF _,⟨ws,e,r,l⟩=>⟨ws,e,KT.sh r,l⟩
 | .tst ks,⟨ws,e,r⟩=>⟨ws,e,by have:=KT.sh (mu:=mu) r;rw[bv]at this;exact this⟩
theorem eJ.mor{K:Fg1}{H:Hp}{mu:List dE}(mu':List dE):∀{d:D} {v:V},eJ K H mu d v->eJ K H (mu++mu') d v:=λh=>h.exv ⟨bw _ _,λ_ _ h=>h,λ_ _ _ h=>h⟩
theorem d0.mor{K:Fg1}{H:Hp}{mu:List dE}(mu':List dE):∀{ds:List D} {vs:List V},d0 K H mu ds vs->d0 K H (mu++mu') ds vs:=λh=>h.exv ⟨bw _ _,λ_ _ h=>h,λ_ _ _ h=>h⟩
theorem KR.mor{κ:Type}{K:Fg1}{H:Hp}{mu:List dE}(mu':List dE){ks:List (κ×D)}{ws:List (κ×V)}(h:KR K H mu ks ws):KR K H (mu++mu') ks ws:=Paired.mapP h λ_ _ z=>⟨z.1,z.2.mor mu'⟩
theorem jJ.mor{K:Fg1}{H:Hp}{mu:List dE}{a:dE}(mu':List dE):∀{o:Ob},jJ K H mu a o->jJ K H (mu++mu') a o
 | .lst _,⟨vs,e,r⟩=>⟨vs,e,r.mor mu'⟩
 | .dct _,⟨ws,e,r⟩=>⟨ws,e,KR.mor mu' r⟩
 | .dcT _,⟨ws,e,r,l⟩=>⟨ws,e,Paired.mapP r λ_ _ ⟨z,d,k,v,b,r⟩=>⟨z,d,k.mor mu',v,b,r.mor mu'⟩,l⟩
 | .iset _,q=>q
 | .dcF _,⟨ws,e,r,l⟩=>⟨ws,e,Paired.mapP r λ_ _ ⟨z,d,k,v,b,r⟩=>⟨z,d,k.mor mu',v,b,r.mor mu'⟩,l⟩
 | .tst _,⟨ws,e,r⟩=>⟨ws,e,Paired.mapP r λ_ _ ⟨z,d,k,v,b,r⟩=>⟨z,d,k.mor mu',v,b,r.mor mu'⟩⟩
noncomputable def lR(f:FN):FN:=λds S=>if D.unds 0 ds=M then(f ds []).map λp=>if p.1.und 0=M then(p.1,S)else(p.1.sh S.length,S++p.2.map (Ob.sh S.length))else(f ds S).map (gc S.length)
theorem jJ.keep{K:Fg1}{H H':Hp}{mu:List dE}{a:dE}(e:Ext mu mu H H')(h:∀o,H a=Z o->H' a=Z o):∀{o:Ob},jJ K H mu a o->jJ K H' mu a o
 | .lst _,⟨vs,q,r⟩=>⟨vs,h _ q,r.ext e⟩
 | .dct _,⟨ws,q,r⟩=>⟨ws,h _ q,KR.ext e r⟩
 | .dcT _,⟨ws,q,r,l⟩=>⟨ws,h _ q,KT.ext e r,l⟩
 | .iset _,q=>⟨h _ q.1,q.2⟩
 | .dcF _,⟨ws,⟨o,u,c,b⟩,r,l⟩=>⟨ws,⟨o,u,h _ c,b⟩,KT.ext e r,l⟩
 | .tst _,⟨ws,q,r⟩=>⟨ws,h _ q,KT.ext e r⟩
theorem sZ{K:Fg1}{f:FN}{vs:List V}{H:Hp}{Q:VK}(h:rN K (lR f) vs H Q):rN K f vs H Q:=by
 obtain⟨mu,S,ds,d,ao,E,c,g,hc⟩:=h;unfold lR at g;split at g
 ·rename_i j;obtain⟨⟨w,p⟩,A,g⟩:=oM1.mp g;refine⟨[],[],ds,w,p,E.cut (n:=0) (λk i=>absurd i (bA _)) j,.nil,A,λv H' mu' x r s=>?_⟩;have u:Ext mu mu H H':=⟨bn,λa o e _=>x.old a o e (by simp),x.tup,x.frz,λ_ z=>.inl z⟩;dsimp only at g;split at g
  ·rename_i I;cases g;refine hc v H' mu u (r.cut (n:=0) (λk i=>absurd i (bA _)) I) ⟨c.len,c.nd,λn o a h1 h2=>?_⟩;exact(c.ob n o a h1 h2).keep u λo e=>x.old a o e (by simp)
  ·cases g;have C:∀ a∈mu',H a=none:=fun a B=>(x.new a B).resolve_left (by simp);have am:Ext mu (mu++mu') H H':=⟨bw _ _,fun a o e _=>x.old a o e (by simp),x.tup,x.frz,fun a z=>by
    rcases aG.mp z with z|z
    ·exact .inl z
    ·exact .inr (C a z)⟩
   refine hc v H' (mu++mu') am (by rw[<- c.len];exact r.sh) ⟨by rw[lA1,lA1,lM1,c.len,s.len],?_,λn o a h1 h2=>?_⟩
   ·refine bB.mpr ⟨c.nd,s.nd,λa B b j z=>?_⟩;subst z;obtain⟨o,e⟩:=c.here B;rw[C a j]at e;cases e
   ·by_cases l:n<S.length
    ·rw[gL1 l]at h1;rw[gL1 (by rw[c.len];exact l)]at h2;exact((c.ob n o a h1 h2).keep u λo e=>x.old a o e (by simp)).mor mu'
    ·have m:=a0 l;rw[gR1 m]at h1;rw[gR1 (by rw[c.len];exact m)]at h2;rw[gP1]at h1;obtain⟨F,L,G⟩:=oM1.mp h1;subst G;have q:=s.ob (n-S.length) F a L (by rw[c.len]at h2;exact h2);rw[<- c.len];exact q.sh
 ·obtain⟨⟨w,p⟩,A,g⟩:=oM1.mp g;refine⟨mu,S,ds,w,p,E,c,A,λv H' mu' x r s=>?_⟩;unfold gc at g;split at g
  ·rename_i j;cases g;rw [bA1] at j;have i:∀ k,k<S.length->mu'[k]? = mu[k]?:=fun k i=>by
    obtain⟨t,rfl⟩:=x.pre;rw[gL1 (by rw[c.len];exact i)]
   refine hc v H' mu x.back (r.cut i j.1) ⟨?_,c.nd,λn o a h1 h2=>?_⟩
   ·have:=s.len;have D:=x.pre.length_le;rw[aQ,<- s.len];rw[c.len]at D ⊢;exact(bC D).symm
   ·have l:n<S.length:=by rw[<- c.len];exact(gE1.mp h2).1
    have y:p[n]?=Z o:=by rw[aS l]at h1;exact h1
    refine(s.ob n o a y ((i n l).trans h2)).cut i ?_;exact bD.mp j.2 o (gM1 h1)
  ·cases g;exact hc v H' mu' x r s
noncomputable def AD(K:Fg1)(n:Nat)(f:FN):Sp:=λvs H Q _=>vs.length=n/\rN K f vs H Q
section
variable{X:Cx}{k n:Nat}{f:dE}{fd:dP}{ps:List Str}{x:Str}{p pos:Pos}{e:Expr}{es:List Expr}{m:FN}{a:FA}
noncomputable def dX (n:Nat)(f:FN):FN:=λds S=>if ds.length=n then lR f ds S else none
theorem BJ (F:ju X.prog X.w X.K X.mg X.base tw k f fd ps (AD X.K n m))(hr:fN k X.A)(hg:Gl X x)(hm:X.mg x=some (.ref f))(hk:wK1 X.K (.ref f)=true)(hb:kW X.K fd ps [])
  (ha:MA X (e::es) a) (hdb:(x == ("__debug__":Str))=J:=by decide) (he:dJ (e::es) X.env=(J,eval e X.env)::dJ es X.env:=by rfl) (hpl:(backTo pos (dJ es X.env)).any (·.1)=J:=by rfl):
  ME X (.Call (.Name x p) (e::es) [] pos) (mN (dX n m) a):=
 eU (Bn (E:=E0) F hr hg hm hk hb .nil Ge ha hdb he hpl) fun σ H Q h=>by
  obtain⟨r,mu,S,ds,s,he,w,hm,hc⟩:=zt h;refine⟨r,mu,S,ds,s,he,w,hm,λvs H' mu' u v o=>?_⟩;have q:=hc vs H' mu' u v o;show AD X.K n m (vs++[]) H' Q E0;rw[aM];obtain⟨c,t,d,j,l,h1,h2,b,g⟩:=q;unfold dX at b;split at b
  ·rename_i i;exact⟨by rw[<- h1.length];exact i,sZ ⟨c,t,d,j,l,h1,h2,b,g⟩⟩
  ·cases b
end
noncomputable def q0:FS:=λr S=>Z (.nx,r,S)
noncomputable def d9 (a b:FS):FS:=λr S=>(a r S).bind λp=>match p.1 with
 | .nx=>b p.2.1 p.2.2
 |f=>some (f,p.2.1,p.2.2)
noncomputable def fu (m:FE):FS:=λr S=>(m r S).bind λp=>some (.rt p.1,r,p.2)
noncomputable def IU:FS:=λr S=>Z (.rt .non,r,S)
noncomputable def fi (m:FE):FS:=λr S=>(m r S).bind λp=>some (.nx,r,p.2)
noncomputable def hL (c:FT)(a b:FS):FS:=λr S=>(c r S).bind λp=>if p.1=true then a r p.2 else b r p.2
section
variable{X:Cx}{pos:Pos}{e c:Expr}{st:dQ}{rest as bs:List dQ}{a b:FS}{m:FE}{t:FT}
theorem By:AA X [] q0:=vb A9 <| by
 rintro E σ H ⟨r,mu,S,f,e,d,a,c,b,hc⟩;cases b;exact hc σ H mu (.refl _ _) a c
theorem zj(h1:MS X st a)(h2:AA X rest b):AA X (st::rest) (d9 a b):=vb (yG h1 h2) <| by
 rintro E σ H ⟨r,mu,S,f,s,p,t,u,h,hc⟩;obtain⟨⟨l,n,m⟩,o,h⟩:=oB1.mp h;refine⟨r,mu,S,l,n,m,t,u,o,?_⟩;cases l with
 |nx=>
  intro q H1 mu1 i k j;refine⟨n,mu1,m,f,s,p,k,j,h,?_⟩;cases f with
  |nx=>exact λe H2 c g=>hc e H2 c (i.trans g)
  |bk=>exact λe H2 c g=>hc e H2 c (i.trans g)
  |ct=>exact λe H2 c g=>hc e H2 c (i.trans g)
  |rt d=>exact λv H2 c g=>hc v H2 c (i.trans g)
 |bk=>cases h;exact hc
 |ct=>cases h;exact hc
 |rt d=>cases h;exact hc
theorem Bx(h1:MS X st a):AA X [st] a:=A8 h1
theorem Bz(h:ME X e m)(hs:swapsWith e Y pos.line X.env=pure J:=by rfl):MS X (.Expr e pos) (fi m):=hI (Ba h hs) <| by
 rintro E σ H ⟨r,mu,S,f,k,j,b,hs,a,hc⟩;obtain⟨⟨d,i⟩,g,a⟩:=oB1.mp a;cases a;exact⟨r,mu,S,d,_,b,hs,g,λv H' mu' x l c=>hc σ H' mu' x (b.ext x) c⟩
theorem Ej(h:ME X e m):MS X (.Return (Z e) pos) (fu m):=hI (DL h) <| by
 rintro E σ H ⟨r,mu,S,f,k,j,c,g,a,hc⟩;obtain⟨⟨d,i⟩,b,a⟩:=oB1.mp a;cases a;exact⟨r,mu,S,d,_,c,g,b,hc⟩
theorem Gp(hc:MT X c t)(ha:AA X as a)(hb:AA X bs b):MS X (.If c as bs pos) (hL t a b):=hI (F7 hc ha hb) <| by
 rintro E σ H ⟨r,mu,S,f,o,m,p,u,i,hc⟩;obtain⟨⟨k,l⟩,s,i⟩:=oB1.mp i;refine⟨r,mu,S,k,l,p,u,s,λH1 mu1 j q=>?_⟩;have n:∀c:FS,c r l=Z (f,o,m)->xF X.K c E σ H1:=λc i=>by
  refine⟨r,mu1,l,f,o,m,p.ext j,q,i,?_⟩;cases f with
  |nx=>exact λg H2 e h=>hc g H2 e (j.trans h)
  |bk=>exact λg H2 e h=>hc g H2 e (j.trans h)
  |ct=>exact λg H2 e h=>hc g H2 e (j.trans h)
  |rt d=>exact λv H2 e h=>hc v H2 e (j.trans h)
 cases k with
 |true=>exact n a i
 |false=>exact n b i
end
abbrev FG:=D->Ev->Sto->Option (Ev×Sto)
abbrev AC:=List D->Ev->Sto->Option (Ev×Sto)
inductive Dm (K:Fg1)(g:FG)(v:V)(σ:L2.St)(H:Hp)(Q:L2.St->Hp->Prop):Prop
 |mk (r:Ev) (mu:List dE) (S:Sto) (d:D) (r':Ev) (S':Sto) (he:fJ K H mu r σ) (hs:Sim K H mu S) (hr:eJ K H mu d v) (hm:g d r S=some (r',S')) (hc:∀ σ' H' mu',Ext mu mu' H H'->fJ K H' mu' r' σ'->Sim K H' mu' S'->Q σ' H')
inductive HV (K:Fg1)(g:AC)(vs:List V)(σ:L2.St)(H:Hp)(Q:L2.St->Hp->Prop):Prop
 |mk (r:Ev) (mu:List dE) (S:Sto) (ds:List D) (r':Ev) (S':Sto) (he:fJ K H mu r σ) (hs:Sim K H mu S) (hr:d0 K H mu ds vs) (hm:g ds r S=some (r',S')) (hc:∀ σ' H' mu',Ext mu mu' H H'->fJ K H' mu' r' σ'->Sim K H' mu' S'->Q σ' H')
abbrev MG(X:Cx)(e:Expr)(g:FG):Prop:=PG X e (Dm X.K g)
abbrev Hm(X:Cx)(es:List Expr)(g:AC):Prop:=Fn X es (HV X.K g)
noncomputable def gN (i:Nat):FG:=λd r S=>some (r.set i (some d),S)
noncomputable def gNl:AC:=λds r S=>match ds with
 |[]=>Z (r,S)
 |_=>Y
noncomputable def gCs (g:FG)(gs:AC):AC:=λds r S=>match ds with
 |d::ds=>(g d r S).bind λp=>gs ds p.1 p.2
 |[]=>none
noncomputable def gT (n:Nat)(gs:AC):FG:=λd r S=>match d with
 | .tup ds=>if ds.length=n then gs ds r S else none
 |_=>none
theorem fJ.set{K:Fg1}{H:Hp}{mu:List dE}{r:Ev}{σ:L2.St}{i:Nat}{d:D}{v:V}(h:fJ K H mu r σ)(q:eJ K H mu d v):fJ K H mu (r.set i (Z d)) (σ.set i (Z v)):=by
 refine⟨by rw[aW,aW];exact h.len,λj c e=>?_⟩;by_cases a:i=j
 ·subst a;have b:i<r.length:=by
   have:=(gE1.mp e).1
   rwa [aW]at this
  rw[aI b]at e;cases e;exact⟨v,aI (by rw[<- h.len];exact b),q⟩
 ·rw[gS1 a]at e;obtain⟨g,f,k⟩:=h.val j c e;exact⟨g,by rw[gS1 a];exact f,k⟩
section
variable{X:Cx}{pos:Pos}
theorem uc{e:Expr}{t t':TG}(h:PG X e t)(i:∀v σ H Q,t' v σ H Q->t v σ H Q):PG X e t':=λag s σ H v u Q I r q=>h ag s σ H v u Q I r (i v σ H Q q)
theorem ve{e:List Expr}{t t':C1}(h:Fn X e t)(i:∀v σ H Q,t' v σ H Q->t v σ H Q):Fn X e t':=λag s σ H v u Q I r q=>h ag s σ H v u Q I r (i v σ H Q q)
theorem BH(i:Nat){x:Str}(hN:X.N.Nodup)(hi:X.N[i]?=Z x)(hx:uO X.env.scope x)(hf:X.fn x=M\/X.env.scope.names.lookup x=Z .local:=by first|exact .inl rfl|exact .inr rfl|assumption):MG X (.Name x pos) (gN i):=
 uc (vf hN hi hx hf) <| by
  rintro v σ H Q ⟨r,mu,S,d,g,f,a,e,b,c,hc⟩;cases c;exact hc _ H mu (.refl _ _) (a.set b) e
theorem BG:Hm X [] gNl:=ve Bj <| by
 rintro vs σ H Q ⟨r,mu,S,ds,f,e,b,d,c,a,hc⟩;unfold gNl at a;split at a
 ·cases a;cases c;exact⟨O,hc σ H mu (.refl _ _) b d⟩
 ·cases a
theorem zm{e:Expr}{es:List Expr}{g:FG}{f:AC}(h1:MG X e g)(h2:Hm X es f)(hs:(assignEach (e::es) X.env).map (·.2)=assign e X.env::(assignEach es X.env).map (·.2):=by rfl):Hm X (e::es) (gCs g f):=
 ve (yP h1 h2 hs) <| by
  rintro vs σ H Q ⟨r,mu,S,ds,p,n,s,hs,k,a,hc⟩;unfold gCs at a;split at a
  ·obtain⟨⟨j,h⟩,m,a⟩:=oB1.mp a;cases k with
   |cons q t=>
    exact⟨_,_,O,r,mu,S,_,j,h,s,hs,q,m,λo H1 mu1 i d l=>⟨j,mu1,h,_,p,n,d,l,t.ext i,a,λc H2 b u=>hc c H2 b (i.trans u)⟩⟩
  ·cases a
theorem Es{es:List Expr}{k:Nat}{b:AC}{n:Nat}(hc:X.calm=M)(h:Hm X es b)(hn:(assignEach es X.env).length=n:=by rfl)(hst:(assignEach es X.env).findIdx? (·.1)=Y:=by rfl):MG X (.Tuple es k pos) (gT n b):=
 uc (DU hc h hn hst) <| by
  rintro v σ H Q ⟨r,mu,S,d,f,e,g,j,i,a,hc⟩;cases d with
  |tup ds=>
   rw[gT]at a;split at a
   ·rename_i c;cases i with
    |tup q t=>exact⟨_,_,O,q,by rw[<- t.length];exact c,r,mu,S,ds,f,e,g,j,t,a,hc⟩
   ·cases a
  |_=>cases a
inductive rU (K:Fg1)(f:FN)(o i v:V)(H:Hp)(Q:Hp->Prop):Prop
 |mk (mu:List dE) (S:Sto) (ds:List D) (d:D) (S':Sto) (hr:d0 K H mu ds [o,i,v]) (hs:Sim K H mu S) (hm:f ds S=some (d,S')) (hc:∀H' mu',Ext mu mu' H H'->Sim K H' mu' S'->Q H')
noncomputable def gS(f:FN)(a b:FE):FG:=λd r S=>(a r S).bind λp=>(b r p.2).bind λq=>(f [p.1,q.1,d] q.2).bind λt=>Z (r,t.2)
theorem Et{o i:Expr}{a b:FE}{f:FN}(ho:ME X o a)(hi:ME X i b)(hs:uN X (rU X.K f))(ha:∀v,assign (.Subscript o i pos) X.env v=(do
   let ov<-holding [v] (eval o X.env)
   let iv<-holding [v,ov] (eval i X.env)
   standAt pos
   holding [v,ov,iv] (setItem ov iv v)
   release [v,ov,iv] []):=by intro _;rfl):MG X (.Subscript o i pos) (gS f a b):=
 uc (DV ho hi hs ha) <| by
  rintro v σ H Q ⟨r,mu,S,d,E,I,j,hs,B,c,hc⟩;obtain⟨⟨m,l⟩,z,c⟩:=oB1.mp c;obtain⟨⟨n,q⟩,x,c⟩:=oB1.mp c;obtain⟨⟨s,F⟩,t,c⟩:=oB1.mp c;cases c;refine⟨r,mu,S,m,l,j,hs,z,λG H1 mu1 g A C=>?_⟩;refine⟨r,mu1,l,n,q,j.ext g,C,x,λD H2 k e r2 w=>?_⟩;exact⟨k,q,[m,n,d],s,_,.cons (A.ext e) (.cons r2 (.cons ((B.ext g).ext e) .nil)),w,t,λu h p y=>hc σ u h ((g.trans e).trans p) (((j.ext g).ext e).ext p) y⟩
noncomputable def eh (m:FE)(g:FG):FS:=λr S=>(m r S).bind λp=>(g p.1 r p.2).bind λq=>some (.nx,q.1,q.2)
theorem qj{K:Fg1}{m:FE}{g:FG}{E:jv}{σ:L2.St}{H:Hp}(h:xF K (eh m g) E σ H):yh (tM K m) (Dm K g) E σ H:=by
 obtain⟨r,mu,S,f,v,t,i,q,a,hc⟩:=h;obtain⟨⟨j,d⟩,o,a⟩:=oB1.mp a;obtain⟨⟨r2,u⟩,k,a⟩:=oB1.mp a;cases a;refine⟨r,mu,S,j,d,i,q,o,λs H1 mu1 e l n=>?_⟩;exact⟨r,mu1,d,j,_,_,i.ext e,n,l,k,λc H2 b p=>hc c H2 b (e.trans p)⟩
theorem Em{tg e:Expr}{m:FE}{g:FG}(he:ME X e m)(hg:MG X tg g)(hs:swapsWithSole [tg] e pos.line X.env=pure J:=by rfl)(hw:swappedStores [tg] e X.env=pure Y:=by rfl)(h1:(assignEach [tg] X.env).map (·.2)=[assign tg X.env]:=by rfl):MS X (.Assign [tg] e pos) (eh m g):=hI (DP he hg hs hw h1) λ_ _ _=>qj
theorem Ei(i:Nat){x:Str}{e:Expr}{m:FE}{pos':Pos}(hN:X.N.Nodup)(hi:X.N[i]? = some x)(hx:uO X.env.scope x)(he:ME X e m)(hs:swapsWith e (some (.Name x pos')) pos.line X.env=pure false:=by rfl)(hf:X.fn x=true\/X.env.scope.names.lookup x=some .local:=by first | exact .inl rfl | exact .inr rfl | assumption):
  MS X (.Assign [.Name x pos'] e pos) (eh m (gN i)):=hI (DK hN hi hx he hs hf) λE σ H h=>by
 obtain⟨r,mu,S,d,j,h1,h2,o,b⟩:=qj h;refine⟨r,mu,S,d,j,h1,h2,o,λv H' mu' k n g=>?_⟩;obtain⟨r2,a,u,s,w,t,p,q,c,l,f⟩:=b v H' mu' k n g;cases l;exact f _ H' a (.refl _ _) (p.set c) q
noncomputable def BO(i:Nat)(f:FN)(m:FE):FS:=λr S=>match r[i]? with
 |some (Z d)=>(m r S).bind λp=>(f [d,p.1] p.2).bind λq=>Z (.nx,r.set i (Z q.1),q.2)
 |_=>Y
theorem El(i:Nat){x:Str}{e:Expr}{m:FE}{op:Operator}{f:FN}{pos':Pos}(hN:X.N.Nodup)(hi:X.N[i]? = some x)(hx:uO X.env.scope x)(he:ME X e m)(ho:HI X op (r2 X.K f))(hf:X.fn x=true\/X.env.scope.names.lookup x=some .local:=by first | exact .inl rfl | exact .inr rfl | assumption):
  MS X (.AugAssign (.Name x pos') op e pos) (BO i f m):=hI (DO hN hi hx he ho hf) <| by
 rintro E σ H ⟨r,mu,S,B,A,D,he,y,a,hc⟩;unfold BO at a;split at a
 ·rename_i d e;obtain⟨⟨h,g⟩,t,a⟩:=oB1.mp a;obtain⟨⟨q,F⟩,p,a⟩:=oB1.mp a;cases a;obtain⟨v,o,l⟩:=he.val i d e;refine⟨v,o,r,mu,S,h,g,he,y,t,λC H1 mu1 c u w=>?_⟩;exact⟨mu1,g,[d,h],q,_,.cons (l.ext c) (.cons u .nil),w,p,λz k b j n s=>hc _ k b (c.trans j) (((he.ext c).ext j).set n) s⟩
 ·cases a
end
noncomputable def qT (c:FT)(b:FS):Nat->FS
 |0=>λ_ _=>none
 | n+1=>fun r S=>(c r S).bind fun p=>if p.1=true then (b r p.2).bind fun q=>match q.1 with
   | .nx=>qT c b n q.2.1 q.2.2
   | .ct=>qT c b n q.2.1 q.2.2
   | .bk=>some (.nx,q.2.1,q.2.2)
   | .rt d=>some (.rt d,q.2.1,q.2.2)
  else some (.nx,r,p.2)
theorem C8{K:Fg1}{c:FT}{b:FS}{n:Nat}{E:jv}{σ:L2.St}{H:Hp}(h:xF K (qT c b n) E σ H):yf (yg K c) (xF K b) E σ H:=by
 refine⟨λm a H'=>xF K (qT c b m) E a H',⟨n,h⟩,λm t H1 q=>?_⟩;obtain⟨r,mu,S,f,A,D,u,I,i,hc⟩:=q;cases m with
 |zero=>cases i
 |succ m=>
  obtain⟨⟨k,w⟩,G,i⟩:=oB1.mp i;refine⟨r,mu,S,k,w,u,I,G,λH2 e o z=>?_⟩;cases k with
  |false=>
   cases i;exact hc t H2 e o (u.ext o) z
  |true=>
   obtain⟨⟨B,p,s⟩,F,i⟩:=oB1.mp i;have C:∀{a H' mu'},Ext e mu' H2 H'->fJ K H' mu' p a->Sim K H' mu' s->qT c b m p s=Z (f,A,D)->xF K (qT c b m) E a H':=λ{a H' mu'} x g l i=>by
    refine⟨p,mu',s,f,A,D,g,l,i,?_⟩;cases f with
    |nx=>exact λj H2 e y=>hc j H2 e ((o.trans x).trans y)
    |bk=>exact λj H2 e y=>hc j H2 e ((o.trans x).trans y)
    |ct=>exact λj H2 e y=>hc j H2 e ((o.trans x).trans y)
    |rt d=>exact λv H2 e y=>hc v H2 e ((o.trans x).trans y)
   refine⟨λa H'=>xF K (qT c b m) E a H',λa H' q=>⟨m,bE _,q⟩,r,e,w,B,p,s,u.ext o,z,F,?_⟩;cases B with
   |nx=>exact λa H' mu' x g l=>C x g l i
   |ct=>exact λa H' mu' x g l=>C x g l i
   |bk=>cases i;exact λa H' mu' x g l=>hc a H' mu' (o.trans x) g l
   |rt d=>cases i;exact λv H' mu' x p l=>hc v H' mu' (o.trans x) p l
theorem zk{X:Cx}{pos:Pos}(n:Nat){c:Expr}{a:List dQ}{t:FT}{b:FS}(hp:PassesOwn (model X.prog X.w) X.A X.env X.xe)(hc:MT X c t)(hb:AA X a b):MS X (.While c a [] pos) (qT t b n):=
 hI (yH hp hc hb) λ_ _ _=>C8
structure AB where
 items:List D
 chk:List (Nat×List D)
noncomputable def oD (S:Sto):List (Nat×List D)->Bool
 |[]=>true
 | (n,xs)::c=>(match S[n]? with
   |some (.lst ys)=>D.sames ys xs
   |_=>false)&&oD S c
def ItR(K:Fg1)(j:It)(am:AB)(mu:List dE)(H:Hp):Prop:=∀i H1 mu1 S1,q9 mu mu1 H H1->Sim K H1 mu1 S1->oD S1 am.chk=M ->
 (∀d,am.items[i]?=Z d->j.go i H1 /\ ∀x H2,j.yld i H1 x H2->Ext mu1 mu1 H1 H2/\Sim K H2 mu1 S1/\eJ K H2 mu1 d x)/\(am.items.length<=i->j.stop i H1)
abbrev FI:=Ev->Sto->Option (AB×Sto)
inductive HU (K:Fg1)(m:FI)(σ:L2.St)(H:Hp)(R:It->Hp->Prop):Prop
 |mk (r:Ev) (mu:List dE) (S:Sto) (am:AB) (S':Sto) (he:fJ K H mu r σ) (hs:Sim K H mu S) (hm:m r S=some (am,S')) (hc:∀j H' mu',Ext mu mu' H H'->ItR K j am mu' H'->Sim K H' mu' S'->R j H')
abbrev MI(X:Cx)(tg iter:Expr)(m:FI):Prop:=PI X tg iter (HU X.K m)
theorem mP{X:Cx}{tg e:Expr}{t t':TI}(h:PI X tg e t)(i:∀ σ H R,t' σ H R->t σ H R):PI X tg e t':=λag s σ H R I q=>h ag s σ H R I (i σ H R q)
theorem F8{X:Cx}{tg e:Expr}{t t':TI}(h:PI X tg e t)(h':PI X tg e t'):PI X tg e (fun σ H R=>t σ H R\/t' σ H R):=λag s σ H R I q=>q.elim (h ag s σ H R I) (h' ag s σ H R I)
noncomputable def kn (c:List (Nat×List D))(g:FG)(b:FS):List D->FS
 |[]=>λr S=>if oD S c=true then some (.nx,r,S)else none
 | d::ds=>fun r S=>if oD S c=true then (g d r S).bind fun p=>(b p.1 p.2).bind fun q=>match q.1 with
   | .nx=>kn c g b ds q.2.1 q.2.2
   | .ct=>kn c g b ds q.2.1 q.2.2
   | .bk=>some (.nx,q.2.1,q.2.2)
   | .rt v=>some (.rt v,q.2.1,q.2.2)
  else none
noncomputable def iW (m:FI)(g:FG)(b:FS):FS:=λr S=>(m r S).bind λp=>kn p.1.chk g b p.1.items r p.2
theorem lN{α:Type}{l:List α}{i:Nat}{d:α}{ds:List α}(h:l.drop i=d::ds):l[i]?=Z d/\l.drop (i+1)=ds:=by
 have h1:l[i]?=Z d:=by
  have:=congrArg (·[0]?) h;simpa using this
 refine⟨h1,?_⟩;rw[<- bF,h];rfl
inductive IL (K:Fg1)(mu1:List dE)(H1:Hp)(c:List (Nat×List D))(g:FG)(b:FS)(f:Fl)(r':Ev)(S':Sto)(L:List D)(σ':L2.St)(H':Hp):Prop
 |mk (r2:Ev) (mu2:List dE) (S2:Sto):Ext mu1 mu2 H1 H'->fJ K H' mu2 r2 σ'->Sim K H' mu2 S2->kn c g b L r2 S2=some (f,r',S')->IL K mu1 H1 c g b f r' S' L σ' H'
theorem BN{K:Fg1}{m:FI}{g:FG}{b:FS}{E:jv}{σ:L2.St}{H:Hp}(h:xF K (iW m g b) E σ H):FQ (HU K m) (Dm K g) (xF K b) E σ H:=by
 obtain⟨r,mu,S,f,Q,V,U,hs,I,hc⟩:=h;obtain⟨⟨am,ao⟩,e1,I⟩:=oB1.mp I;refine⟨r,mu,S,am,ao,U,hs,e1,λj H1 mu1 A N s1=>?_⟩;refine⟨λi k t H'=>k=(am.items.drop i).length/\IL K mu1 H1 am.chk g b f Q V (am.items.drop i) t H',⟨_,O,r,mu1,ao,.refl _ _,U.ext A,s1,I⟩,?_⟩;rintro i k D H2 ⟨rfl,r2,l,S2,o,s,C,a⟩;cases hl:am.items.drop i with
 |nil=>
  left;rw[hl]at a;rw[kn]at a;dsimp only at a;split at a
  ·rename_i ok;cases a;refine⟨(N i H2 l _ o.w C ok).2 (List.drop_eq_nil_iff.mp hl),?_⟩;exact hc D H2 l (A.trans o) s C
  ·cases a
 |cons d ds=>
  right;rw[hl]at a;obtain⟨hi,au⟩:=lN hl;rw[kn]at a;dsimp only at a;split at a
  ·rename_i ok;obtain⟨⟨P,R⟩,W,a⟩:=oB1.mp a;obtain⟨⟨T,L,B⟩,e4,a⟩:=oB1.mp a;obtain⟨go,yl⟩:=(N i H2 l _ o.w C ok).1 d hi;refine⟨go,IL K mu1 H1 am.chk g b f Q V ds,?_,λx X y=>?_⟩
   ·intro t H' aq;exact⟨ds.length,bE _,(congrArg List.length au).symm,au.symm ▸ aq⟩
   ·obtain⟨w,s3,q3⟩:=yl x X y;refine⟨r2,l,S2,d,P,R,s.ext w,s3,q3,W,fun σ4 H4 F z G wq=>?_⟩;refine⟨P,F,R,T,L,B,G,wq,e4,?_⟩;cases T with
    |nx=>exact λn u c p e q=>⟨L,c,B,(o.trans w).trans (z.trans p),e,q,a⟩
    |ct=>exact λn u c p e q=>⟨L,c,B,(o.trans w).trans (z.trans p),e,q,a⟩
    |bk=>cases a;exact λn u c p e q=>hc n u c ((A.trans o).trans (w.trans (z.trans p))) e q
    |rt v=>cases a;exact λv5 u c p r5 q=>hc v5 u c ((A.trans o).trans (w.trans (z.trans p))) r5 q
  ·cases a
theorem Ek{X:Cx}{pos:Pos}{tg iter:Expr}{a:List dQ}{m:FI}{g:FG}{b:FS}(hp:PassesOwn (model X.prog X.w) X.A X.env X.xe)(hc:X.calm=M)(hi:MI X tg iter m)(hg:MG X tg g)(hb:AA X a b)(hs:∀x,foldedSetIterable iter X.env x=pure x:=by intro _;rfl):MS X (.For tg iter a [] pos) (iW m g b):=hI (DN hp hc hi hg hb hs) λ_ _ _=>BN
noncomputable def hH(n:Nat)(ds:List D):Ev:=ds.map Z++aO (n-ds.length) Y
noncomputable def iF (n:Nat)(b:FS):FN:=λds S=>(b (hH n ds) S).bind λp=>match p.1 with
 | .rt d=>some (d,p.2.2)
 | .nx=>some (.non,p.2.2)
 |_=>none
theorem wz{K:Fg1}{H:Hp}{mu:List dE}{ds:List D}{vs:List V}(N:List Str)(h:d0 K H mu ds vs):fJ K H mu (hH N.length ds) (L2.iO N vs):=by
 refine⟨?_,λi d e=>?_⟩
 ·unfold hH L2.iO;rw[lA1,lA1,lM1,lM1,lR1,lR1,h.length]
 ·unfold hH at e;unfold L2.iO;by_cases hi:i<ds.length
  ·rw[gL1 (by rw[lM1];exact hi),gP1]at e;obtain⟨f,c,a⟩:=oM1.mp e;cases a;obtain⟨v,b,r⟩:=h.get c;refine⟨v,?_,r⟩;rw[gL1 (by rw[lM1,<- h.length];exact hi),gP1,b];rfl
  ·rw[gR1 (by rw[lM1];lia)]at e;have:=gM1 e;rw[List.mem_replicate]at this;cases this.2
theorem GS{P:dF}{w:dH}{K:Fg1}{mg:Str->Option dB}{base:dN}{x c:Str}{st:dQ}{f:dE}{fd:dP}{N ps:List Str}{k:Nat}{b:FS}(F:xJ K x c st f fd)(S:gg N ps (ec st))(i:∀(e:dB) (A:dG) (a:List Env) (s:dD) (H:Hp) (E:XK),fN k (A.deeper (envOfC c (ec st) s.heap.objs.size f e)) ->
   AA (lZ tw P w K mg base N c (ec st) f e A a s H E).nox (fq st) b):ju P w K mg base tw (k+1) f fd ps (AD K ps.length (iF N.length b)):=by
 refine xJ.ok F S (λvs H Q E h=>h.1) λe A a s H vs Q E n j=>⟨_,i e A a s H E n,?_⟩;obtain⟨_,mu,St,ds,d,t,h1,h2,g,l⟩:=j;unfold iF at g;obtain⟨⟨m,q,o⟩,p,g⟩:=oB1.mp g;refine⟨_,mu,St,m,q,o,wz N h1,h2,p,?_⟩;cases m with
 |nx=>cases g;exact λr H' mu' x u s=>l .non H' mu' x .non s
 |rt d=>cases g;exact l
 |bk=>cases g
 |ct=>cases g
noncomputable def i6(cells:List (Str×dE)):List (Str×NameKind)->List (Str×dE)->Option (List (Str×dE))
 |[],acc=>Z acc
 |(n,k)::r,acc=>if k == .free then(cells.lookup n).bind λc=>i6 cells r ((n,c)::acc)else i6 cells r acc
theorem uG{env:Env}(f:Str×NameKind->List (Str×dE)->Sem (ForInStep (List (Str×dE))))(hf:∀n k g,f (n,k) g=if k == .free then(do let c<-cellOf env n;pure (.yield ((n,c)::g)))else pure (.yield g)):
  ∀(a:List (Str×NameKind)) (acc b:List (Str×dE)),i6 env.cells a acc=Z b->forIn a acc f=(pure b:Sem (List (Str×dE)))
 |[],acc,b,h=>by cases h;rfl
 |(n,k)::r,acc,b,h=>by
  rw[bG,hf];unfold i6 at h;split at h
  ·rename_i d;rw[ak d];obtain⟨c,e,h⟩:=oB1.mp h;have:cellOf env n=pure c:=by unfold cellOf;rw[e]
   rw[this,pure_bind,pure_bind];exact uG f hf r _ b h
  ·rename_i d;rw[aj d,pure_bind];exact uG f hf r _ b h
theorem Am{scope:dR}{env:Env}{cl:List (Str×dE)}(h:i6 env.cells scope.names []=Z cl):closureFor scope env=pure cl:=by
 simp only[closureFor];rw[uG (env:=env) _ (λn k a=>by cases hk:k == NameKind.free<;>simp[hk]) scope.names [] cl h];rfl
theorem uF{a:List (Str×dE)}:∀{b:List (Str×NameKind)} {acc d:List (Str×dE)},i6 a b acc=Z d->(∀x c,acc.lookup x=Z c->a.lookup x=Z c) -> ∀x c,d.lookup x=Z c->a.lookup x=Z c
 |[],acc,d,h,ha=>by cases h;exact ha
 |(n,k)::r,acc,d,h,ha=>by
  unfold i6 at h;split at h
  ·obtain⟨c,e,h⟩:=oB1.mp h;refine uF h λx f q=>?_;rw[bH]at q;split at q
   ·rename_i g;cases q;rw[beq_iff_eq.mp g];exact e
   ·exact ha x f q
  ·exact uF h ha
theorem mm{b:List (Str×dE)}{x:Str}:∀{a:List (Str×NameKind)} {acc d:List (Str×dE)},i6 b a acc=Z d->(a.lookup x=Z .free\/(acc.lookup x).isSome=M)->(d.lookup x).isSome=M
 |[],acc,d,h,ha=>by
  cases h;rcases ha with q|q
  ·cases q
  ·exact q
 |(n,k)::r,acc,d,h,ha=>by
  unfold i6 at h;split at h
  ·obtain⟨c,e,h⟩:=oB1.mp h;refine mm h ?_;rcases ha with q|q
   ·rw[bH]at q;split at q
    ·rename_i g;right;rw[bH,g];rfl
    ·exact .inl q
   ·right;rw[bH];split
    ·rfl
    ·exact q
  ·rename_i f;refine mm h ?_;rcases ha with q|q
   ·rw[bH]at q;split at q
    ·cases q;exact absurd O f
    ·exact .inl q
   ·exact .inr q
theorem gf{x:Str}{c:dE}:∀{a:List (Str×NameKind)} {n:Nat} {acc:List (Str×dE)},(cellsFrom n a acc).lookup x=Z c->(n<=c/\(x,c)∈cellsFrom n a [])\/acc.lookup x=Z c
 |[],_,_,h=>.inr h
 |(y,k)::r,n,acc,h=>by
  unfold cellsFrom at h ⊢;split at h
  ·rename_i b;rw [if_pos b];have app:∀ (a:List (Str×NameKind)) (m:Nat) (acc:List (Str×dE)),cellsFrom m a acc=cellsFrom m a []++acc:=by
    intro a
    induction a with
    |nil=>intro m acc;rfl
    |cons p r ih=>
     obtain⟨z,q⟩:=p;intro m acc;unfold cellsFrom;split
     ·rw[ih _ ((z,m)::acc),ih _ [(z,m)],bI];rfl
     ·exact ih m acc
   rcases gf h with⟨h1,h2⟩|h1
   ·refine .inl ⟨by lia,?_⟩;rw[app];exact aH _ h2
   ·rw[bH]at h1;split at h1
    ·rename_i d;cases h1;refine .inl ⟨nR1 _,?_⟩;rw[app,beq_iff_eq.mp d];exact mA1 _ mS1
    ·exact .inr h1
  ·rename_i b;rw[aj b];exact gf h
theorem nZ{x:Str}{c:dE}{n:Nat}{acc:List (Str×dE)}{a:List (Str×NameKind)}(hx:a.lookup x=Z .cell)(h:(cellsFrom n a acc).lookup x=Z c):n<=c:=by
 have app:∀(a:List (Str×NameKind)) (m:Nat) (acc:List (Str×dE)),cellsFrom m a acc=cellsFrom m a []++acc:=by
  intro a
  induction a with
  |nil=>intro m acc;rfl
  |cons p r ih=>
   obtain⟨z,q⟩:=p;intro m acc;unfold cellsFrom;split
   ·rw[ih _ ((z,m)::acc),ih _ [(z,m)],bI];rfl
   ·exact ih m acc
 rw[app,List.lookup_append]at h;have q:=PySem.W.cellsFrom_some a n [] (.inl hx);obtain⟨b,e⟩:=aP.mp q;rw[e]at h;cases h;rcases gf e with⟨h1,_⟩|h1
 ·exact h1
 ·cases h1
theorem jz {ao:Model}{A:dG}{E:dB->dD->Prop}{s:dD}{scope:dR}{globals:dE}{c:List (Str×dE)}{qual:Str}{func:Option dE}{code:dB}{env:Env}{b:dE}{Q:Env->dD->Prop}
  (d:Q {scope,locals:=s.heap.objs.size,globals,cells:=cellsFrom (s.heap.objs.size+1) scope.names c,qual,func,code:=env.code,frame:=env.frame,builtins:=env.builtins}
   {s with heap:=pushCells (s.heap.push {cls:=.type "dict",data:=.dict #[]}) scope.names}):
  dM ao A (newFunctionEnv scope globals c [] qual func code (Z env) b) Q E s:=by
 simp only[newFunctionEnv,Option.isSome_some,if_true];refine wB1 (wpAny_alloc ?_);refine wB1 (wpAny_layCells _ (λname a cells=>by cases hkc:a == NameKind.cell<;>simp[hkc]) _ _ _ _ ?_);rw[show({s with heap:=s.heap.push {cls:=.type "dict",data:=.dict #[]}}:dD).heap.objs.size=s.heap.objs.size+1 from hZ1 ..];refine wB1 ?_;rw[List.forIn_nil];exact wP1 (wP1 d)
noncomputable def cxC(X:Cx)(scope:dR)(cl:List (Str×dE))(T:List Str)(keep:List Nat)(s:dD)(H:Hp)(fp:List dE):Cx where
 prog:=X.prog
 w:=X.w
 K:=X.K
 mg:=X.mg
 base:=X.base
 A:=X.A
 N:=T++keep.map λi=>X.N.getD i (Str.ofString "")
 s₀:=s
 H₀:=H
 env:=compEnvC scope (cellsFrom (s.heap.objs.size+1) scope.names cl) s.heap.objs.size X.env
 outer:=X.stack
 stack:=X.stack
 ex:=fp
 fn:=λx=>scope.names.lookup x == Z .cell
 calm:=X.calm
 pn:=[]
 xe:=λ_ _=>False
noncomputable def qp(k:Nat)(keep:List Nat)(σ:L2.St):L2.St:=aO k Y++keep.map λi=>(σ[i]?).join
theorem iX{env:Env}{x:Str}:∀ {a:List (Str×NameKind)},
  (a.map λ(n,k)=>if(k == NameKind.free&&env.scope.kind == .function&&env.kindOf n == Z .cell)then(n,NameKind.cell)else(n,k)).lookup x =
   (a.lookup x).map λk=>if(k == NameKind.free&&env.scope.kind == .function&&env.kindOf x == Z .cell)then NameKind.cell else k
 |[]=>rfl
 |(n,k)::r=>by
  show List.lookup x ((if(k == NameKind.free&&env.scope.kind == .function&&env.kindOf n == Z .cell)=M then(n,NameKind.cell)else(n,k))::_)=_;cases hx:x == n with
  |true=>
   have e:=beq_iff_eq.mp hx;subst e;by_cases hc:(k == NameKind.free&&env.scope.kind == .function&&env.kindOf x == Z .cell)=M
   ·rw[ak hc,bH,hx,bH,hx];simp only[oP1,ak hc]
   ·rw[aj hc,bH,hx,bH,hx];simp only[oP1,aj hc]
  |false=>
   have ih:=@iX env x r;by_cases hc:(k == NameKind.free&&env.scope.kind == .function&&env.kindOf n == Z .cell)=M
   ·rw[ak hc,bH,hx,bH,hx];exact ih
   ·rw[aj hc,bH,hx,bH,hx];exact ih
structure Fv (X:Cx)(scope:dR)(T:List Str)(keep:List Nat):Prop where
 kind:scope.kind = .function
 names:∀x∈scope.names,x.2 = .local->scope.names.lookup x.1=some .local
 free:∀i∈keep,∃x,X.N[i]?=some x/\scope.names.lookup x=some .free/\(X.env.kindOf x=some .cell\/X.env.kindOf x=some .free)/\(x,NameKind.cell)∉scope.names
theorem sx{X:Cx}{ag:List (dE×Obj)}{σ:L2.St}{H:Hp}{s:dD}{scope:dR}{t:List (Str×dE)}{T:List Str}{keep:List Nat}{D:List dE}(I:Inv X ag σ H s)(C:Fv X scope T keep)(A:i6 X.env.cells scope.names []=some t)(hf:∀b∈D,jt X ag H b)(am:∀b∈D,∃o,s.heap.get? b=some o):
  Inv (cxC X scope t T keep s H D) [] (qp T.length keep σ) H {s with heap:=pushCells (s.heap.push {cls:=.type "dict",data:=.dict #[]}) scope.names}:=by
 have kept:∀b o,s.heap.get? b=Z o->(pushCells (s.heap.push {cls:=.type "dict",data:=.dict #[]}) scope.names).get? b=Z o:=λb o e=>pushCells_keeps _ _ b o (hP1 _ e);have B:=cellsFrom_ok scope.names (s.heap.push {cls:=.type "dict",data:=.dict #[]}) (s.heap.objs.size+1) [] ⟨λ_ _ hm=>(nomatch hm),List.Pairwise.nil⟩ (by rw[hZ1];exact nR1 _);rw[hZ1]at B;have K:=uF A (λx c q=>by cases q)
 -- a cell of the block: its own or an elder one
 have d:∀x c,(cellsFrom (s.heap.objs.size+1) scope.names t).lookup x=Z c->(s.heap.objs.size+1<=c/\(x,c)∈cellsFrom (s.heap.objs.size+1) scope.names [])\/X.env.cells.lookup x=Z c:=λx c h=>by
  rcases gf h with h1|h1
  ·exact .inl h1
  ·exact .inr (K x c h1)
 have g:∀x c,X.env.cells.lookup x=Z c->c<s.heap.objs.size:=λx c e=>by
  obtain⟨v,z⟩:=I.cell x c e;exact z.lt
 have w:∀b∈D,b<s.heap.objs.size:=λb l=>by
  obtain⟨o,e⟩:=am b l;exact hL1 e
 have fst:∀b∈D,b∉frs X.stack:=λb l z=>by
  rcases aF.mp (I.stkSub b z)with q|q
  ·exact(hf b l).2.1 q
  ·exact(hf b l).2.2.1 q
 have kindOf:∀x,(cxC X scope t T keep s H D).env.kindOf x=(scope.names.lookup x).map λk=>if(k == NameKind.free&&X.env.scope.kind == .function&&X.env.kindOf x == Z .cell)then NameKind.cell else k:=λx=>iX
 refine⟨⟨I.ok.mod,C.kind,I.ok.glob,I.ok.blt,nR1 _,λx y c h1 h2=>?_,λx E=>?_,λx c h1 h2=>?_,I.ok.hd,I.ok.frames,.inl O,λb l=>⟨nN1 (w b l),λx c h z=>?_⟩,λb o e=>I.bs b o e,aC I.ok.bsz I.sz,λb o e l=>?_,fst,I.stack,I.stkFree⟩,
  rfl,I.bare,Un.kept kept,⟨λ_=>Y,(Heap.Ns.new s.heap (.type "dict")).keeps (pushCells_keeps _ _),λi x v h1 h2 h3=>?_⟩,λx c h=>?_,I.hok.fresh (nR1 _),λx c h=>?_,λp hp=>absurd (show p∈([]:List (dE×Obj))from hp) (by simp),I.hok.kept kept,?_⟩
 ·rcases d x c h1 with⟨a1,a2⟩|a1<;>rcases d y c h2 with⟨b1,b2⟩|b1
  ·exact name_of_addr B.apart a2 b2
  ·exact absurd (bJ (bK a1) (g y c b1)) (az _)
  ·exact absurd (bJ (bK b1) (g x c a1)) (az _)
  ·exact I.ok.inj x y c a1 b1
 ·have ao:scope.names.lookup x=some .cell\/scope.names.lookup x=some .free:=by
   rw[kindOf x]at E;cases e:scope.names.lookup x with
   |none=>rw[e]at E;rcases E with z|z<;>cases z
   |some k=>
    rw[e]at E;simp only[oP1]at E;cases k<;>simp_all
  have:((cellsFrom (s.heap.objs.size+1) scope.names t).lookup x).isSome=M:=by
   rcases ao with z|z
   ·exact PySem.W.cellsFrom_some _ _ _ (.inl z)
   ·exact PySem.W.cellsFrom_some _ _ _ (.inr (mm A (.inl z)))
  exact aP.mp this
 ·have f:scope.names.lookup x=Z .cell:=by simpa[cxC]using h1
  have:=nZ f h2;exact aC (aX _) this
 ·subst z;rcases d x c h with⟨a1,_⟩|a1
  ·exact absurd (bJ (bK a1) (w c l)) (az _)
  ·exact(hf c l).2.2.2.2.1 x c a1 O
 ·rcases(hf b l).2.2.2.1 with z|z
  ·exact I.ok.noex b o e z
  ·exact absurd (nL1 (hL1 e) (aC I.ok.bsz z)) (az _)
 ·-- a name of the block that has a value:one of the outer text's
  have hi:T.length<=i:=by
   refine a0 λhi=>?_;unfold qp at h2;rw[gL1 (by rw[lR1];exact hi),aR]at h2;split at h2<;>cases h2
  unfold qp at h2;rw[gR1 (by rw[lR1];exact hi),lR1,gP1]at h2;obtain⟨j,P,h2⟩:=oM1.mp h2;have f:X.N.getD j (Str.ofString "")=x:=by
   have f:(T++keep.map λi=>X.N.getD i (Str.ofString ""))[i]?=Z x:=h1;rw[gR1 hi,gP1,P]at f;exact Option.some.inj f
  obtain⟨y,Q,N,ky,aq⟩:=C.free j (gM1 P);have G:y=x:=by rw[<- f,bL,Q];rfl
  subst G;have F:σ[j]?=Z (Z v):=by
   cases e:σ[j]? with
   |none=>rw[e]at h2;cases h2
   |some o=>rw[e]at h2;cases h2;rfl
  obtain⟨m,hn,S⟩:=I.loc;obtain⟨u,ru,U⟩:=S j y v Q F (by
   rcases ky with z|z
   ·exact .inr (.inl z)
   ·exact .inr (.inr z))
  refine⟨u,ru,?_⟩;rcases U with⟨z,_⟩|⟨_,c,V,R⟩
  ·rcases ky with q|q<;>(rw[z]at q;cases q)
  ·right;refine⟨?_,c,?_,R.keeps kept⟩
   ·rw[kindOf,N];simp only[oP1];split
    ·exact .inl O
    ·exact .inr O
   ·obtain⟨c',wq⟩:=aP.mp (PySem.W.cellsFrom_some scope.names (s.heap.objs.size+1) t (.inr (mm A (.inl N))):((cellsFrom (s.heap.objs.size+1) scope.names t).lookup y).isSome=M);have au:(cellsFrom (s.heap.objs.size+1) scope.names t).lookup y=Z c':=wq;rcases d y c' au with⟨a1,a2⟩|a1
    ·-- an own cell of that name:its kind would be cell
     exfalso;have:∀(names:List (Str×NameKind)) (n:Nat),(y,c')∈cellsFrom n names []->(y,NameKind.cell)∈names:=by
      have app:∀(names:List (Str×NameKind)) (m:Nat) (acc:List (Str×dE)),cellsFrom m names acc=cellsFrom m names []++acc:=by
       intro names
       induction names with
       |nil=>intro m acc;rfl
       |cons p r ih=>
        obtain⟨z,q⟩:=p;intro m acc;unfold cellsFrom;split
        ·rw[ih _ ((z,m)::acc),ih _ [(z,m)],bI];rfl
        ·exact ih m acc
      intro names
      induction names with
      |nil=>intro n h;cases h
      |cons p r ih=>
       obtain⟨z,q⟩:=p;intro n h;unfold cellsFrom at h;split at h
       ·rename_i W;rw[app]at h;rcases aG.mp h with h|h
        ·exact mC1 _ (ih _ h)
        ·have:(y,c')=(z,n):=by simpa using h
         cases this;have L:q=NameKind.cell:=by simpa using W
         subst L;exact mS1
       ·exact mC1 _ (ih _ h)
     exact aq (this _ _ a2)
    ·rw[V]at a1;cases a1;exact au
 ·rcases d x c h with⟨a1,a2⟩|a1
  ·exact⟨_,(B.empty x c a2).1⟩
  ·obtain⟨v,z⟩:=I.cell x c a1;exact⟨v,z.keeps kept⟩
 ·rcases d x c h with⟨a1,a2⟩|a1
  ·exact I.hok.fresh (bK a1)
  ·exact I.freeC x c a1
 ·show(qp T.length keep σ).length=(T++keep.map λi=>X.N.getD i (Str.ofString "")).length;unfold qp;rw[lA1,lA1,lR1,lM1,lM1]
noncomputable def rj(p:Pos)(tg:Expr)(ifs:List Expr)(it:dB)(env:Env)(emit:Sem Unit)(c:Code):Sem PySem.Fin:=do
 standAt p
 match<-pyNext it with
 |none=>pure (.done .next)
 |some v=>
  letOwnedTupleGo tg it v
  assign tg env v
  let mut ok:=M
  for c in ifs do
   if ok then ok<-isTrue c env (eval c env)
  if ok then emit
  again c
noncomputable def o4(elt:Expr)(acc:dB)(env:Env):Sem Unit:=do let _<-call (.builtin "list.append") [acc,<- eval elt env]
theorem tV(elt tg iter:Expr)(ifs:List Expr)(scope:dR)(pos:Pos)(it acc:dB)(env:Env):
  compTurn (.ListComp elt [⟨tg,iter,ifs,0⟩] scope pos) 0 it acc env=rj iter.pos tg ifs it env (o4 elt acc env) (.compLoop (.ListComp elt [⟨tg,iter,ifs,0⟩] scope pos) 0 it acc env):=by rfl
def n4(X:Cx)(ifs:List Expr)(t:TT):Prop:=
 ∀(ag:List (dE×Obj)) (s:dD) (σ:L2.St) (H:Hp) (Q:Bool->Hp->Prop),Inv X ag σ H s->t σ H Q ->
  dM (model X.prog X.w) X.A (forIn ifs M λc r=>if r=M then do let ok<-isTrue c X.env (eval c X.env);pure (ForInStep.yield ok)else pure (ForInStep.yield r)) (TP X ag σ Q) X.xe s
theorem yM{X:Cx}:n4 X [] (fun σ H Q=>Q M H):=λag s σ H Q I h=>wpAny_tests_nil ⟨H,I,h⟩
theorem yL{X:Cx}{c:Expr}{t:TT}(h:PT X c t):n4 X [c] t:=λag s σ H Q I q=>wpAny_tests_one (h ag s σ H Q I q)
def PU(X:Cx)(m:Sem Unit)(t:TS):Prop:=
 ∀(ag:List (dE×Obj)) (s:dD) (σ:L2.St) (H:Hp) (E:jv),Inv X ag σ H s->t E σ H->dM (model X.prog X.w) X.A m (λ_ s'=>∃ σ' H',Inv X ag σ' H' s'/\E.nx σ' H') X.xe s
theorem pd{X:Cx}(hx:X.xe=fun _ _=>False)(hc:X.calm=true){elt:Expr}{c:List Comprehension}{scope:dR}{pos p:Pos}{d:Nat}{tg:Expr}{ifs:List Expr}{acc:dB}{emit:Sem Unit}{am:It}{z:List dE}{it:dE}{P:Nat->dN->Prop}{g:TG}{ti:TT}{tb:TS}(eq:compTurn (.ListComp elt c scope pos) d (.ref it) acc X.env=rj p tg ifs (.ref it) X.env emit (.compLoop (.ListComp elt c scope pos) d (.ref it) acc X.env))(T:tq X.prog X.w X.K tg am z it P)(hg:PG X tg g)(hi:n4 X ifs ti)(he:PU X emit tb){ag:List (dE×Obj)}{s:dD}{σ:L2.St}{H:Hp}{D:jv}(I:Inv X ag σ H s)(st:P 0 s.heap)(aq:∀b∈z,jt X ag H b)(h:∃W:Nat->Nat->L2.St->Hp->Prop,(∃m,W 0 m σ H) /\ ∀i m σ H,W i m σ H ->
   (am.stop i H/\D.nx σ H)\/(am.go i H /\ ∃N:L2.St->Hp->Prop,(∀a H',N a H' -> ∃au,au<m/\W (i+1) au a H') /\ ∀x H',am.yld i H x H'->g x σ H' λw H2=>ti w H2 λb v=>if b=M then tb {D with nx:=N} w v else N w v)):
  codeAny (model X.prog X.w) X.A (.compLoop (.ListComp elt c scope pos) d (.ref it) acc X.env) (λr s'=>match r with | .ok _=>∃a H',Inv X ag a H' s'/\D.nx a H' | .error _=>False) s:=by
 obtain⟨W,⟨m0,w0⟩,L⟩:=h;have k:∀{H':Hp},(∀b∈z,H' b=Y) -> ∀b∈z,jt X ag H' b:=λhn b l=>⟨hn b l,(aq b l).2⟩;refine codeAny_loop O (λn s'=>∃i a H',Inv X ag a H' s'/\P i s'.heap/\(∀b∈z,H' b=Y)/\W i n a H') ?_ m0 ⟨0,σ,H,I,st,λb l=>(aq b l).1,w0⟩;rintro n R ⟨i,f,v,I3,F,ao,w3⟩;show dM _ _ ((compTurn (.ListComp elt c scope pos) d (.ref it) acc X.env).onRaise (λx=>do noteFrame x X.env;theTreesLotGoes x)) _ _ R;refine wpAny_noted ?_;rw[eq];have C:∀{α:Type} {m:Sem α} {Q:α->dD->Prop} {s:dD} {E:dB->dD->Prop},dM (model X.prog X.w) X.A m Q X.xe s->dM (model X.prog X.w) X.A m Q E s:=λh=>by
  rw[hx]at h;exact wpAny_mono h (λ_ _ q=>q) λ_ _ q=>q.elim
 unfold rj;refine wB1 (wpAny_standAt (wB1 ?_));rcases L i n f v w3 with⟨K,qn⟩|⟨go,N,hN,step⟩
 ·refine C (fg (T.done X O O O hc i ag R f v X.xe I3 (k ao) F K) λr s4 ⟨S,I4⟩=>?_);subst S;exact wP1 ⟨f,v,I4,qn⟩
 ·refine C (fg (T.item X rfl rfl rfl hc i ag R f v X.xe I3 (k ao) F go) fun r s4 ⟨u,S,h4⟩=>?_);subst S;refine wB1 (C (fg h4 fun _ s5 ⟨x,H5,I5,r5,y5,y,V⟩=>?_));have U:=I5.pinned (k V) (T.obj _ _ y);refine wB1 (C (fg (hg _ s5 f H5 x u _ U r5 (step x H5 y5)) fun _ s6 ⟨G,H6,I6,q6⟩=>?_));refine wB1 (C (fg (hi _ s6 G H6 _ I6 q6) fun ok A ⟨t,B,wq⟩=>?_));have again':∀ {j:L2.St} {t:Hp} {A:dD},Inv X (ag++mO z s5.heap) j t A->N j t -> ∃ m,m<n /\ ∃ i a H',Inv X ag a H' A/\P i A.heap/\(∀ b∈z,H' b=none)/\W i m a H':=fun {j t A} B n7=>by
   obtain⟨au,hm,w7⟩:=hN j t n7;refine⟨au,hm,i+1,j,t,B.unpinned,T.keep _ _ _ y λb l o e=>(B.pin (b,o) (mA1 _ (mA1 _ (iC l e)))).1,λb l=>?_,w7⟩;obtain⟨o,e,d⟩:=T.obj _ _ y b l;exact(B.pin (b,o) (mA1 _ (mA1 _ (iC l e)))).2.1
  cases ok with
  |false=>exact wP1 ⟨O,again' B wq⟩
  |true=>exact wB1 (C (fg (he _ A G t _ B wq) λ_ s8 ⟨σ8,H8,I8,q8⟩=>wP1 ⟨O,again' I8 q8⟩))
noncomputable def ro(p:dE)(te:TE):TS:=λD σ H=>te σ H λx H1=>∃xs,H1 p=Z (.lst xs)/\xs.length<dL/\D.nx σ (upd H1 p (.lst (xs++[x])))
theorem pY{X:Cx}{elt:Expr}{te:TE}(h:PE X elt te)(p:dE):PU X (o4 elt (.ref p) X.env) (ro p te):=by
 intro ag s σ H E I q;unfold o4;refine wB1 (fg (h ag s σ H _ I q) λu b ⟨x,H1,c,e,xs,d,a,f⟩=>?_);refine wB1 (fg (oG ag b σ H1 (.ref p) [x] (.ref p) [u] (λ_ H'=>E.nx σ H') c O (.cons e .nil) ⟨p,xs,x,O,O,d,a,f⟩) λ_ j ⟨_,H2,g,_,i⟩=>?_);exact wP1 ⟨σ,H2,g,i⟩
noncomputable def CI(am:It)(g:TG)(ti:TT)(tb:TS):TS:=λD σ H=>∃W:Nat->Nat->L2.St->Hp->Prop,(∃m,W 0 m σ H) /\ ∀i m σ H,W i m σ H ->
 (am.stop i H/\D.nx σ H)\/(am.go i H /\ ∃N:L2.St->Hp->Prop,(∀ σ' H',N σ' H' -> ∃m',m'<m/\W (i+1) m' σ' H') /\ ∀x H',am.yld i H x H'->g x σ H' fun σ2 H2=>ti σ2 H2 λb H3=>if b=M then tb {D with nx:=N} σ2 H3 else N σ2 H3)
theorem Un.sameBut{fs ex:List dE}{H H':Hp}{h h1 h2:dN}{c:dE}(u:Un fs ex H H' h h1)(hs:Heap.SameBut c h1 h2)(hc:h.get? c=Y):Un fs ex H H' h h2:=by
 have ne:∀{b o},h.get? b=Z o->b≠c:=λe z=>by rw[z,hc]at e;cases e
 refine⟨λb o e n d a=>(hs.2 b (ne e)).trans (u.keep b o e n d a),λb o e n d a=>?_,u.free,λb o e a=>?_,u.tups,u.frzs,u.tbls⟩
 ·obtain⟨f,q⟩:=u.slot b o e n d a;exact⟨f,(hs.2 b (ne e)).trans q⟩
 ·obtain⟨o',q⟩:=u.there b o e a;exact⟨o',(hs.2 b (ne e)).trans q⟩
noncomputable def uZ(k:Nat)(keep:List Nat)(wi:TI)(g:TG)(ti:TT)(tb:dE->TS):TE:=fun σ H Q=>wi σ H λam H1=>∀p,H1 p=Y ->
 CI am g ti (tb p) {nx:=λ_ H'=>Q (.ref p) H',rt:=λ_ _=>False} (qp k keep σ) (upd H1 p (.lst []))
theorem vh{X:Cx}(hc:X.calm=true){elt tg iter:Expr}{ifs:List Expr}{rest:List Comprehension}{scope:dR}{pos:Pos}{T:List Str}{keep:List Nat}{k:List (Str×dE)}{L:TI}{g:TG}{ti:TT}{tb:dE->TS}{emit:dB->Env->Sem Unit}(eq:∀it l i,compTurn (.ListComp elt (⟨tg,iter,ifs,0⟩::rest) scope pos) 0 it l i=rj iter.pos tg ifs it i (emit l i) (.compLoop (.ListComp elt (⟨tg,iter,ifs,0⟩::rest) scope pos) 0 it l i))(C:Fv X scope T keep)(t:i6 X.env.cells scope.names []=some k)(hi:PI X tg iter L)(hb:∀s H d p,PG (cxC X scope k T keep s H d) tg g/\n4 (cxC X scope k T keep s H d) ifs ti/\PU (cxC X scope k T keep s H d) (emit (.ref p) (cxC X scope k T keep s H d).env) (tb p))(hs:∀x,foldedSetIterable iter X.env x=pure x:=by intro _;rfl):
  PE X (.ListComp elt (⟨tg,iter,ifs,0⟩::rest) scope pos) (uZ T.length keep L g ti tb):=by
 intro ag s σ H Q I h;rw[eval_ListComp];refine wpAny_comprehension_free (use:=Y) O hs (Am t) C.kind C.names ?_;refine fg (hi ag s σ H _ I h) λv s1 h1=>fg h1 λitv a h2=>?_;obtain⟨it,d,wq,am,H2,rfl,F,TT,y,G,P⟩:=h2;refine wO1 ?_;have K:Inv X ag σ (upd H2 a.heap.objs.size (.lst [])) {a with heap:=a.heap.push {cls:=.type "list",data:=.seq ([]:List dB).toArray}}:=F.lnew (t':=a.toks) .nil (bi _);have old:∀b∈d,∃o,a.heap.get? b=Z o:=λb hb=>by
  obtain⟨o,e,_⟩:=TT.obj 0 a.heap y b hb;exact⟨o,e⟩
 have D:∀b∈d,b≠a.heap.objs.size:=λb hb z=>by
  obtain⟨o,e⟩:=old b hb;have:=hL1 e;rw[z]at this;exact az _ this
 have B:∀b∈d,jt X ag (upd H2 a.heap.objs.size (.lst [])) b:=λb hb=>⟨by rw[dY (D b hb)];exact(G b hb).1,(G b hb).2⟩;have o3:∀b∈d,∃o,({a with heap:=a.heap.push {cls:=.type "list",data:=.seq ([]:List dB).toArray}}:dD).heap.get? b=Z o:=λb hb=>by
  obtain⟨o,e⟩:=old b hb;exact⟨o,hP1 _ e⟩
 have A:=sx K C t B o3;obtain⟨W,N,aq⟩:=hb {a with heap:=a.heap.push {cls:=.type "list",data:=.seq ([]:List dB).toArray}} (upd H2 a.heap.objs.size (.lst [])) d a.heap.objs.size;refine jz ?_;have V:∀b∈d,jt (cxC X scope k T keep {a with heap:=a.heap.push {cls:=.type "list",data:=.seq ([]:List dB).toArray}} (upd H2 a.heap.objs.size (.lst [])) d) [] (upd H2 a.heap.objs.size (.lst [])) b:=λb hb=>
  ⟨(B b hb).1,(A.ok.exf b hb).1,A.ok.exfs b hb,.inl hb,(A.ok.exf b hb).2,λp hp=>absurd (show p∈([]:List (dE×Obj))from hp) (by simp)⟩
 have w:wq 0 (pushCells ((a.heap.push {cls:=.type "list",data:=.seq ([]:List dB).toArray}).push {cls:=.type "dict",data:=.dict #[]}) scope.names):=
  TT.keep 0 a.heap _ y λb hb o e=>pushCells_keeps scope.names _ b o (hP1 _ (hP1 _ e))
 have j:=pd (X:=cxC X scope k T keep {a with heap:=a.heap.push {cls:=.type "list",data:=.seq ([]:List dB).toArray}} (upd H2 a.heap.objs.size (.lst [])) d) O hc (eq (.ref it) (.ref a.heap.objs.size) _) TT W N aq A w V
  (P a.heap.objs.size (F.hok.fresh (nR1 _)))
 refine codeAny_mono (codeAny_compStart_list j (TT.self X.A 0 _ _ _ w j)) λr s' ao=>?_;cases r with
 |error e=>exact ao.elim
 |ok f=>
  obtain⟨R,H',n,au⟩:=ao;obtain⟨m,S,_⟩:=id n.loc;refine⟨m,S,λh' u=>⟨.ref a.heap.objs.size,H',?_,O,au⟩⟩;refine K.call' (s':={s' with heap:=h'}) (ch:=d) n.os (Un.sameBut n.base u (Heap.get?_none_of_le (nR1 _))) (λb U e=>?_) n.bare λb hb=>(B b hb).2.2.2 |> λz=>⟨z.1,(B b hb).2.1,z.2.1,z.2.2⟩
  refine(n.hok b U e).stay (λc w' hc q=>(u.2 c ?_).trans q) (λ_ q=>q) λ_ _ q=>q;rintro rfl;have E:=n.free;rcases hc with rfl|hc
  ·exact nomatch E.symm.trans e
  ·exact nomatch E.symm.trans hc
section
variable{K:Fg1}{H:Hp}{mu:List dE}{S:Sto}{p:dE}{u:HO}{o:Ob}{n:Nat}
theorem Rd.ne{a:dE}{x:HO}(h:H p=Y)(q:Rd H a x):a≠p:=by
 rintro rfl;rcases q with q|⟨_,q⟩<;>(rw[h]at q;cases q)
theorem Ext.fresh(hp:H p=Y):Ext mu mu H (upd H p u) where
 pre:=bn
 old:=λa o h _=>by rw[dY (eD h hp)];exact h
 tup:=λa xs h=>by
  have ne:=Rd.ne hp h;rcases h with h|⟨b,h⟩
  ·exact .inl (by rw[dY ne];exact h)
  ·exact .inr ⟨b,by rw[dY ne];exact h⟩
 frz:=λa o x h=>by rw[dY (eD h hp)];exact h
 new:=λ_ h=>.inl h
theorem Ext.new_(hp:H p=Y):Ext mu (mu++[p]) H (upd H p u) where
 pre:=bw _ _
 old:=(Ext.fresh (mu:=mu) hp).old
 tup:=(Ext.fresh (mu:=mu) hp).tup
 frz:=(Ext.fresh (mu:=mu) hp).frz
 new:=λa h=>by
  rcases aG.mp h with h|h
  ·exact .inl h
  ·have:a=p:=by simpa using h
   subst this;exact .inr hp
theorem Sim.fresh(s:Sim K H mu S)(hp:H p=Y):Sim K (upd H p u) mu S:=
 ⟨s.len,s.nd,λk o a h1 h2=>(s.ob k o a h1 h2).keep (Ext.fresh hp) λb e=>by rw[dY (eD e hp)];exact e⟩
theorem Sim.notin(s:Sim K H mu S)(hp:H p=Y):p∉mu:=λh=>by
 obtain⟨o,e⟩:=s.here h;rw[hp]at e;cases e
theorem jJ.more{a:dE}{mu':List dE}{H':Hp}(e:Ext mu mu' H H')(h:∀o,H a=Z o->H' a=Z o):∀{o:Ob},jJ K H mu a o->jJ K H' mu' a o
 | .lst _,⟨vs,q,r⟩=>⟨vs,h _ q,r.ext e⟩
 | .dct _,⟨ws,q,r⟩=>⟨ws,h _ q,KR.ext e r⟩
 | .dcT _,⟨ws,q,r,l⟩=>⟨ws,h _ q,KT.ext e r,l⟩
 | .iset _,q=>⟨h _ q.1,q.2⟩
 | .dcF _,⟨ws,⟨o,u,c,b⟩,r,l⟩=>⟨ws,⟨o,u,h _ c,b⟩,KT.ext e r,l⟩
 | .tst _,⟨ws,q,r⟩=>⟨ws,h _ q,KT.ext e r⟩
theorem Sim.new(s:Sim K H mu S)(hp:H p=Y)(ho:jJ K (upd H p u) (mu++[p]) p o):Sim K (upd H p u) (mu++[p]) (S++[o]):=by
 refine⟨by rw[lA1,lA1,s.len];rfl,?_,λk o' a h1 h2=>?_⟩
 ·rw[bB];refine⟨s.nd,by simp,λa f b g e=>?_⟩;have:b=p:=by simpa using g
  subst this;subst e;exact s.notin hp f
 ·by_cases d:k<S.length
  ·rw[gL1 d]at h1;rw[gL1 (by rw[s.len];exact d)]at h2;exact(s.ob k o' a h1 h2).more (Ext.new_ hp) λh e=>by rw[dY (eD e hp)];exact e
  ·have c:k=S.length:=by
    have:=(gE1.mp h1).1;rw[lA1]at this;simp at this;lia
   subst c;rw[gR1 (nR1 _)]at h1;rw[<- s.len,gR1 (nR1 _)]at h2;simp at h1 h2;subst h1;subst h2;exact ho
theorem Ext.put{x:HO}(hp:H p=Z x)(hm:Mut (Z x))(b:p∈mu):Ext mu mu H (upd H p u) where
 pre:=bn
 old:=λa o h n=>by rw[dY (λe=>n (by rw[e];exact b))];exact h
 tup:=λa xs h=>by
  have ne:a≠p:=by
   rintro rfl;rcases h with h|⟨_,h⟩<;>(rw[hp]at h;cases h;exact hm)
  rcases h with h|⟨c,h⟩
  ·exact .inl (by rw[dY ne];exact h)
  ·exact .inr ⟨c,by rw[dY ne];exact h⟩
 frz:=λa o y h=>by
  rw[dY (λe=>?_)]
  ·exact h
  ·subst e;rw[hp]at h;cases h;exact hm
 new:=λ_ h=>.inl h
theorem Sim.put(s:Sim K H mu S){x:HO}(hn:mu[n]?=Z p)(hp:H p=Z x)(hm:Mut (Z x))(ho:jJ K (upd H p u) mu p o):Sim K (upd H p u) mu (S.set n o):=by
 refine⟨by rw[aW];exact s.len,s.nd,λk o' a h1 h2=>?_⟩;by_cases b:n=k
 ·subst b;have d:n<S.length:=by
   have:=(gE1.mp h1).1
   rwa [aW]at this
  rw[aI d]at h1;cases h1;rw[hn]at h2;cases h2;exact ho
 ·rw [gS1 b] at h1;have ne:a≠p:=fun e=>by
   subst e;obtain⟨h,f⟩:=gE1.mp hn;obtain⟨i,c⟩:=gE1.mp h2;exact b ((List.getElem_inj s.nd).mp (f.trans c.symm))
  exact(s.ob k o' a h1 h2).keep (Ext.put hp hm (gM1 hn)) λg e=>by rw[dY ne];exact e
theorem Sim.lst(s:Sim K H mu S){ds:List D}{a:dE}(h:S[n]?=Z (.lst ds))(hn:mu[n]?=Z a):∃vs,H a=Z (.lst vs)/\d0 K H mu ds vs:=s.ob n _ a h hn
theorem Sim.dcT(s:Sim K H mu S){ks:List (TK×D)}{a:dE}(h:S[n]?=Z (.dcT ks))(hn:mu[n]?=Z a):∃ws,H a=Z (.ext (gr a ws))/\KT K H mu ks ws/\ws.length<=dL:=s.ob n _ a h hn
theorem Sim.dct(s:Sim K H mu S){ks:List (Key×D)}{a:dE}(h:S[n]?=Z (.dct ks))(hn:mu[n]?=Z a):∃ws,H a=Z (.dK ws)/\KR K H mu ks ws:=s.ob n _ a h hn
theorem Sim.newL(s:Sim K H mu S){ds:List D}{vs:List V}(r:d0 K H mu ds vs)(hp:H p=Y):Sim K (upd H p (.lst vs)) (mu++[p]) (S++[.lst ds]):=s.new hp ⟨vs,d4,r.ext (Ext.new_ hp)⟩
theorem Sim.putL(s:Sim K H mu S){ds:List D}{vs ws:List V}(r:d0 K H mu ds vs)(hn:mu[n]?=Z p)(hp:H p=Z (.lst ws)):Sim K (upd H p (.lst vs)) mu (S.set n (.lst ds)):=
 s.put hn hp trivial ⟨vs,d4,r.ext (Ext.put hp trivial (gM1 hn))⟩
end
theorem fZ{mu:List dE}{S:Sto}(h:mu.length=S.length)(p:dE):(mu++[p])[S.length]?=Z p:=by
 rw[<- h,gR1 (nR1 _)];simp
noncomputable def eQ (a:FA):FE:=λr S=>(a r S).bind λp=>if p.1.length<=dL then some (.tup p.1,p.2)else none
noncomputable def jE (a:FA):FE:=λr S=>(a r S).bind λp=>if p.1.length<=dL then some (.ref p.2.length,p.2++[.lst p.1])else none
section
variable{X:Cx}{es:List Expr}{pos:Pos}{a:FA}
theorem Ex{x1}(h:MA X es a):ME X (.Tuple es x1 pos) (eQ a):=eU (DW h) <| by
 rintro σ H Q ⟨r,mu,S,d,m,j,k,b,hc⟩;obtain⟨⟨ds,l⟩,i,b⟩:=oB1.mp b;dsimp only at b;split at b
 ·rename_i f;cases b;refine⟨r,mu,S,ds,_,j,k,i,λvs H1 mu1 x1 e g=>⟨by rw[<- e.length];exact f,λp c=>?_⟩⟩;exact hc _ _ mu1 (x1.trans (Ext.fresh c)) (.tup (jn.of d4) (e.ext (Ext.fresh c))) (g.fresh c)
 ·cases b
theorem EB(h:MA X es a):ME X (.List es pos) (jE a):=eU (DZ h) <| by
 rintro σ H Q ⟨r,mu,S,d,n,k,l,b,hc⟩;obtain⟨⟨ds,m⟩,i,b⟩:=oB1.mp b;dsimp only at b;split at b
 ·rename_i g;cases b;refine⟨r,mu,S,ds,_,k,l,i,λvs H1 mu1 j e c=>⟨by rw[<- e.length];exact g,λp f=>?_⟩⟩;exact hc _ _ (mu1++[p]) (j.trans (Ext.new_ f)) (.ref (fZ c.len p)) (c.newL e f)
 ·cases b
end
noncomputable def nT(k:Nat)(keep:List Nat)(r:Ev):Ev:=aO k Y++keep.map λi=>(r[i]?).join
noncomputable def gu:FT:=λ_ S=>Z (M,S)
theorem CQ{K:Fg1}{H:Hp}{mu:List dE}{r:Ev}{σ:L2.St}(k:Nat)(keep:List Nat)(h:fJ K H mu r σ):fJ K H mu (nT k keep r) (qp k keep σ):=by
 refine⟨by unfold nT qp;rw[lA1,lA1,lM1,lM1,lR1,lR1],λi d e=>?_⟩;unfold nT at e;unfold qp;by_cases hi:i<k
 ·rw[gL1 (by rw[lR1];exact hi),aR]at e;split at e<;>cases e
 ·rw [gR1 (by rw [lR1];lia),lR1,gP1] at e;rw [gR1 (by rw [lR1];lia),lR1,gP1];obtain ⟨j,b,e⟩:=oM1.mp e;rw [b];have f:r[j]? = some (some d):=by
   cases q:r[j]? with
   |none=>rw[q]at e;cases e
   |some o=>rw[q]at e;cases e;rfl
  obtain⟨v,c,a⟩:=h.val j d f;exact⟨v,by rw[oP1,c];rfl,a⟩
section
variable{X:Cx}
theorem yN{ifs:List Expr}{t t':L2.TT}(h:n4 X ifs t)(i:∀ σ H Q,t' σ H Q->t σ H Q):n4 X ifs t':=λag s σ H Q I q=>h ag s σ H Q I (i σ H Q q)
theorem BE:n4 X [] (yg X.K gu):=yN yM fun σ H Q ⟨r,mu,S,b,e,d,c,a,hc⟩=>by cases a;exact hc H mu (.refl _ _) c
theorem BD{c:Expr}{t:FT}(h:MT X c t):n4 X [c] (yg X.K t):=yL h
end
open PySem.AutoSeq1 (wpAny_loadPart')
def SIt(b:Bool)(h:dN)(it a:dE)(i:Nat):Prop:=match b with
 |true=>h.IsListIter it a i
 |false=>h.IsTupleIter it a i
def SCo(b:Bool)(h:dN)(a:dE)(xs:Array dB):Prop:=match b with
 |true=>h.IsList a xs
 |false=>h.IsTuple a xs
theorem SIt.to{b:Bool}{h h':dN}{it a:dE}{i:Nat}(x:SIt b h it a i)(k:∀o,h.get? it=Z o->h'.get? it=Z o):SIt b h' it a i:=by
 cases b<;>(obtain⟨o,e,r⟩:=x;exact⟨o,k o e,r⟩)
theorem SIt.rec_{b:Bool}{h:dN}{it a:dE}{i:Nat}(x:SIt b h it a i):∃o,h.get? it=Z o /\ ∀v,o.data ≠ .cell v:=by
 cases b<;>(obtain⟨o,e,c,d⟩:=x;exact⟨o,e,λv z=>by rw[d]at z;cases z⟩)
theorem SCo.to{b:Bool}{h h':dN}{a:dE}{xs:Array dB}(x:SCo b h a xs)(k:∀o,h.get? a=Z o->h'.get? a=Z o):SCo b h' a xs:=by
 cases b<;>(obtain⟨o,e,r⟩:=x;exact⟨o,k o e,r⟩)
noncomputable def gl(b:Bool)(a:dE):Obj:=match b with
 |true=>{cls:=.type "list_iterator",data:=.fields #[.ref a,.int 0 0]}
 |false=>{cls:=.type "tuple_iterator",data:=.fields #[.ref a,.int 0 0]}
section
variable{prog:dF}{w:dH}{A:dG}{E:dB->dD->Prop}{s:dD}
theorem pQ{b:Bool}{h:dN}{it a:dE}(e:h.get? it=Z (gl b a)):SIt b h it a 0:=by
 cases b<;>exact⟨_,e,O,O⟩
theorem jT{b:Bool}{a:dE}{xs:Array dB}{Q:dB->dD->Prop}(x:SCo b s.heap a xs)(h:Q (.ref s.heap.objs.size) {s with heap:=s.heap.push (gl b a)}):dM (model prog w) A (pyIter (.ref a)) Q E s:=by
 cases b
 ·exact wpAny_pyIter_tuple x h
 ·exact wpAny_pyIter_list x h
theorem zg{it l:dE}{i:Nat}{xs:Array dB}{x:dB}{Q:dB->dD->Prop}(ti:s.heap.IsTupleIter it l i)(tl:s.heap.IsTuple l xs)(hx:xs[i]? = Z x)(e:∀h',h'.IsTupleIter it l (i+1)->Heap.SameBut it s.heap h'->Q x {s with heap:=h'}):dM (model prog w) A (Builtin.SmallTypes.nextOf (.ref it)) Q E s:=by
 obtain⟨o,b,hc,a⟩:=id ti;obtain⟨f,d,_,g,c⟩:=tl;unfold Builtin.SmallTypes.nextOf;refine wB1 (wpAny_callSpecial?_slot (name:=Str.ofString "__next__") ti.typeIs F.slot_tuple_iterator_next (wE1 F.slot_tuple_iterator_next ti.typeIs F.entry_tuple_iterator_next ?_ (F.args_tuple_iterator_next_1 _)));show dM _ _ (field (.ref it) 0 >>= _) _ _ s;refine wB1 (wpAny_field b a (x:=.ref l) O ?_);show dM _ _ (if(Value.ref l == Value.none)=M then _ else _) _ _ s;rw[aj (show¬ ((Value.ref l == Value.none)=M)from aK)];show dM _ _ (field (.ref it) 1 >>= _) _ _ s;refine wB1 (wpAny_field b a (x:=.int i 0) O ?_);show dM _ _ (seqItems? (.ref l) >>= _) _ _ s;refine wB1 (wpAny_seqItems d c ?_);simp only[Int.toNat_natCast,hx];refine wB1 (wpAny_setField b a (by simp) (wP1 ⟨x,O,wP1 (e _ ⟨_,hW1 _ b (Obj.isFreed_of_fields (Obj.data_mapFields a _)),(Obj.cls_mapFields ..).trans hc,by rw[Obj.data_mapFields a];simp[rawInt]⟩ (Heap.SameBut.update ..))⟩))
theorem qh {it l:dE}{i:Nat}{xs:Array dB}{Q:dB->dD->Prop}(g:A.handled=none)(ti:s.heap.IsTupleIter it l i)(tl:s.heap.IsTuple l xs)(hx:xs[i]? = none)
  (h:∀h' e,Heap.ExtBut it s.heap h'->(∃o,h'.get? e=Z o/\o.cls = .type "StopIteration")->E (.ref e) {s with heap:=h'}):dM (model prog w) A (Builtin.SmallTypes.nextOf (.ref it)) Q E s:=by
 obtain⟨o,b,hc,d⟩:=id ti;obtain⟨j,f,_,k,c⟩:=tl;unfold Builtin.SmallTypes.nextOf;refine wB1 (wpAny_callSpecial?_slot (name:=Str.ofString "__next__") ti.typeIs F.slot_tuple_iterator_next (wE1 F.slot_tuple_iterator_next ti.typeIs F.entry_tuple_iterator_next ?_ (F.args_tuple_iterator_next_1 _)));show dM _ _ (field (.ref it) 0 >>= _) _ _ s;refine wB1 (wpAny_field b d (x:=.ref l) O ?_);show dM _ _ (if(Value.ref l == Value.none)=M then _ else _) _ _ s;rw[aj (show¬ ((Value.ref l == Value.none)=M)from aK)];show dM _ _ (field (.ref it) 1 >>= _) _ _ s;refine wB1 (wpAny_field b d (x:=.int i 0) O ?_);show dM _ _ (seqItems? (.ref l) >>= _) _ _ s;refine wB1 (wpAny_seqItems f c ?_);simp only[Int.toNat_natCast,hx];refine wB1 (wpAny_rule (wB1 (wpAny_setField b d (by simp) ?_)));show dM _ _ (newExc (.type "StopIteration") [] >>= _) _ _ _;refine wB1 ?_;simp only[newExc,newTuple];refine wB1 (wO1 ?_ (by size_fits));refine wB1 (m:=firstArgMember _ _) (wpAny_of_eq (a:=Value.none) (by first|rfl|(simp only[firstArgMember];rfl)) ?_);refine wO1 ?_ (by size_fits);simp only[raiseNew];refine wB1 (wpAny_handled ?_)
 first|rw[show A.in1.handled=Y from g] | rw[g]
 refine wB1 (wP1 (wpAny_throw ?_));exact h _ _ (((Heap.SameBut.update ..).extBut.push _).push _) ⟨_,hS1 _ O,O⟩
theorem kf{b:Bool}{it l:dE}{i:Nat}{xs:Array dB}{x:dB}{Q:dB->dD->Prop}(ti:SIt b s.heap it l i)(tl:SCo b s.heap l xs)(hx:xs[i]? = Z x)(a:∀h',SIt b h' it l (i+1)->Heap.SameBut it s.heap h'->Q x {s with heap:=h'}):dM (model prog w) A (Builtin.SmallTypes.nextOf (.ref it)) Q E s:=by
 cases b
 ·exact zg ti tl hx a
 ·exact wpAny_nextOf_list_item ti tl hx a
theorem iA {b:Bool}{it l:dE}{i:Nat}{xs:Array dB}{Q:dB->dD->Prop}(a:A.handled=none)(ti:SIt b s.heap it l i)(tl:SCo b s.heap l xs)(hx:xs[i]? = none)
  (c:∀h' e,Heap.ExtBut it s.heap h'->(∃o,h'.get? e=Z o/\o.cls = .type "StopIteration")->E (.ref e) {s with heap:=h'}):dM (model prog w) A (Builtin.SmallTypes.nextOf (.ref it)) Q E s:=by
 cases b
 ·exact qh a ti tl hx c
 ·exact wpAny_nextOf_list_end a ti tl hx c
theorem Ae{b:Bool}(l:dE)(xs:Array dB):
  Meets (Builtin.«enumerate.__new__» ⟨[.type "enumerate",.ref l],[]⟩) (λ_ R s=>SCo b s.heap l xs /\
   R (.ok (.ret (.ref (s.heap.push (gl b l)).objs.size))) {s with heap:=(s.heap.push (gl b l)).push {cls:=.type "enumerate",data:=.fields #[.none,.bool J,.ref s.heap.objs.size,rawInt 0,.none,.none]}}):=
 .of_wp λprog w A R s h=>by
  obtain⟨k,g,d,tk,m⟩:=s;obtain⟨f,h⟩:=h;have i:=sub_enumerate
  have j:SCo b (Shared.heap ⟨k,g,d,tk,m⟩) l xs:=f;obtain⟨n,a⟩:∃o,k.get? l=some o:=by cases b<;>(obtain⟨o,e,_⟩:=f;exact⟨o,e⟩)
  wp_walk using wpAny_loadPart' a
  refine wpAny_stack_any λst=>wP1 ?_;split
  ·rename_i c _ _ _ _ _;cases(c == Value.type "enumerate")<;>(wp_walk using wpAny_loadPart' a,jT j;exact⟨_,O,h⟩)
  ·wp_walk using wpAny_loadPart' a,jT j
   exact⟨_,O,h⟩
theorem xc{b:Bool}{l:dE}{xs:Array dB}{Q:dB->dD->Prop}(f:SCo b s.heap l xs)(h:∀h',IsEnum h' (s.heap.objs.size+1) s.heap.objs.size 0 .none->SIt b h' s.heap.objs.size l 0->h'.objs.size=s.heap.objs.size+2->(∀b o,s.heap.get? b=some o->h'.get? b=some o)->Q (.ref (s.heap.objs.size+1)) {s with heap:=h'}):
  dM (model prog w) A (call (.type "enumerate") [.ref l]) Q E s:=by
 refine callType_new F.called_enumerate (by decide) (F.typeCall_enumerate_1 _) (F.newCall_enumerate_1 _) (λd=>F.args_object_init_2 d _) F.entry_enumerate_new (Ae (b:=b) l xs) ⟨f,?_⟩;have a:(s.heap.push (gl b l)).objs.size=s.heap.objs.size+1:=hZ1 ..
 show _/\_;rw[a];have e:IsEnum ((s.heap.push (gl b l)).push {cls:=.type "enumerate",data:=.fields #[.none,.bool J,.ref s.heap.objs.size,rawInt 0,.none,.none]}) (s.heap.objs.size+1) s.heap.objs.size 0 .none:=by
  have q:=hS1 (s.heap.push (gl b l)) (o:={cls:=.type "enumerate",data:=.fields #[.none,.bool J,.ref s.heap.objs.size,rawInt 0,.none,.none]}) O;rw[a]at q;exact q
 have hi:(s.heap.push (gl b l)).get? s.heap.objs.size=Z (gl b l):=hS1 _ (by cases b<;>rfl);refine⟨⟨_,e,O⟩,h _ e (pQ (hP1 _ hi)) (by rw[hZ1,a]) λc o x=>hP1 _ (hP1 _ x)⟩
theorem xb {b:Bool}{e it l:dE}{i:Nat}{xs:Array dB}{x old:dB}{Q:Option dB->dD->Prop}(he:IsEnum s.heap e it i old)(ti:SIt b s.heap it l i)(tl:SCo b s.heap l xs)(hx:xs[i]? = some x)(m:e≠it)
  (U:∀h',IsEnumOut h' e it ((i:Int)+1) x s.heap.objs.size->SIt b h' it l (i+1)->h'.get? s.heap.objs.size=Z {cls:=.type "tuple",data:=.seq #[.int i s.toks,x]}->h'.objs.size=s.heap.objs.size+1 ->
   (∀b o,b≠e->b≠it->s.heap.get? b=Z o->h'.get? b=Z o)->Q (Z (.ref s.heap.objs.size)) {s with heap:=h',toks:=s.toks+1}):dM (model prog w) A (pyNext (.ref e)) Q E s:=by
 have T:s.TypeIs (.ref e) "enumerate":=⟨_,he,O⟩;unfold pyNext;refine wB1 (wpAny_attempt (wpAny_callSpecial?_slot (name:=Str.ofString "__next__") T F.slot_enumerate_next (wE1 F.slot_enumerate_next T F.entry_enumerate_next ?_ (F.args_enumerate_next_1 _))));obtain⟨r,g,d,tk,t⟩:=s;show dM _ _ (field (.ref e) 2 >>= _) _ _ _;refine wB1 (wpAny_field he O (x:=.ref it) O ?_);refine wB1 (kf ti tl hx λh1 H G=>?_);replace G:Heap.SameBut it r h1:=G;have k:IsEnum h1 e it i old:=(G.2 e m).trans he;show dM _ _ (field (.ref e) 3 >>= _) _ _ ⟨h1,g,d,tk,t⟩;refine wB1 (wpAny_field k O (x:=rawInt i) O ?_);show dM _ _ (field (.ref e) 4 >>= _) _ _ ⟨h1,g,d,tk,t⟩;refine wB1 (wpAny_field k O (x:=.none) O ?_);show dM _ _ (mkInt i >>= _) _ _ ⟨h1,g,d,tk,t⟩;refine wB1 (wpAny_mkInt ?_);show dM _ _ (setField (.ref e) 3 (rawInt ((i:Int)+1)) >>= _) _ _ ⟨h1,g,d,tk+1,t⟩;refine wB1 (wS1 k (by simp) λh2 h C=>?_);replace C:Heap.SameBut e h1 h2:=C;replace h:IsEnum h2 e it ((i:Int)+1) old:=h;show dM _ _ (setField (.ref e) 4 .none >>= _) _ _ ⟨h2,g,d,tk+1,t⟩;refine wB1 (wS1 h (by simp) λh3 n D=>?_);replace D:Heap.SameBut e h2 h3:=D;replace n:IsEnum h3 e it ((i:Int)+1) old:=n;show dM _ _ (newTuple [.int i tk,x] >>= _) _ _ ⟨h3,g,d,tk+1,t⟩;refine wB1 (wpAny_newTuple ?_);have p:IsEnum (h3.push {cls:=.type "tuple",data:=.seq #[.int i tk,x]}) e it ((i:Int)+1) old:=hP1 _ n;generalize f:h3.push {cls:=.type "tuple",data:=.seq #[.int i tk,x]}=h4 at p;have j:h3.objs.size=r.objs.size:=by rw[D.1,C.1,G.1]
 have L:e<r.objs.size:=hL1 he;have au:h4.get? r.objs.size=Z {cls:=.type "tuple",data:=.seq #[.int i tk,x]}:=by rw[<- f,<- j];exact hS1 _ O
 have ao:h4.objs.size=r.objs.size+1:=by rw[<- f,hZ1,j]
 have S:∀b o,b≠e->b≠it->r.get? b=Z o->h4.get? b=Z o:=λb o a B N=>by
  rw[<- f];exact hP1 _ (D.extBut b o a (C.extBut b o a (G.extBut b o B N)))
 have P:SIt b h4 it l (i+1):=H.to λo q=>by rw[<- f];exact hP1 _ (D.extBut _ _ (Ne.symm m) (C.extBut _ _ (Ne.symm m) q))
 show dM _ _ (Builtin.SmallTypes.ownedTupleIsFree (.ref e) >>= _) _ _ ⟨h4,g,d,tk+1,t⟩;rw[j];clear f n D h C k G H j h3 h2 h1;refine wB1 ?_;unfold Builtin.SmallTypes.ownedTupleIsFree;refine wB1 (wpAny_field p O (x:=.none) O (wP1 ?_));simp only[if_true];refine wB1 (wpAny_rule ?_);refine wB1 (wpAny_field p O (x:=old) O ?_);refine wB1 (wS1 p (by simp) λh5 v K=>?_);replace K:Heap.SameBut e h4 h5:=K;replace v:IsEnum h5 e it ((i:Int)+1) x:=v;show dM _ _ (Builtin.SmallTypes.ownedTupleHandOut (.ref e) (.ref r.objs.size) >>= _) _ _ ⟨h5,g,d,tk+1,t⟩;refine wB1 ?_;unfold Builtin.SmallTypes.ownedTupleHandOut;refine wB1 (wS1 v (by simp) λh6 y am=>?_);replace am:Heap.SameBut e h5 h6:=am;replace y:IsEnumOut h6 e it ((i:Int)+1) x r.objs.size:=y;refine wS1 y (by simp) λh7 u I=>?_;replace I:Heap.SameBut e h6 h7:=I;replace u:IsEnumOut h7 e it ((i:Int)+1) x r.objs.size:=u;have R:∀c o,c≠e->h4.get? c=Z o->h7.get? c=Z o:=λc o z q=>I.extBut _ _ z (am.extBut _ _ z (K.extBut _ _ z q));refine wB1 (wpAny_letGo (wP1 ⟨_,O,wP1 (U h7 u (P.to λo q=>R _ o (Ne.symm m) q) (R _ _ (nG1 L) au) (by rw[I.1,am.1,K.1,ao]) λc o a B N=>R c o a (S c o a B N))⟩))
theorem Af{b:Bool}{e it l:dE}{i:Nat}{xs:Array dB}{old:dB}{Q:Option dB->dD->Prop}(h:A.handled=Y)(he:IsEnum s.heap e it i old)(ti:SIt b s.heap it l i)(tl:SCo b s.heap l xs)(hx:xs[i]? = Y)(g:∀h',Heap.ExtBut it s.heap h'->Q Y {s with heap:=h'}):dM (model prog w) A (pyNext (.ref e)) Q E s:=by
 have d:s.TypeIs (.ref e) "enumerate":=⟨_,he,O⟩;unfold pyNext;refine wB1 (wpAny_attempt (wpAny_callSpecial?_slot (name:=Str.ofString "__next__") d F.slot_enumerate_next (wE1 F.slot_enumerate_next d F.entry_enumerate_next ?_ (F.args_enumerate_next_1 _))));show dM _ _ (field (.ref e) 2 >>= _) _ _ _;refine wB1 (wpAny_field he O (x:=.ref it) O ?_);refine wB1 (iA h ti tl hx λh' x a c=>?_);obtain⟨o,f,hc⟩:=c;refine wB1 (wpAny_isInstance (T:="StopIteration") (b:=M) ⟨o,f,hc⟩ isSubtype_stop ?_);exact wP1 (g _ a)
theorem oX{e it:dE}{i:Int}{old:dB}{Q:dB->dD->Prop}(he:IsEnum s.heap e it i old)(h:Q (.ref e) s):dM (model prog w) A (pyIter (.ref e)) Q E s:=by
 have a:s.TypeIs (.ref e) "enumerate":=⟨_,he,O⟩;refine wpAny_pyIter_slot a F.slot_enumerate_iter (wE1 F.slot_enumerate_iter a F.entry_enumerate_iter ?_ (F.args_enumerate_iter_1 _));show dM _ _ (ret (.ref e)) _ _ s;exact wP1 ⟨_,O,"enumerate",_,a,F.slot_enumerate_next.lookup,h⟩
end
open PySem.AutoSeq1 (wpAny_loadPart')
structure IH (z ti to i1 i2:dE):Prop where
 a1:ti≠z
 a2:to≠z
 a3:i1≠z
 a4:i2≠z
 a5:ti≠to
 a6:ti≠i1
 a7:ti≠i2
 a8:to≠i1
 a9:to≠i2
 a10:i1≠i2
section
variable{prog:dF}{w:dH}{A:dG}{E:dB->dD->Prop}{s:dD}{b1 b2:Bool}
theorem SCo.ne{b:Bool}{h:dN}{a c:dE}{xs:Array dB}{o:Obj}(x:SCo b h a xs)(e:h.get? c=Z o)(n:∀ys k,o.data ≠ .seq ys k):a≠c:=by
 rintro rfl;cases b<;>(obtain⟨o',f,g,k,d⟩:=x;rw[e]at f;cases f;exact n _ _ d)
theorem SCo.ne_it{b f:Bool}{h:dN}{a it l:dE}{xs:Array dB}{i:Nat}(x:SCo b h a xs)(y:SIt f h it l i):a≠it:=by
 cases f<;>(obtain⟨o,e,c,d⟩:=y;exact x.ne e λys k z=>by rw[d]at z;cases z)
theorem xL{z ti to i1 k u n:dE}{P au:Nat}{xs ys:Array dB}{x y a b:dB}{Q:Option dB->dD->Prop}(D:IH z ti to i1 k)(i:IsZip s.heap z ti to .none)(wq:IsPair s.heap ti (.ref i1) (.ref k))(hto:IsPair s.heap to a b)(n1:u≠to)(n2:n≠to)(h1:SIt b1 s.heap i1 u P)(h2:SIt b2 s.heap k n au)(c1:SCo b1 s.heap u xs)(c2:SCo b2 s.heap n ys)(hx:xs[P]?=some x)(hy:ys[au]?=some y)(hQ:∀h',IsZip h' z ti to (rawInt s.heap.objs.size)->IsPair h' to x y->SIt b1 h' i1 u (P+1)->SIt b2 h' k n (au+1)->IsPair h' s.heap.objs.size x y->h'.objs.size=s.heap.objs.size+1 ->
   (∀c o,c≠z->c≠to->c≠i1->c≠k->s.heap.get? c=Z o->h'.get? c=Z o)->Q (Z (.ref s.heap.objs.size)) {s with heap:=h'}):dM (model prog w) A (pyNext (.ref z)) Q E s:=by
 have hT:s.TypeIs (.ref z) "zip":=⟨_,i,O⟩;have W:u≠z:=c1.ne i λ_ _ q=>by cases q
 have X:n≠z:=c2.ne i λ_ _ q=>by cases q
 have K:n≠i1:=c2.ne_it h1;unfold pyNext;refine wB1 (wpAny_attempt (wpAny_callSpecial?_slot (name:=Str.ofString "__next__") hT F.slot_zip_next (wE1 F.slot_zip_next hT F.entry_zip_next ?_ (F.args_zip_next_1 _))));show dM _ _ (field (.ref z) 2 >>= _) _ _ _;refine wB1 (wpAny_field i O (x:=.bool J) O ?_);show dM _ _ (field (.ref z) 3 >>= _) _ _ _;refine wB1 (wpAny_field i O (x:=.ref ti) O ?_);refine wB1 (wpAny_seqItems wq O ?_);show dM _ _ (Builtin.SmallTypes.ownedTupleIsFree (.ref z) >>= _) _ _ _;refine wB1 ?_;unfold Builtin.SmallTypes.ownedTupleIsFree;refine wB1 (wpAny_field i O (x:=.none) O (wP1 ?_));simp only[if_true];refine wB1 (wpAny_rule ?_);refine wB1 (wpAny_field i O (x:=.ref to) O ?_);refine wB1 (wS1 i (by simp) λg1 m t=>?_);replace m:IsZip g1 z ti to .ellipsis:=m;refine wB1 ?_;simp only[bM,List.zipIdx_nil,bG,List.forIn_nil];refine wB1 (wB1 (wpAny_onRaise ?_));show dM _ _ (Builtin.SmallTypes.nextOf (.ref i1) >>= _) _ _ _
 refine wB1 (kf (h1.to λo q=>t.extBut _ _ D.a3 q) (c1.to λo q=>t.extBut _ _ W q) hx λg2 aq v=>wP1 ?_);have l:IsPair g2 to a b:=v.extBut _ _ D.a8 (t.extBut _ _ D.a2 hto);refine wB1 (wpAny_seqItems l O ?_);refine wB1 (wpAny_updateSeq_pair l λg3 f B=>?_);replace f:IsPair g3 to x b:=f;refine wB1 (wpAny_letGo (wP1 ?_));refine wB1 (wB1 (wpAny_onRaise ?_));show dM _ _ (Builtin.SmallTypes.nextOf (.ref k) >>= _) _ _ _
 refine wB1 (kf (h2.to λo q=>B.extBut _ _ D.a9.symm (v.extBut _ _ D.a10.symm (t.extBut _ _ D.a4 q))) (c2.to λo q=>B.extBut _ _ n2 (v.extBut _ _ K (t.extBut _ _ X q))) hy λg4 V H=>wP1 ?_);have h:IsPair g4 to x b:=H.extBut _ _ D.a9 f;refine wB1 (wpAny_seqItems h O ?_);refine wB1 (wpAny_updateSeq_pair h λd e ao=>?_);replace e:IsPair d to x y:=e;refine wB1 (wpAny_letGo (wP1 (wP1 ?_)));refine wB1 (wpAny_seqItems e O ?_);refine wB1 (wpAny_newTuple ?_);have I:d.objs.size=s.heap.objs.size:=by rw[ao.1,H.1,B.1,v.1,t.1]
 have am:IsZip d z ti to .ellipsis:=ao.extBut _ _ D.a2.symm (H.extBut _ _ D.a4.symm (B.extBut _ _ D.a2.symm (v.extBut _ _ D.a3.symm m)));have U:∀c o,c≠z->c≠to->c≠i1->c≠k->s.heap.get? c=Z o->d.get? c=Z o:=λc o r N q3 q4 q=>ao.extBut _ _ N (H.extBut _ _ q4 (B.extBut _ _ N (v.extBut _ _ q3 (t.extBut _ _ r q))));have h15:SIt b1 d i1 u (P+1):=aq.to λo q=>ao.extBut _ _ D.a8.symm (H.extBut _ _ D.a10 (B.extBut _ _ D.a8.symm q));have h25:SIt b2 d k n (au+1):=V.to λo q=>ao.extBut _ _ D.a9.symm q;have j:z<d.objs.size:=hL1 am;show dM _ _ (Builtin.SmallTypes.ownedTupleHandOut (.ref z) (.ref d.objs.size) >>= _) _ _ _;refine wB1 ?_;unfold Builtin.SmallTypes.ownedTupleHandOut;have S:IsZip (d.push {cls:=.type "tuple",data:=.seq #[x,y]}) z ti to .ellipsis:=hP1 _ am;refine wB1 (wS1 S (by simp) λg7 p T=>?_);replace p:IsZip g7 z ti to (rawInt d.objs.size):=p;refine wS1 p (by simp) λC g s8=>?_;replace g:IsZip C z ti to (rawInt d.objs.size):=g;have R:∀c o,c≠z->d.get? c=Z o->C.get? c=Z o:=λc o r q=>s8.extBut _ _ r (T.extBut _ _ r (hP1 _ q));have L:IsPair C d.objs.size x y:=s8.extBut _ _ (nG1 j) (T.extBut _ _ (nG1 j) (hS1 _ O));have G:C.objs.size=d.objs.size+1:=by rw[s8.1,T.1,hZ1]
 rw[I]at g L G;refine wP1 ⟨_,O,wP1 ?_⟩;show Q (Z (.ref d.objs.size)) _;rw[I]
 exact hQ C g (R _ _ D.a2 e) (h15.to λo q=>R _ o D.a3 q) (h25.to λo q=>R _ o D.a4 q) L G λc o r N q3 q4 q=>R c o r (U c o r N q3 q4 q)
theorem AJ{z ti to i1 u G p:dE}{R ao:Nat}{xs ys:Array dB}{a b:dB}{Q:Option dB->dD->Prop}(aq:A.handled=Y)(D:IH z ti to i1 u)(j:IsZip s.heap z ti to .none)(L:IsPair s.heap ti (.ref i1) (.ref u))(S:IsPair s.heap to a b)(n1:G≠to)(n2:p≠to)(h1:SIt b1 s.heap i1 G R)(h2:SIt b2 s.heap u p ao)(H:SCo b1 s.heap G xs)(N:SCo b2 s.heap p ys)(y:xs[R]?=Y\/ys[ao]?=Y)(W:∀h',(∀c o,c≠z->c≠to->c≠i1->c≠u->s.heap.get? c=Z o->h'.get? c=Z o)->Q Y {s with heap:=h'}):dM (model prog w) A (pyNext (.ref z)) Q E s:=by
 have U:s.TypeIs (.ref z) "zip":=⟨_,j,O⟩;have r:G≠z:=H.ne j λ_ _ q=>by cases q
 have I:p≠z:=N.ne j λ_ _ q=>by cases q
 have C:p≠i1:=N.ne_it h1;unfold pyNext;refine wB1 (wpAny_attempt (wpAny_callSpecial?_slot (name:=Str.ofString "__next__") U F.slot_zip_next (wE1 F.slot_zip_next U F.entry_zip_next ?_ (F.args_zip_next_1 _))));show dM _ _ (field (.ref z) 2 >>= _) _ _ _;refine wB1 (wpAny_field j O (x:=.bool J) O ?_);show dM _ _ (field (.ref z) 3 >>= _) _ _ _;refine wB1 (wpAny_field j O (x:=.ref ti) O ?_);refine wB1 (wpAny_seqItems L O ?_);show dM _ _ (Builtin.SmallTypes.ownedTupleIsFree (.ref z) >>= _) _ _ _;refine wB1 ?_;unfold Builtin.SmallTypes.ownedTupleIsFree;refine wB1 (wpAny_field j O (x:=.none) O (wP1 ?_));simp only[if_true];refine wB1 (wpAny_rule ?_);refine wB1 (wpAny_field j O (x:=.ref to) O ?_);refine wB1 (wS1 j (by simp) λg1 g i=>?_);replace g:IsZip g1 z ti to .ellipsis:=g;refine wB1 ?_;simp only[bM,List.zipIdx_nil,bG,List.forIn_nil];refine wB1 (wB1 (wpAny_onRaise ?_));show dM _ _ (Builtin.SmallTypes.nextOf (.ref i1) >>= _) _ _ _
 cases hx:xs[R]? with
 |none=>
  refine wB1 (iA aq (h1.to λo q=>i.extBut _ _ D.a3 q) (H.to λo q=>i.extBut _ _ r q) hx λam e k au=>?_);obtain⟨K,d,f⟩:=au;have v:IsZip am z ti to .ellipsis:=k _ _ D.a3.symm g;have n:e≠z:=λq=>by subst q;rw[v]at d;cases d;simp at f
  refine wS1 v (by simp) λX _ m=>?_;refine wB1 (wpAny_isInstance (T:="StopIteration") (b:=M) ⟨K,m.extBut _ _ n d,f⟩ isSubtype_stop ?_);exact wP1 (W X λc o B _ P _ q=>m.extBut _ _ B (k _ _ P (i.extBut _ _ B q)))
 |some x=>
  have hy:ys[ao]?=Y:=by rcases y with h|h;rw[hx]at h;cases h;exact h
  refine wB1 (kf (h1.to λo q=>i.extBut _ _ D.a3 q) (H.to λo q=>i.extBut _ _ r q) hx λam h12 k=>wP1 ?_);have l:IsPair am to a b:=k.extBut _ _ D.a8 (i.extBut _ _ D.a2 S);refine wB1 (wpAny_seqItems l O ?_);refine wB1 (wpAny_updateSeq_pair l λX hto3 m=>?_);refine wB1 (wpAny_letGo (wP1 ?_));refine wB1 (wB1 (wpAny_onRaise ?_));show dM _ _ (Builtin.SmallTypes.nextOf (.ref u) >>= _) _ _ _
  refine wB1 (iA aq (h2.to λo q=>m.extBut _ _ D.a9.symm (k.extBut _ _ D.a10.symm (i.extBut _ _ D.a4 q))) (N.to λo q=>m.extBut _ _ n2 (k.extBut _ _ C (i.extBut _ _ I q))) hy λg4 e V au=>?_);obtain⟨K,d,f⟩:=au;have t:IsZip g4 z ti to .ellipsis:=V _ _ D.a4.symm (m.extBut _ _ D.a2.symm (k.extBut _ _ D.a3.symm g));have n:e≠z:=λq=>by subst q;rw[t]at d;cases d;simp at f
  refine wS1 t (by simp) λg5 _ wq=>?_;refine wB1 (wpAny_isInstance (T:="StopIteration") (b:=M) ⟨K,wq.extBut _ _ n d,f⟩ isSubtype_stop ?_);exact wP1 (W g5 λc o B q2 P q4 q=>wq.extBut _ _ B (V _ _ q4 (m.extBut _ _ q2 (k.extBut _ _ P (i.extBut _ _ B q)))))
noncomputable def zH(b1 b2:Bool)(h:dN)(l1 l2:dE):dN:=((((h.push (gl b1 l1)).push (gl b2 l2)).push {cls:=.type "tuple",data:=.seq #[.ref h.objs.size,.ref (h.objs.size+1)]}).push {cls:=.type "tuple",data:=.seq #[.none,.none]}).push
 {cls:=.type "zip",data:=.fields #[.none,.bool J,.bool J,.ref (h.objs.size+2),.ref (h.objs.size+3)]}
theorem AI(a b:dE)(xs ys:Array dB):Meets (Builtin.«zip.__new__» ⟨[.type "zip",.ref a,.ref b],[]⟩) (λ_ R s=>SCo b1 s.heap a xs/\SCo b2 s.heap b ys/\R (.ok (.ret (.ref (s.heap.objs.size+4)))) {s with heap:=zH b1 b2 s.heap a b}):=
 .of_wp λprog w A R s h=>by
  obtain⟨c,g,d,tk,e⟩:=s;obtain⟨j,k,h⟩:=h;have f:=sub_zip
  have i:SCo b1 (Shared.heap ⟨c,g,d,tk,e⟩) a xs:=j;have l:SCo b2 (Shared.heap ⟨c.push (gl b1 a),g,d,tk,e⟩) b ys:=k.to λo q=>hP1 _ q
  wp_walk using jT i,jT l
  refine⟨_,O,?_⟩;have m:(c.push (gl b1 a)).objs.size=c.objs.size+1:=hZ1 ..
  simp only[hZ1,zH]at h ⊢;exact h
theorem xM{b d:dE}{xs ys:Array dB}{Q:dB->dD->Prop}(r:SCo b1 s.heap b xs)(t:SCo b2 s.heap d ys)(h:∀h',IsZip h' (s.heap.objs.size+4) (s.heap.objs.size+2) (s.heap.objs.size+3) .none->IsPair h' (s.heap.objs.size+2) (.ref s.heap.objs.size) (.ref (s.heap.objs.size+1))->IsPair h' (s.heap.objs.size+3) .none .none ->
   SIt b1 h' s.heap.objs.size b 0->SIt b2 h' (s.heap.objs.size+1) d 0->h'.objs.size=s.heap.objs.size+5->(∀c o,s.heap.get? c=Z o->h'.get? c=Z o)->Q (.ref (s.heap.objs.size+4)) {s with heap:=h'}):
  dM (model prog w) A (call (.type "zip") [.ref b,.ref d]) Q E s:=by
 refine callType_new F.called_zip (by decide) (F.typeCall_zip_2 _ _) (F.newCall_zip_2 _ _) (λg=>F.args_object_init_3 g _ _) F.entry_zip_new (AI (b1:=b1) (b2:=b2) b d xs ys) ⟨r,t,?_⟩;have a:∀{h:dN} {o:Obj} {c:dE} {u:Obj},h.get? c=Z u->(h.push o).get? c=Z u:=λq=>hP1 _ q;have at_:∀{h:dN} {o:Obj} {n:Nat},h.objs.size=n->o.isFreed=J->(h.push o).get? n=Z o:=λe f=>by rw[<- e];exact hS1 _ f
 have k:(gl b1 b).isFreed=J:=by cases b1<;>rfl
 have p:(gl b2 d).isFreed=J:=by cases b2<;>rfl
 have v:(zH b1 b2 s.heap b d).get? s.heap.objs.size=Z (gl b1 b):=a (a (a (a (at_ O k))));have l:(zH b1 b2 s.heap b d).get? (s.heap.objs.size+1)=Z (gl b2 d):=a (a (a (at_ (by simp only[hZ1]) p)));have m:IsPair (zH b1 b2 s.heap b d) (s.heap.objs.size+2) (.ref s.heap.objs.size) (.ref (s.heap.objs.size+1)):=a (a (at_ (by simp only[hZ1]) O));have j:IsPair (zH b1 b2 s.heap b d) (s.heap.objs.size+3) .none .none:=a (at_ (by simp only[hZ1]) O);have i:IsZip (zH b1 b2 s.heap b d) (s.heap.objs.size+4) (s.heap.objs.size+2) (s.heap.objs.size+3) .none:=at_ (by simp only[hZ1]) O;exact⟨⟨_,i,O⟩,h _ i m j (pQ v) (pQ l) (by simp only[zH,hZ1]) λc o q=>a (a (a (a (a q))))⟩
end
def q7(K:Fg1)(b:Bool)(H:Hp)(a:dE)(xs:List V):Prop:=match b with
 |true=>lV K H a xs
 |false=>jn K H a xs
section
variable{X:Cx}{ag:List (dE×Obj)}{σ:L2.St}{H:Hp}{s:dD}
theorem fz{b:Bool}{a:dE}{xs:List V}(I:Inv X ag σ H s)(h:q7 X.K b H a xs):∃c:List dB,ei xs c/\SCo b s.heap a c.toArray/\xs.length<=dL:=by
 cases b
 ·obtain⟨c,r,p,z⟩:=I.tuple h;exact⟨c,r,p,z⟩
 ·obtain⟨c,r,p,z⟩:=I.list h;exact⟨c,r,p.isList,z⟩
theorem l9{b:Bool}{a:dE}{xs ys:List V}(I:Inv X ag σ H s)(h:q7 X.K b H a xs)(h':q7 X.K b H a ys):xs=ys:=by
 cases b
 ·exact I.tuple_inj h h'
 ·exact I.list_inj h h'
theorem pO{b:Bool}{a c:dE}{xs:List V}(I:Inv X ag σ H s)(h:q7 X.K b H a xs)(f:jt X ag H c):a≠c:=by
 rintro rfl;have d:∀{o},X.K.lookup a=Z o->False:=λ{o} e=>by
  have g:=I.ok.mod.kin _ _ e;rcases f.2.2.2.1 with z|z
  ·exact I.ok.noex _ _ g z
  ·exact absurd (nL1 (hL1 g) (aC I.ok.bsz z)) (az _)
 cases b
 ·rcases h with(h|⟨_,h⟩)|⟨_,_,_,h,_⟩
  ·rw[f.1]at h;cases h
  ·rw[f.1]at h;cases h
  ·exact d h
 ·rcases h with(h|⟨_,h⟩)|⟨_,_,_,h,_⟩
  ·rw[f.1]at h;cases h
  ·rw[f.1]at h;cases h
  ·exact d h
theorem sw(I:Inv X ag σ H s){fp:List dE}(hf:∀ b∈fp,jt X ag H b){h':dN}{p:dE}{xs:List V}{its:List dB}{t':Nat}(hp:s.heap.objs.size<=p)(f:∀ b o,b∉fp->s.heap.get? b=Z o->h'.get? b=Z o)(k:IsTup h' p its.toArray)(l:ei xs its)(j:xs.length<=dL):Inv X ag σ (upd H p (.tup xs)) {s with heap:=h',toks:=t'}:=by
 have d:H p=Y:=I.hok.fresh hp;have g:∀{b o},s.heap.get? b=Z o->b≠p:=λe=>nN1 (nL1 (hL1 e) hp);have h:∀{b u},H b=Z u->b∉fp:=λe z=>by rw[(hf _ z).1]at e;cases e
 refine I.step (g':=s.gens) (d':=s.drawn) (ch:=fp) (λb a=>⟨(hf b a).2.2.2.1,(hf b a).2.1,(hf b a).2.2.2.2.1,(hf b a).2.2.2.2.2⟩) (λb o _ _ hc e _=>f b o hc e) (λb o _ _ hc e _=>⟨o.slots,f b o hc e⟩) (λb o _ e n=>?_)
  (λb o hc e=>⟨o,f b o hc e⟩) (λb ys e=>?_) (λb o u e=>?_) (λb ps e=>⟨#[],?_⟩) (λm t=>?_) (λb u e=>?_) I.bare
 ·rw[dY (g e)];exact n
 ·rw[dY (eD e d)];exact e
 ·rw[dY (eD e d)];exact e
 ·rw[dY (eD e d),e];simp
 ·obtain⟨o,es,ep,i,r⟩:=t;exact⟨o,es,ep,f _ o (λz=>(hf _ z).2.1 O) i,r⟩
 ·by_cases a:b=p
  ·subst a;rw[d4]at e;cases e;exact⟨j,its,l,k⟩
  ·rw[dY a]at e;refine(I.hok b u e).stay (λc v hc q=>f c v ?_ q) (λc q=>by rw[dY (eD q d)];exact q) λc ys q=>by rw[dY (eD q d)];exact q
   rcases hc with z|z
   ·rw[z];exact h e
   ·exact h z
theorem m7(I:Inv X ag σ H s){fp:List dE}(hf:∀b∈fp,jt X ag H b){h':dN}{t':Nat}(a:∀b o,b∉fp->s.heap.get? b=Z o->h'.get? b=Z o):Inv X ag σ H {s with heap:=h',toks:=t'}:=by
 have f:∀{b u},H b=Z u->b∉fp:=λe z=>by rw[(hf _ z).1]at e;cases e
 refine I.step (g':=s.gens) (d':=s.drawn) (ch:=fp) (λb d=>⟨(hf b d).2.2.2.1,(hf b d).2.1,(hf b d).2.2.2.2.1,(hf b d).2.2.2.2.2⟩) (λb o _ _ hc e _=>a b o hc e) (λb o _ _ hc e _=>⟨o.slots,a b o hc e⟩) (λb o _ e n=>n)
  (λb o hc e=>⟨o,a b o hc e⟩) (λb ys e=>e) (λb o u e=>e) (λb ps e=>⟨#[],by rw[e];simp⟩) (λm h=>?_) (λb u e=>?_) I.bare
 ·obtain⟨o,es,ep,g,r⟩:=h;exact⟨o,es,ep,a _ o (λz=>(hf _ z).2.1 O) g,r⟩
 ·refine(I.hok b u e).stay (λc v hc q=>a c v ?_ q) (λc q=>q) λc ys q=>q;rcases hc with z|z
  ·rw[z];exact f e
  ·exact f z
end
theorem ri:(2:Nat)<=dL:=by decide
noncomputable def Jk(K:Fg1)(b:Bool)(a:dE):It:=
 ⟨λi H=>∃xs x,q7 K b H a xs/\xs[i]?=Z x,λi H x H'=>∃p v,H p=Y/\x = .ref p/\H'=upd H p (.tup [.int i,v]) /\ ∀xs,q7 K b H a xs->xs[i]?=Z v,λi H=>∃xs,q7 K b H a xs/\xs.length<=i⟩
theorem wu{P:dF}{w:dH}{K:Fg1}{elts:List Expr}{k:Nat}{pos:Pos}(b:Bool)(a e it:dE)(ne:e≠it):tq P w K (.Tuple elts k pos) (Jk K b a) [e,it] e (λi h=>(∃old,IsEnum h e it (i:Nat) old)/\SIt b h it a i) where
 mem:=by simp
 obj:=by
  rintro i h ⟨⟨old,st⟩,N⟩ c hc;rcases aF.mp hc with z|z
  ·subst z;exact⟨_,st,λv q=>by cases q⟩
  ·have z':c=it:=by simpa using z
   subst z';exact N.rec_
 keep:=λi h h' ⟨⟨old,st⟩,N⟩ au=>⟨⟨old,au e (by simp) _ st⟩,N.to λo q=>au it (by simp) o q⟩
 item:=by
  intro X B r G hc i ag s σ H E I g st F;subst B r G;obtain⟨⟨old,l⟩,m⟩:=st;obtain⟨xs,x,j,A⟩:=F;obtain⟨p,y,ao,S⟩:=fz I j;obtain⟨u,aq,ru⟩:=y.get A;refine xb l m ao (x:=u) (by simpa using aq) ne λh1 C am D T n=>?_;refine⟨.ref s.heap.objs.size,O,?_⟩;refine wpAny_letOwnedTupleGo_enum C λh2 t d=>?_;have R:s.heap.objs.size≠e:=nG1 (hL1 l);have L:∀c o,c∉[e,it]->s.heap.get? c=Z o->h2.get? c=Z o:=λc o hc q=>by
   have f:c≠e:=λz=>hc (by simp[z]);have c2:c≠it:=λz=>hc (by simp[z]);exact d.extBut _ _ f (n c o f c2 q)
  have V:IsTup h2 s.heap.objs.size [.int (i:Nat) s.toks,u].toArray:=⟨_,d.extBut _ _ R D,O,_,O⟩;have W:=sw I g (t':=s.toks+1) (nR1 _) L V (xs:=[.int i,x]) (.cons ⟨_,O⟩ (.cons ru .nil)) ri;have wq:H s.heap.objs.size=Y:=I.hok.fresh (nR1 _);refine⟨.ref s.heap.objs.size,_,W,O,⟨_,x,wq,O,O,λys hy=>by rw[l9 I hy j];exact A⟩,⟨⟨u,?_⟩,am.to λo q=>d.extBut _ _ (Ne.symm ne) q⟩,λc hc=>?_⟩
  ·have:((i+1:Nat):Int)=(i:Int)+1:=by push_cast;rfl
   rw[this];exact t
  ·have f:c≠s.heap.objs.size:=fun z=>by
    rcases aF.mp hc with q|q
    ·exact R (z.symm.trans q)
    ·have U:c=it:=by simpa using q
     obtain⟨o,Q,_⟩:=m.rec_;rw[<- U,z]at Q;exact az _ (hL1 Q)
   rw[dY f];exact(g c hc).1
 done:=by
  intro X B r G hc i ag s σ H E I g st F;subst B r G;obtain⟨⟨old,l⟩,m⟩:=st;obtain⟨xs,j,A⟩:=F;obtain⟨p,y,ao,S⟩:=fz I j;have hl:=y.length;refine Af (I.ok.hd hc) l m ao (by simp;lia) λh' eb=>⟨O,m7 I (t':=s.toks) g λc o hc q=>eb c o (λz=>hc (by simp[z])) q⟩
 self:=λ_ _ _ _ _ ⟨⟨_,st⟩,_⟩ h=>oX st h
noncomputable def Jh(K:Fg1)(b1 b2:Bool)(a1 a2:dE):It:=
 ⟨λi H=>∃xs ys x y,q7 K b1 H a1 xs/\q7 K b2 H a2 ys/\xs[i]?=Z x/\ys[i]?=Z y,λi H x H'=>∃p v u,H p=Y/\x = .ref p/\H'=upd H p (.tup [v,u])/\(∀xs,q7 K b1 H a1 xs->xs[i]?=Z v) /\ ∀ys,q7 K b2 H a2 ys->ys[i]?=Z u,
  λi H=>∃xs ys,q7 K b1 H a1 xs/\q7 K b2 H a2 ys/\(xs.length<=i\/ys.length<=i)⟩
theorem x0{P:dF}{w:dH}{K:Fg1}{elts:List Expr}{k:Nat}{pos:Pos}(b1 b2:Bool)(a1 a2 z ti to m n:dE)(D:IH z ti to m n):tq P w K (.Tuple elts k pos) (Jh K b1 b2 a1 a2) [z,ti,to,m,n] z
  (λi h=>IsZip h z ti to .none/\IsPair h ti (.ref m) (.ref n)/\(∃u v,IsPair h to u v)/\SIt b1 h m a1 i/\SIt b2 h n a2 i) where
 mem:=by simp
 obj:=by
  rintro i h ⟨g,b,⟨u,v,j⟩,l,f⟩ c hc;simp only[aF,bN,or_false]at hc;rcases hc with rfl|rfl|rfl|rfl|rfl
  ·exact⟨_,g,λv q=>by cases q⟩
  ·exact⟨_,b,λv q=>by cases q⟩
  ·exact⟨_,j,λv q=>by cases q⟩
  ·exact l.rec_
  ·exact f.rec_
 keep:=λi h h' ⟨g,b,⟨u,v,j⟩,l,f⟩ F=>⟨F z (by simp) _ g,F ti (by simp) _ b,⟨u,v,F to (by simp) _ j⟩,l.to λo q=>F m (by simp) o q,f.to λo q=>F n (by simp) o q⟩
 item:=by
  intro X N L R hc i ag s σ H E I d st Q;subst N L R;obtain⟨g,b,⟨u0,v0,j⟩,l,f⟩:=st;obtain⟨xs,ys,x,y,A,B,ex,ey⟩:=Q;obtain⟨am,ao,W,hz⟩:=fz I A;obtain⟨G,p,t,aq⟩:=fz I B;obtain⟨u,hu,ru⟩:=ao.get ex;obtain⟨S,au,V⟩:=p.get ey;refine xL D g b j (pO I A (d to (by simp))) (pO I B (d to (by simp))) l f W t (x:=u) (y:=S) (by simpa using hu) (by simpa using au) λh1 p1 p2 p3 p4 p5 p6 C=>?_;refine⟨.ref s.heap.objs.size,O,?_⟩;refine wpAny_letOwnedTupleGo_zip p1 λh2 z2 a=>?_;have lt:∀c∈[z,ti,to,m,n],c≠s.heap.objs.size:=λc hc e=>by
   obtain⟨o,wq⟩:∃o,s.heap.get? c=some o:=by
    simp only[aF,bN,or_false]at hc;rcases hc with rfl|rfl|rfl|rfl|rfl
    ·exact⟨_,g⟩
    ·exact⟨_,b⟩
    ·exact⟨_,j⟩
    ·obtain⟨o,e,_⟩:=l.rec_;exact⟨o,e⟩
    ·obtain⟨o,e,_⟩:=f.rec_;exact⟨o,e⟩
   rw[e]at wq;exact az _ (hL1 wq)
  have U:∀c o,c∉[z,ti,to,m,n]->s.heap.get? c=Z o->h2.get? c=Z o:=λc o hc q=>by
   simp only[aF,bN,or_false,not_or]at hc;exact a.extBut _ _ hc.1 (C c o hc.1 hc.2.2.1 hc.2.2.2.1 hc.2.2.2.2 q)
  have tp:IsTup h2 s.heap.objs.size [u,S].toArray:=⟨_,a.extBut _ _ (Ne.symm (lt z (by simp))) p5,O,_,O⟩;have I2:=sw I d (t':=s.toks) (nR1 _) U tp (xs:=[x,y]) (.cons ru (.cons V .nil)) ri;have hn:H s.heap.objs.size=Y:=I.hok.fresh (nR1 _);refine⟨.ref s.heap.objs.size,_,I2,O,⟨_,x,y,hn,O,O,λT r=>by rw[l9 I r A];exact ex,λT r=>by rw[l9 I r B];exact ey⟩,
   ⟨z2,a.extBut _ _ D.a1 (C _ _ D.a1 D.a5 D.a6 D.a7 b),⟨u,S,a.extBut _ _ D.a2 p2⟩,p3.to λo q=>a.extBut _ _ D.a3 q,p4.to λo q=>a.extBut _ _ D.a4 q⟩,λc hc=>?_⟩
  rw[dY (lt c hc)];exact(d c hc).1
 done:=by
  intro X N L R hc i ag s σ H E I d st Q;subst N L R;obtain⟨g,b,⟨u0,v0,j⟩,l,f⟩:=st;obtain⟨xs,ys,A,B,hl⟩:=Q;obtain⟨am,ao,W,hz⟩:=fz I A;obtain⟨G,p,t,aq⟩:=fz I B;have l1:=ao.length;have l2:=p.length;refine AJ (I.ok.hd hc) D g b j (pO I A (d to (by simp))) (pO I B (d to (by simp))) l f W t (by simp;lia) λh' eb=>⟨O,m7 I (t':=s.toks) d λc o hc q=>?_⟩;simp only[aF,bN,or_false,not_or]at hc;exact eb c o hc.1 hc.2.2.1 hc.2.2.2.1 hc.2.2.2.2 q
 self:=λ_ _ _ _ _ ⟨st,_⟩ h=>wpAny_pyIter_zip st h
section
variable{X:Cx}{elts:List Expr}{k:Nat}{tpos:Pos}
noncomputable def GL(K:Fg1)(ta:TA):TI:=fun σ H R=>ta σ H λvs H1=>∃a b,vs=[.ref a]/\(∃xs,q7 K b H1 a xs)/\R (Jk K b a) H1
theorem Bi {a:Expr}{ta:TA}{p pos:Pos}(hg:Gl X "enumerate")(hm:X.mg "enumerate"=Y)(ha:PA X [a] ta)(hs:dJ [a] X.env=[(J,eval a X.env)]:=by rfl):PI X (.Tuple elts k tpos) (.Call (.Name "enumerate" p) [a] [] pos) (GL X.K ta):=by
 intro ag s σ H R I h;refine Call_ (jF I hg hm boot_enumerate (PyProof.Rows.callWith_type1 (fg (ha pos ag s σ H _ I h) λD g ⟨vs,H1,f,w,y⟩=>?_) hs O));obtain⟨c,b,e,⟨xs,m⟩,q⟩:=y;subst e;cases w with
 |cons r l=>
  cases l;cases r;obtain⟨j,C,u,B⟩:=fz f m;refine xc u λh' i o v n=>oX i ?_;have A:Inv X ag σ H1 {g with heap:=h'}:=f.kept (t':=g.toks) n;refine⟨g.heap.objs.size+1,[g.heap.objs.size+1,g.heap.objs.size],_,_,H1,O,A,wu b c _ _ (Nat.succ_ne_self _),⟨⟨.none,i⟩,o⟩,λd t=>?_,q⟩;rcases aF.mp t with z|z
  ·subst z;exact f.fpOk (aX _) (f.hok.fresh (aX _))
  ·have x:d=g.heap.objs.size:=by simpa using z
   subst x;exact f.fpOk (nR1 _) (f.hok.fresh (nR1 _))
noncomputable def Ix(K:Fg1)(ta:TA):TI:=fun σ H R=>ta σ H λvs H1=>∃a1 b1 a2 b2,vs=[.ref a1,.ref a2]/\(∃xs,q7 K b1 H1 a1 xs)/\(∃xs,q7 K b2 H1 a2 xs)/\R (Jh K b1 b2 a1 a2) H1
theorem DR {a b:Expr}{ta:TA}{p pos:Pos}(hg:Gl X "zip")(hm:X.mg "zip"=none)(ha:PA X [a,b] ta)(hs:dJ [a,b] X.env=[(false,eval a X.env),(false,eval b X.env)]:=by rfl)(hs2:dJ [b] X.env=[(false,eval b X.env)]:=by rfl):
  PI X (.Tuple elts k tpos) (.Call (.Name "zip" p) [a,b] [] pos) (Ix X.K ta):=by
 intro ag s σ H R I h;refine Call_ (jF I hg hm boot_zip (PyProof.Rows.callWith_type1 (fg (ha pos ag s σ H _ I h) λQ c ⟨vs,H1,g,D,E⟩=>?_) (by rw[hs,hs2]) (by rw[hs2];rfl)));obtain⟨t,b1,C,b2,e,⟨xs,u⟩,⟨ys,B⟩,q⟩:=E;subst e;cases D with
 |cons r i=>
  cases i with
  |cons y i=>
   cases i;cases r;cases y;obtain⟨o,N,K,ao⟩:=fz g u;obtain⟨n,A,j,L⟩:=fz g B;refine xM K j λh' l am G F w au x=>wpAny_pyIter_zip l ?_;have v:Inv X ag σ H1 {c with heap:=h'}:=g.kept (t':=c.toks) x;refine⟨c.heap.objs.size+4,[c.heap.objs.size+4,c.heap.objs.size+2,c.heap.objs.size+3,c.heap.objs.size,c.heap.objs.size+1],_,_,H1,O,v,x0 b1 b2 t C _ _ _ _ _ ?_,⟨l,am,⟨_,_,G⟩,F,w⟩,λd m=>?_,q⟩
   ·constructor<;>(intro z;have P:((_:Nat)=_):=z;lia)
   ·have f:c.heap.objs.size<=d:=by
     simp only[aF,bN,or_false]at m;rcases m with rfl|rfl|rfl|rfl|rfl
     ·exact bt _ _
     ·exact bt _ _
     ·exact bt _ _
     ·exact nR1 _
     ·exact bt _ _
    exact g.fpOk f (g.hok.fresh f)
end
noncomputable def d6 (S:Sto):D->Option (Bool×List D)
 | .tup xs=>some (false,xs)
 | .rol xs=>some (true,xs)
 | .ref n=>match S[n]? with
  |some (.lst xs)=>some (true,xs)
  |_=>none
 |_=>none
noncomputable def i7(S:Sto):D->List (Nat×List D)
 | .ref n=>match S[n]? with
  |some (.lst xs)=>[(n,xs)]
  |_=>[]
 |_=>[]
section
variable{K:Fg1}{H:Hp}{mu:List dE}{S:Sto}
theorem ev{d:D}{v:V}{b:Bool}{xs:List D}(r:eJ K H mu d v)(s:Sim K H mu S)(h:d6 S d=Z (b,xs)):∃a vs,v = .ref a/\q7 K b H a vs/\d0 K H mu xs vs:=by
 cases d with
 |tup ys=>cases h;cases r with|tup q t=>exact⟨_,_,rfl,q,t⟩
 |rol ys=>cases h;cases r with|rol q t=>exact⟨_,_,rfl,q.sq,t⟩
 |ref n=>
  rw[d6]at h;split at h
  ·rename_i ys e;cases h;cases r with
   |ref q=>
    obtain⟨vs,f,c⟩:=s.lst e q;exact⟨_,vs,O,lV.of f,c⟩
  ·cases h
 |_=>cases h
theorem ic{d:D}{a:dE}{b:Bool}{xs:List D}(r:eJ K H mu d (.ref a))(s:Sim K H mu S)(h:d6 S d=some (b,xs)){H1:Hp}{mu1:List dE}{S1:Sto}(x:q9 mu mu1 H H1)(f:Sim K H1 mu1 S1)(ok:oD S1 (i7 S d)=true):
  ∃vs,q7 K b H1 a vs/\d0 K H1 mu1 xs vs:=by
 have c:=r.exw x;have h1:d6 S1 d=Z (b,xs):=by
  cases d with
  |ref n=>
   rw[d6]at h;split at h
   ·rename_i ys e;cases h;rw[i7,e]at ok;dsimp only[oD]at ok;rw[bO]at ok;rw[d6];split at ok
    ·rename_i zs g
     first|rw[g,D.sames_eq ok] | rw[D.sames_eq ok]
    ·cases ok
   ·cases h
  |_=>exact h
 obtain⟨i,vs,e,q,t⟩:=ev c f h1;cases e;exact⟨vs,q,t⟩
end
noncomputable def iJ (m:FE):FI:=λr S=>(m r S).bind λp=>(d6 p.2 p.1).bind λq=>some (⟨q.2,i7 p.2 p.1⟩,p.2)
noncomputable def xH:Nat->List D->List D
 |_,[]=>[]
 |n,d::ds=>.tup [.int n,d]::xH (n+1) ds
noncomputable def Fq (m:FA):FI:=λr S=>(m r S).bind λp=>match p.1 with
 |[d]=>(d6 p.2 d).bind λq=>some (⟨xH 0 q.2,i7 p.2 d⟩,p.2)
 |_=>none
noncomputable def tH:List D->List D->List D
 |x::xs,y::ys=>.tup [x,y]::tH xs ys
 |_,_=>[]
noncomputable def AF(m:FA):FI:=λr S=>(m r S).bind λp=>match p.1 with
 |[d,e]=>(d6 p.2 d).bind λq=>(d6 p.2 e).bind λt=>Z (⟨tH q.2 t.2,i7 p.2 d++i7 p.2 e⟩,p.2)
 |_=>Y
noncomputable def gB(lo:Int):Nat->List D
 |0=>[]
 |n+1=>.int lo::gB (lo+1) n
noncomputable def uw (m:FA):FI:=λr S=>(m r S).bind λp=>match p.1 with
 |[.int j]=>if-(2^62)<=j/\j<2^62 then some (⟨gB 0 j.toNat,[]⟩,p.2)else none
 |_=>none
noncomputable def GJ(m:FA):FI:=λr S=>(m r S).bind λp=>match p.1 with
 |[.int i,.int j]=>if-(2^62)<=i/\i<2^62 /\ -(2^62)<=j/\j<2^62 then Z (⟨gB i (j-i).toNat,[]⟩,p.2)else Y
 |_=>Y
theorem vT:∀(ds:List D) (n i:Nat),(xH n ds)[i]?=(ds[i]?).map λd=>.tup [.int ((n+i:Nat):Int),d]
 |[],n,i=>by simp[xH]
 |d::ds,n,0=>by simp[xH]
 |d::ds,n,i+1=>by
  rw[xH,gC1,vT ds (n+1) i,gC1];rw[show n+1+i=n+(i+1) by lia]
theorem vS:∀(ds:List D) (n:Nat),(xH n ds).length=ds.length
 |[],_=>rfl
 |d::ds,n=>by rw[xH,lC1,vS ds,lC1]
theorem uQ:∀(xs ys:List D) (i:Nat) (d:D),(tH xs ys)[i]?=Z d -> ∃x y,xs[i]?=Z x/\ys[i]?=Z y/\d = .tup [x,y]
 |[],_,i,d,h=>by simp[tH]at h
 |_::_,[],i,d,h=>by simp[tH]at h
 |x::xs,y::ys,0,d,h=>by simp[tH]at h;exact⟨x,y,O,O,h.symm⟩
 |x::xs,y::ys,i+1,d,h=>by
  rw[tH,gC1]at h;obtain⟨e,f,c,a,b⟩:=uQ xs ys i d h;exact⟨e,f,by simpa using c,by simpa using a,b⟩
theorem uP:∀(xs ys:List D) (i:Nat),(tH xs ys).length<=i->xs.length<=i\/ys.length<=i
 |[],_,i,_=>.inl (bi _)
 |_::_,[],i,_=>.inr (bi _)
 |x::xs,y::ys,0,h=>by simp[tH]at h
 |x::xs,y::ys,i+1,h=>by
  rcases uP xs ys i (by simpa[tH]using h)with q|q
  ·exact .inl (by simpa using q)
  ·exact .inr (by simpa using q)
theorem rV:∀(n:Nat) (lo:Int) (i:Nat) (d:D),(gB lo n)[i]?=Z d->i<n/\d = .int (lo+i)
 |0,lo,i,d,h=>by simp[gB]at h
 |n+1,lo,0,d,h=>by simp[gB]at h;exact⟨Nat.succ_pos _,by rw[<- h];simp⟩
 |n+1,lo,i+1,d,h=>by
  rw[gB,gC1]at h;obtain⟨h1,h2⟩:=rV n (lo+1) i d h;refine⟨Nat.succ_lt_succ h1,?_⟩;rw[h2,show lo+1+(i:Int)=lo+((i+1:Nat):Int) by push_cast;lia]
theorem fC:∀(n:Nat) (lo:Int),(gB lo n).length=n
 |0,_=>rfl
 |n+1,lo=>by rw[gB,lC1,fC n]
theorem vm{S:Sto}:∀{c a:List (Nat×List D)},oD S (c++a)=M->oD S c=M/\oD S a=M
 |[],_,h=>⟨O,h⟩
 |(n,xs)::c,a,h=>by
  rw[bj,oD,bA1]at h;obtain⟨h1,h2⟩:=vm h.2;exact⟨by rw[oD,bA1];exact⟨h.1,h1⟩,h2⟩
section
variable{X:Cx}{tg:Expr}
theorem su(K:Fg1)(lo:Int)(n:Nat)(mu:List dE)(H:Hp):ItR K (Hn lo n) ⟨gB lo n,[]⟩ mu H:=by
 intro i H1 mu1 e x s ok;refine⟨λd a=>?_,λh=>by rw[fC]at h;exact h⟩;obtain⟨h1,h2⟩:=rV n lo i d a;refine⟨h1,λy H2 ⟨c,b⟩=>?_⟩;subst c;subst b;subst h2;exact⟨.refl _ _,s,.int _⟩
theorem Er{e:Expr}{m:FE}(h:ME X e m):MI X tg e (iJ m):=mP (F8 (Bh h) (DS h)) <| by
 rintro σ H R ⟨r,mu,S,am,K,D,E,n,hc⟩;obtain⟨⟨d,I⟩,C,n⟩:=oB1.mp n;obtain⟨⟨b,xs⟩,o,n⟩:=oB1.mp n;cases n;cases b with
 |true=>
  left;refine⟨r,mu,S,d,_,D,E,C,λv H1 mu1 B l f=>?_⟩;obtain⟨a,vs,rfl,q,t⟩:=ev l f o;refine⟨a,O,⟨vs,q⟩,hc _ H1 mu1 B (λi H2 z G x g ok=>?_) f⟩;obtain⟨ws,c,j⟩:=ic l f o x g ok;refine⟨λd w=>?_,λs=>⟨ws,c,by rw[<- j.length];exact s⟩⟩;obtain⟨v,k,p⟩:=j.get w;refine⟨⟨ws,v,c,k⟩,λy F ⟨A,u⟩=>?_⟩;subst A;have:=u ws c;rw[k]at this;cases this;exact⟨.refl _ _,g,p⟩
 |false=>
  right;refine⟨r,mu,S,d,_,D,E,C,λv H1 mu1 B l f=>?_⟩;obtain⟨a,vs,rfl,q,t⟩:=ev l f o;refine⟨a,O,⟨vs,q⟩,hc _ H1 mu1 B (λi H2 z G x g ok=>?_) f⟩;obtain⟨ws,c,j⟩:=ic l f o x g ok;refine⟨λd w=>?_,λs=>⟨ws,c,by rw[<- j.length];exact s⟩⟩;obtain⟨v,k,p⟩:=j.get w;refine⟨⟨ws,v,c,k⟩,λy F ⟨A,u⟩=>?_⟩;subst A;have:=u ws c;rw[k]at this;cases this;exact⟨.refl _ _,g,p⟩
theorem j6{K:Fg1}{H:Hp}{mu:List dE}{d:D}{vs:List V}(r:d0 K H mu [d] vs):∃v,vs=[v]/\eJ K H mu d v:=by
 cases r with|cons r t=>cases t;exact⟨_,O,r⟩
theorem rE{K:Fg1}{H:Hp}{mu:List dE}{d e:D}{vs:List V}(r:d0 K H mu [d,e] vs):∃v u,vs=[v,u]/\eJ K H mu d v/\eJ K H mu e u:=by
 cases r with|cons r t=>cases t with|cons q t=>cases t;exact⟨_,_,O,r,q⟩
theorem wK {a:Expr}{m:FA}{p pos:Pos}(hg:Gl X "range")(hm:X.mg "range"=Y)(ha:MA X [a] m)(hs:dJ [a] X.env=[(J,eval a X.env)]:=by rfl):MI X tg (.Call (.Name "range" p) [a] [] pos) (uw m):=
 mP (wE hg hm ha hs) <| by
  rintro σ H R ⟨r,mu,S,am,k,g,hs,hm,hc⟩;obtain⟨⟨ds,i⟩,d,hm⟩:=oB1.mp hm;dsimp only at hm;split at hm
  ·rename_i j;split at hm
   ·rename_i b;cases hm;refine⟨r,mu,S,_,_,g,hs,d,λvs H1 mu1 e h c=>?_⟩;obtain⟨v,rfl,f⟩:=j6 h;cases f;exact⟨j,O,b.1,b.2,hc _ H1 mu1 e (su _ _ _ _ _) c⟩
   ·cases hm
  ·cases hm
theorem wJ {a b:Expr}{m:FA}{p pos:Pos}(hg:Gl X "range")(hm:X.mg "range"=Y)(ha:MA X [a,b] m)(hs:dJ [a,b] X.env=[(J,eval a X.env),(J,eval b X.env)]:=by rfl)(hs2:dJ [b] X.env=[(J,eval b X.env)]:=by rfl):MI X tg (.Call (.Name "range" p) [a,b] [] pos) (GJ m):=
 mP (wD hg hm ha hs hs2) <| by
  rintro σ H R ⟨r,mu,S,am,o,k,hs,hm,hc⟩;obtain⟨⟨ds,n⟩,e,hm⟩:=oB1.mp hm;dsimp only at hm;split at hm
  ·rename_i i j;split at hm
   ·rename_i d;cases hm;refine⟨r,mu,S,_,_,k,hs,e,λvs H1 mu1 f l c=>?_⟩;obtain⟨v,u,rfl,h,g⟩:=rE l;cases h;cases g;exact⟨i,j,O,d,hc _ H1 mu1 f (su _ _ _ _ _) c⟩
   ·cases hm
  ·cases hm
variable{elts:List Expr}{k:Nat}{tpos:Pos}
theorem BF {a:Expr}{m:FA}{p pos:Pos}(hg:Gl X "enumerate")(hm:X.mg "enumerate"=Y)(ha:MA X [a] m)(hs:dJ [a] X.env=[(J,eval a X.env)]:=by rfl):MI X (.Tuple elts k tpos) (.Call (.Name "enumerate" p) [a] [] pos) (Fq m):=
 mP (Bi hg hm ha hs) <| by
  rintro σ H R ⟨r,mu,S,am,N,C,hs,hm,hc⟩;obtain⟨⟨ds,I⟩,z,hm⟩:=oB1.mp hm;dsimp only at hm;split at hm
  ·rename_i d;obtain⟨⟨b,xs⟩,u,hm⟩:=oB1.mp hm;cases hm;refine⟨r,mu,S,_,_,C,hs,z,λvs H1 mu1 G B g=>?_⟩;obtain⟨v,rfl,j⟩:=j6 B;obtain⟨a,vs,rfl,q,t⟩:=ev j g u;refine⟨a,b,O,⟨vs,q⟩,hc _ H1 mu1 G (λi H2 E au D n ok=>?_) g⟩;obtain⟨ws,f,o⟩:=ic j g u D n ok;refine⟨λd c=>?_,λl=>⟨ws,f,by rw[vS]at l;rw[<- o.length];exact l⟩⟩;rw[vT]at c;obtain⟨ao,A,c⟩:=oM1.mp c;obtain⟨v,s,e⟩:=o.get A;refine⟨⟨ws,v,f,s⟩,λy K ⟨p,L,h,F,w,x⟩=>?_⟩;have:=x ws f;rw[s]at this;cases this;subst F;subst w;subst c;rw[bP];exact⟨Ext.fresh h,n.fresh h,.tup (jn.of d4) (.cons (.int _) (.cons (e.ext (Ext.fresh h)) .nil))⟩
  ·cases hm
theorem Ep {a b:Expr}{m:FA}{p pos:Pos}(hg:Gl X "zip")(hm:X.mg "zip"=Y)(ha:MA X [a,b] m)(hs:dJ [a,b] X.env=[(J,eval a X.env),(J,eval b X.env)]:=by rfl)(hs2:dJ [b] X.env=[(J,eval b X.env)]:=by rfl):MI X (.Tuple elts k tpos) (.Call (.Name "zip" p) [a,b] [] pos) (AF m):=
 mP (DR hg hm ha hs hs2) <| by
  rintro σ H R ⟨r,mu,S,am,S',V,hs,hm,hc⟩;obtain⟨⟨ds,S1⟩,U,hm⟩:=oB1.mp hm;dsimp only at hm;split at hm
  ·rename_i d e;obtain⟨⟨b1,xs⟩,I,hm⟩:=oB1.mp hm;obtain⟨⟨b2,ys⟩,x,hm⟩:=oB1.mp hm;cases hm;refine⟨r,mu,S,_,_,V,hs,U,λvs H1 mu1 x1 W f=>?_⟩;obtain⟨v,u,rfl,C,L⟩:=rE W;obtain⟨a1,s,rfl,aq,t1⟩:=ev C f I;obtain⟨a2,n,rfl,ao,t2⟩:=ev L f x;refine⟨a1,b1,a2,b2,O,⟨s,aq⟩,⟨n,ao⟩,hc _ H1 mu1 x1 (λi H2 wq S2 K l ok=>?_) f⟩;obtain⟨j,o⟩:=vm ok;obtain⟨ws,q,F⟩:=ic C f I K l j;obtain⟨c,t,D⟩:=ic L f x K l o;refine⟨λd Q=>?_,λN=>⟨ws,c,q,t,?_⟩⟩
   ·obtain⟨x',y',ex,ey,rfl⟩:=uQ xs ys i d Q;obtain⟨v,G,w⟩:=F.get ex;obtain⟨u,B,h⟩:=D.get ey;refine⟨⟨ws,c,v,u,q,t,G,B⟩,λy H3 ⟨p,v',u',g,z1,P,T,au⟩=>?_⟩;have A:=T ws q;have E:=au c t;rw[G]at A;cases A;rw[B]at E;cases E;subst z1;subst P;exact⟨Ext.fresh g,l.fresh g,.tup (jn.of d4) (.cons (w.ext (Ext.fresh g)) (.cons (h.ext (Ext.fresh g)) .nil))⟩
   ·rcases uP xs ys i N with z|z
    ·exact .inl (by rw[<- F.length];exact z)
    ·exact .inr (by rw[<- D.length];exact z)
  ·cases hm
end
abbrev G1:=D->Sto->Option (D×Sto)
abbrev G2:=D->D->Sto->Option (D×Sto)
abbrev G3:=D->D->D->Sto->Option (D×Sto)
noncomputable def b1 (f:G1):FN:=λds S=>match ds with
 |[a]=>f a S
 |_=>none
noncomputable def b2 (f:G2):FN:=λds S=>match ds with
 |[a,b]=>f a b S
 |_=>none
noncomputable def b3 (f:G3):FN:=λds S=>match ds with
 |[a,b,c]=>f a b c S
 |_=>none
section
variable{X:Cx}{K:Fg1}{H:Hp}{Q:VK}
theorem ou{f:G2}{x y:V}(h:rN K (b2 f) [x,y] H Q):∃mu S d e r a,eJ K H mu d x/\eJ K H mu e y/\Sim K H mu S/\f d e S=Z (r,a)/\n9 K mu H r a Q:=by
 obtain⟨mu,S,ds,r,a,c,i,g,hc⟩:=h;cases c with
 |cons q t=>cases t with
  |cons b t=>cases t;exact⟨mu,S,_,_,r,a,q,b,i,g,hc⟩
theorem DB{f:G1}{xs:List V}(h:rN K (b1 f) xs H Q):∃x mu S d r a,xs=[x]/\eJ K H mu d x/\Sim K H mu S/\f d S=Z (r,a)/\n9 K mu H r a Q:=by
 obtain⟨mu,S,ds,r,a,c,e,b,hc⟩:=h;cases c with
 |nil=>cases b
 |cons q t=>cases t with
  |nil=>exact⟨_,mu,S,_,r,a,O,q,e,b,hc⟩
  |cons g t=>cases b
theorem yx{f:G2}{xs:List V}(h:rN K (b2 f) xs H Q):∃x y mu S d e r a,xs=[x,y]/\eJ K H mu d x/\eJ K H mu e y/\Sim K H mu S/\f d e S=Z (r,a)/\n9 K mu H r a Q:=by
 obtain⟨mu,S,ds,r,a,g,c,b,hc⟩:=h;cases g with
 |nil=>cases b
 |cons q t=>cases t with
  |nil=>cases b
  |cons i t=>cases t with
   |nil=>exact⟨_,_,mu,S,_,_,r,a,O,q,i,c,b,hc⟩
   |cons j t=>cases b
theorem n9.now{mu:List dE}{S:Sto}{d:D}{v:V}(c:n9 K mu H d S Q)(r:eJ K H mu d v)(s:Sim K H mu S):Q v H:=c v H mu (.refl _ _) r s
end
noncomputable def eR(i j:Int):Bool:=(decide (-(2^64)<i)&&decide (i<2^64))||(decide (-(2^64)<j)&&decide (j<2^64))||(decide (i.natAbs<2^1000)&&decide (j.natAbs<2^1000))
noncomputable def fS:G2:=λd e S=>match d,e with
 | .int i,.int j=>Z (.int (i+j),S)
 | .tup xs,.tup ys=>if xs.length+ys.length<=dL then Z (.tup (xs++ys),S)else Y
 | .str x,.str y=>if x.length+y.length<=dL then Z (.str (x++y),S)else Y
 | .ref a,.ref b=>match S[a]?,S[b]? with
  |some (.lst xs),Z (.lst ys)=>if xs.length+ys.length<=dL then Z (.ref S.length,S++[.lst (xs++ys)])else Y
  |_,_=>Y
 |_,_=>Y
noncomputable def gSub:G2:=λd e S=>match d,e with
 | .int i,.int j=>Z (.int (i-j),S)
 |_,_=>Y
noncomputable def jr:G2:=λd e S=>match d,e with
 | .int i,.int j=>if eR i j=M then Z (.int (i*j),S)else Y
 |_,_=>Y
noncomputable def kA:G2:=λd e S=>match d,e with
 | .int i,.int j=>if 0<j then Z (.int (i%j),S)else Y
 |_,_=>Y
noncomputable def nW:G2:=λd e S=>match d,e with
 | .int i,.int j=>if 0<j/\j<1073741824 then Z (.int (i/j),S)else Y
 |_,_=>Y
noncomputable def uz:G2:=λd e S=>match d,e with
 | .int i,.int j=>if 0<=j/\j<=1000000/\i.natAbs<2^64 then Z (.int (i^j.toNat),S)else Y
 |_,_=>Y
noncomputable def sD:G1:=λd S=>match d with
 | .int i=>Z (.int (-i),S)
 |_=>Y
section
variable{X:Cx}
theorem ul{i j:Int}(h:eR i j=M):IntMulOk i j:=by
 unfold eR at h;simp only[bQ,bA1,al]at h;rcases h with(⟨h1,h2⟩|⟨h1,h2⟩)|⟨h1,h2⟩
 ·exact .of_left (intBits_le_64 h1 h2)
 ·exact .of_right (intBits_le_64 h1 h2)
 ·exact .of_bits (aC (intBits_le h1) (by decide)) (aC (intBits_le h2) (by decide))
theorem mf{f:dB->dB->Sem dB}{g:G2}{c:Int->Int->Prop}{v:Int->Int->D}(hg:∀ d e S r a,g d e S=Z (r,a) -> ∃ i j,d = .int i/\e = .int j/\c i j/\r=v i j/\a=S){b:Int->Int->V}(hv:∀i j K H mu,eJ K H mu (v i j) (b i j))(ho:gn X f (rI c b)):gn X f (r2 X.K (b2 g)):=by
 intro ag s σ H x y u w Q I m k h;obtain⟨mu,S,d,e,r,a,n,r2,p,o,hc⟩:=ou h;obtain⟨i,j,rfl,rfl,l,rfl,rfl⟩:=hg d e S r a o;cases n;cases r2;exact ho ag s σ H _ _ u w Q I m k ⟨i,j,O,O,l,hc.now (hv i j _ _ _) p⟩
theorem mU{f:dB->dB->Sem dB}{g:G2}{v:Int->Int->D}(hg:∀ d e S r a,g d e S=Z (r,a) -> ∃ i j,d = .int i/\e = .int j/\r=v i j/\a=S){b:Int->Int->V}(hv:∀i j K H mu,eJ K H mu (v i j) (b i j))(ho:gn X f (CL b)):gn X f (r2 X.K (b2 g)):=by
 intro ag s σ H x y u w Q I k c h;obtain⟨mu,S,d,e,r,a,l,r2,n,m,hc⟩:=ou h;obtain⟨i,j,rfl,rfl,rfl,rfl⟩:=hg d e S r a m;cases l;cases r2;exact ho ag s σ H _ _ u w Q I k c ⟨i,j,O,O,hc.now (hv i j _ _ _) n⟩
theorem y1:gn X (binaryOp .Sub) (r2 X.K (b2 gSub)):=mU (v:=λi j=>.int (i-j)) (λd e S r a h=>by
 unfold gSub at h;split at h
 ·cases h;exact⟨_,_,O,O,O,O⟩
 ·cases h) (λ_ _ _ _ _=>.int _) D3
theorem kd:gn X (binaryOp .Mult) (r2 X.K (b2 jr)):=mf (c:=λi j=>IntMulOk i j) (v:=λi j=>.int (i*j)) (λd e S r a h=>by
 unfold jr at h;split at h
 ·split at h
  ·rename_i q;cases h;exact⟨_,_,O,O,ul q,O,O⟩
  ·cases h
 ·cases h) (λ_ _ _ _ _=>.int _) (Hw λ_ _ _ _ _ _ _ hc q=>mul_int q hc)
theorem lH:gn X (binaryOp .Mod) (r2 X.K (b2 kA)):=mf (c:=λ_ j=>0<j) (v:=λi j=>.int (i%j)) (λd e S r a h=>by
 unfold kA at h;split at h
 ·split at h
  ·rename_i q;cases h;exact⟨_,_,O,O,q,O,O⟩
  ·cases h
 ·cases h) (λ_ _ _ _ _=>.int _) D5
theorem vo:gn X (binaryOp .FloorDiv) (r2 X.K (b2 nW)):=mf (c:=Hr) (v:=λi j=>.int (i/j)) (λd e S r a h=>by
 unfold nW at h;split at h
 ·split at h
  ·rename_i q;cases h;exact⟨_,_,O,O,q,O,O⟩
  ·cases h
 ·cases h) (λ_ _ _ _ _=>.int _) Bp
theorem y2:gn X (binaryOp .Pow) (r2 X.K (b2 uz)):=mf (c:=Hq) (v:=λi j=>.int (i^j.toNat)) (λd e S r a h=>by
 unfold uz at h;split at h
 ·split at h
  ·rename_i q;cases h;exact⟨_,_,O,O,q,O,O⟩
  ·cases h
 ·cases h) (λ_ _ _ _ _=>.int _) D4
theorem CN:Fu X (unaryOp .USub) (λx H Q=>rN X.K (b1 sD) [x] H Q):=by
 intro ag s σ H x v Q I b h;obtain⟨j,mu,S,d,r,g,e,c,f,a,hc⟩:=DB h;cases e;cases d with
 |int i=>cases a;cases c;exact Db ag s σ H _ v Q I b ⟨i,O,hc.now (.int _) f⟩
 |_=>cases a
theorem xn{s:dD}{prog:dF}{w:dH}{A:dG}{E:dB->dD->Prop}{t b:dE}{ws:List dB}{Q:dB->dD->Prop}(ht:IsTup s.heap t ([]:List dB).toArray)(hb:IsTup s.heap b ws.toArray)(h:Q (.ref b) s):
  dM (model prog w) A (binaryOp .Add (.ref t) (.ref b)) Q E s:=by
 obtain⟨⟨q,m,l,p⟩,j,hc,n,k⟩:=id ht;obtain⟨⟨i,g,f,e⟩,a,d,o,c⟩:=id hb;simp only at hc k d c;subst hc k d c;exact concat_meets ⟨_,j,O⟩ ⟨_,a,O⟩ noFill_tuple_add seq_tuple_add PySem.F.slot_tuple_add PySem.F.entry_tuple_add (PySem.F.args_tuple_add_2 _ _) (tuple_addW0 t b ([]:List dB).toArray ws.toArray n o m g p e (by simp)) ⟨j,a,h⟩
theorem fT:gn X (binaryOp .Add) (r2 X.K (b2 fS)):=by
 intro ag s σ H x y u w Q I o t h;obtain⟨mu,S,d,e,r,R,v,r2,g,c,hc⟩:=ou h;unfold fS at c;split at c
 ·cases c;cases v;cases r2;exact D8 ag s σ H _ _ u w Q I o t ⟨_,_,O,O,hc.now (.int _) g⟩
 ·rename_i xs ys;split at c
  ·rename_i q;cases c;cases v with
   |tup C m=>
    cases r2 with
    |tup B k=>
     rename_i f a1 l a2;by_cases D:f=[]
     ·subst D;have:xs=[]:=by cases m;rfl
      subst this;cases o;cases t;obtain⟨A,G,K,_⟩:=I.tuple C;obtain⟨E,ao,p2,_⟩:=I.tuple B;have:A=[]:=G.nil_iff.mpr O;subst this;exact xn K p2 ⟨.ref a2,H,I,O,hc.now (.tup B k) g⟩
     ·refine Bq ag s σ H _ _ u w Q I o t ⟨a1,a2,f,l,O,O,C,B,D,by rw[<- m.length,<- k.length];exact q,λz=>?_,λz p n=>?_⟩
      ·subst z;have:ys=[]:=by cases k;rfl
       subst this;rw[aM]at hc;exact hc.now (.tup C m) g
      ·exact hc _ _ mu (Ext.fresh n) (.tup (jn.of d4) ((m.append k).ext (Ext.fresh n))) (g.fresh n)
  ·cases c
 ·rename_i i j;split at c
  ·rename_i q;cases c;cases v;cases r2;exact ug ag s σ H _ _ u w Q I o t ⟨i,j,O,O,q,hc.now (.str _) g⟩
  ·cases c
 ·rename_i a b;split at c
  ·rename_i xs ys au P;split at c
   ·rename_i q;cases c;cases v with
    |ref F=>
     cases r2 with
     |ref am=>
      obtain⟨f,N,m⟩:=g.lst au F;obtain⟨l,L,k⟩:=g.lst P am;refine D7 ag s σ H _ _ u w Q I o t ⟨_,_,f,l,O,O,N,L,by rw[<- m.length,<- k.length];exact q,λp n=>?_⟩;exact hc _ _ (mu++[p]) (Ext.new_ n) (.ref (fZ g.len p)) (g.newL (m.append k) n)
   ·cases c
  ·cases c
 ·cases c
end
noncomputable def iK(p:Int->Int->Bool):G2:=λd e S=>match d,e with
 | .int i,.int j=>Z (.bl (p i j),S)
 |_,_=>Y
section
variable{X:Cx}
theorem vM{p:Int->Int->Bool}(d e:D)(S:Sto)(r:D)(a:Sto)(h:iK p d e S=Z (r,a)):∃i j,d = .int i/\e = .int j/\r = .bl (p i j)/\a=S:=by
 unfold iK at h;split at h
 ·cases h;exact⟨_,_,O,O,O,O⟩
 ·cases h
theorem zd:gn X (compareOp .Gt) (r2 X.K (b2 (iK λi j=>decide (j<i)))):=mU vM (λ_ _ _ _ _=>.bl _) Gf
theorem Gm:gn X (compareOp .GtE) (r2 X.K (b2 (iK λi j=>decide (j<=i)))):=mU vM (λ_ _ _ _ _=>.bl _) Gg
end
noncomputable def kB:D->Bool
 | .non=>M
 | .bl _=>M
 | .int _=>M
 | .str _=>M
 |_=>J
noncomputable def HE:D->D->Option Bool
 | .non,.non=>some true
 | .bl a,.bl b=>some (a == b)
 | .bl a,.int b=>some ((if a then 1 else 0) == b)
 | .int a,.bl b=>some (a == (if b then 1 else 0))
 | .int a,.int b=>some (a == b)
 | .str a,.str b=>some (a == b)
 |d,e=>if kB d&&kB e then some false else none
noncomputable def nL(f:D->D->Option Bool):List D->List D->Option Bool
 |x::xs,y::ys=>(f x y).bind λb=>(nL f xs ys).map λc=>b&&c
 |[],[]=>Z M
 |_,_=>Z J
noncomputable def gp(S:Sto):Nat->D->D->Option Bool
 |0,_,_=>Y
 |n+1,d,e=>match d6 S d,d6 S e with
  |some p,Z q=>if p.1=q.1 then(if p.1=M/\p.2.length≠q.2.length then Z J else nL (gp S n) p.2 q.2)else Z J
  |some _,Y=>if kB e=M then Z J else Y
  |none,Z _=>if kB d=M then Z J else Y
  |none,Y=>HE d e
section
variable{X:Cx}{ag:List (dE×Obj)}{σ:L2.St}{H:Hp}{s:dD}{mu:List dE}{S:Sto}
theorem gO{K:Fg1}{d:D}{v:V}(r:eJ K H mu d v)(h:kB d=M):nv v=M /\ ∀e w,eJ K H mu e w->kB e=M->HE d e=Z (uD v w):=by
 cases d with
 |non=>cases r;refine⟨O,λe w q f=>?_⟩;cases e with
  |non=>cases q;rfl
  |bl _=>cases q;rfl
  |int _=>cases q;rfl
  |str _=>cases q;rfl
  |_=>cases f
 |bl b=>cases r;refine⟨O,λe w q f=>?_⟩;cases e with
  |non=>cases q;rfl
  |bl _=>cases q;rfl
  |int _=>cases q;rfl
  |str _=>cases q;rfl
  |_=>cases f
 |int i=>cases r;refine⟨O,λe w q f=>?_⟩;cases e with
  |non=>cases q;rfl
  |bl _=>cases q;rfl
  |int _=>cases q;rfl
  |str _=>cases q;rfl
  |_=>cases f
 |str x=>cases r;refine⟨O,λe w q f=>?_⟩;cases e with
  |non=>cases q;rfl
  |bl _=>cases q;rfl
  |int _=>cases q;rfl
  |str _=>cases q;rfl
  |_=>cases f
 |_=>cases h
theorem sJ{d e:D}{b:Bool}(h:HE d e=Z b):kB d=M/\kB e=M:=by
 cases d<;>cases e<;>first|exact⟨rfl,rfl⟩|(cases h;done)|exact nomatch h|(simp[HE,kB]at h)
theorem Ac{v:V}(h:nv v=M):uD v v=M:=by
 cases v<;>first|rfl|(cases h;done)|exact beq_self_eq_true _|(simp[uD];done)
theorem sI(I:Inv X ag σ H s)(hs:Sim X.K H mu S):∀(n:Nat) {d e:D} {v:V} {b:Bool},eJ X.K H mu d v->eJ X.K H mu e v->gp S n d e=Z b->b=M
 |0,_,_,_,_,_,_,h=>by cases h
 |n + 1,d,e,v,b,y,l,h=>by
  rw[gp]at h;have g:∀{xs ys:List D} {vs:List V} {b:Bool},d0 X.K H mu xs vs->d0 X.K H mu ys vs->nL (gp S n) xs ys=Z b->b=M:=by
   intro xs
   induction xs with
   |nil=>intro ys vs b u B h;cases u;cases B;cases h;rfl
   |cons x xs ih=>
    intro ys vs b u B h;cases u with
    |cons r t=>
     cases B with
     |cons au T=>
      rw[nL]at h;obtain⟨b1,j,h⟩:=oB1.mp h;obtain⟨b2,c,h⟩:=oM1.mp h;subst h;rw[sI I hs n r au j,ih t T c];rfl
  cases hd:d6 S d with
  |some p=>
   obtain⟨E,xs⟩:=p;obtain⟨a,vs,rfl,q,t⟩:=ev y hs hd;cases he:d6 S e with
   |some p2=>
    obtain⟨qb,ys⟩:=p2;obtain⟨a2,A,c,w,z⟩:=ev l hs he;cases c;rw[hd,he]at h;dsimp only at h;obtain⟨G,U,F,_⟩:=fz I q;obtain⟨C,P,i,_⟩:=fz I w;have ao:E=qb:=by
     cases E<;>cases qb
     ·rfl
     ·obtain⟨o,j,m,_⟩:=F;obtain⟨Q,c,k,_⟩:=i;rw[j]at c;cases c;rw[m]at k;exact absurd k (by decide)
     ·obtain⟨o,j,m,_⟩:=F;obtain⟨Q,c,k,_⟩:=i;rw[j]at c;cases c;rw[m]at k;exact absurd k (by decide)
     ·rfl
    subst ao;have am:=l9 I q w;subst am;rw[ak O,aj (by rw[t.length,z.length];simp)]at h;exact g t z h
   |none=>
    rw[hd,he]at h;dsimp only at h;split at h
    ·rename_i f;have:=(gO l f).1;cases this
    ·cases h
  |none=>
   cases he:d6 S e with
   |some p2=>
    obtain⟨qb,ys⟩:=p2;obtain⟨a2,A,c,w,z⟩:=ev l hs he;subst c;rw[hd,he]at h;dsimp only at h;split at h
    ·rename_i f;have:=(gO y f).1;cases this
    ·cases h
   |none=>
    rw[hd,he]at h;dsimp only at h;obtain⟨K,N⟩:=sJ h;obtain⟨R,L⟩:=gO y K;rw[L e v l N]at h;cases h;exact Ac R
theorem fh{A:dG}{b:Bool}{a:dE}{its:Array dB}{v:V}{u:dB}(c:SCo b s.heap a its)(r:d7 v u)(f:nv v=true)(d:A.units<cLine):
   SeqAt.EqAt A s (.ref a) u J/\SeqAt.EqAt A s u (.ref a) J/\SeqAt.RcAt A s (.ref a) u J/\SeqAt.RcAt A s u (.ref a) J:=by
 cases v with
 | non => cases r;cases b
          · exact⟨.tuple_none c d,.none_tuple c d,.tuple_none c d,.none_tuple c d⟩
          · exact⟨.list_none c d,.none_list c d,.list_none c d,.none_list c d⟩
 | bl k => cases r;cases b
           · exact⟨.tuple_bool k c d,.bool_tuple k c d,.tuple_bool k c d,.bool_tuple k c d⟩
           · exact⟨.list_bool k c d,.bool_list k c d,.list_bool k c d,.bool_list k c d⟩
 | int i => obtain ⟨t,rfl⟩:=r;cases b
            · exact⟨.tuple_int i t c d,.int_tuple i t c d,.tuple_int i t c d,.int_tuple i t c d⟩
            · exact⟨.list_int i t c d,.int_list i t c d,.list_int i t c d,.int_list i t c d⟩
 | str x => obtain ⟨t,rfl⟩:=r;cases b
            · exact⟨.tuple_str x t c d,.str_tuple x t c d,.tuple_str x t c d,.str_tuple x t c d⟩
            · exact⟨.list_str x t c d,.str_list x t c d,.list_str x t c d,.str_list x t c d⟩
 |_=>cases f
theorem A3{A:dG}{x y:V}{u w:dB}(e:d7 x u)(a:d7 y w)(h:nv x=M)(c:nv y=M):SeqAt.RcAt A s u w (uD x y):=by
 cases x with
 |non=>cases e;cases y with
  |non=>cases a;exact .none_none
  |bl k=>cases a;exact .none_bool k
  |int i=>obtain⟨t,rfl⟩:=a;exact .none_int i t
  |str z=>obtain⟨t,rfl⟩:=a;exact .none_str z t
  |_=>cases c
 |bl g=>cases e;cases y with
  |non=>cases a;exact .bool_none g
  |bl k=>cases a;exact .bool_bool g k
  |int i=>obtain⟨t,rfl⟩:=a;exact .bool_int g i t
  |str z=>obtain⟨t,rfl⟩:=a;exact .bool_str g z t
  |_=>cases c
 |int d=>obtain⟨b,rfl⟩:=e;cases y with
  |non=>cases a;exact .int_none d b
  |bl k=>cases a;exact .int_bool d b k
  |int i=>obtain⟨t,rfl⟩:=a;exact .int_int d b i t
  |str z=>obtain⟨t,rfl⟩:=a;exact .int_str d b z t
  |_=>cases c
 |str f=>obtain⟨b,rfl⟩:=e;cases y with
  |non=>cases a;exact .str_none f b
  |bl k=>cases a;exact .str_bool f b k
  |int i=>obtain⟨t,rfl⟩:=a;exact .str_int f b i t
  |str z=>obtain⟨t,rfl⟩:=a;exact .str_str f b z t
  |_=>cases c
 |_=>cases h
theorem Ad(f:D->D->Option Bool):∀{xs ys:List D} {b:Bool},nL f xs ys=Z b -> ∃e:Nat->Bool,(∀j x y,xs[j]?=Z x->ys[j]?=Z y->f x y=Z (e j))/\b=((af (min xs.length ys.length)).all e&&xs.length == ys.length)
 |[],[],b,h=>by cases h;exact⟨λ_=>M,λj x y h=>by simp at h,O⟩
 |[],y::ys,b,h=>by cases h;exact⟨λ_=>M,λj x y h=>by simp at h,by simp⟩
 |x::xs,[],b,h=>by cases h;exact⟨λ_=>M,λj x y h h'=>by simp at h',by simp⟩
 |x::xs,y::ys,b,h=>by
  rw[nL]at h;obtain⟨b1,i,h⟩:=oB1.mp h;obtain⟨b2,d,h⟩:=oM1.mp h;obtain⟨e,m,g⟩:=Ad f d;refine⟨λj=>match j with|0=>b1|j+1=>e j,λj k l c a=>?_,?_⟩
  ·cases j with
   |zero=>simp at c a;subst c;subst a;exact i
   |succ j=>exact m j k l (by simpa using c) (by simpa using a)
  ·rw[<- h,g,lC1,lC1,Nat.succ_min_succ,List.range_succ_eq_map,bR,List.all_map];have:((xs.length+1 == ys.length+1):Bool)=(xs.length == ys.length):=by simp
   rw[this,Bool.and_assoc];rfl
theorem ny(I:Inv X ag σ H s)(hs:Sim X.K H mu S):∀(n:Nat) {A:dG} {d e:D} {v w:V} {u z:dB} {b:Bool},A.units+n<cLine->eJ X.K H mu d v->eJ X.K H mu e w->d7 v u->d7 w z->gp S n d e=Z b->SeqAt.EqAt A s u z b/\SeqAt.RcAt A s u z b
 |0,_,_,_,_,_,_,_,_,_,_,_,_,_,h=>by cases h
 |n + 1,A,d,e,v,w,u,z,b,hu,au,r,R,L,h=>by
  have g:A.units<cLine:=by lia
  have h0:=h;rw[gp]at h;cases hd:d6 S d with
  |some p=>
   obtain⟨pb,xs⟩:=p;obtain⟨a,vs,rfl,q,t⟩:=ev au hs hd;obtain⟨k,N,o,_⟩:=fz I q;cases R;cases he:d6 S e with
   |some p2=>
    obtain⟨qb,ys⟩:=p2;obtain⟨a2,F,rfl,U,Q⟩:=ev r hs he;obtain⟨c,l,i,_⟩:=fz I U;cases L;rw[hd,he]at h;dsimp only at h;have m:SeqAt.RcAt A s (.ref a) (.ref a2) b->SeqAt.EqAt A s (.ref a) (.ref a2) b/\SeqAt.RcAt A s (.ref a) (.ref a2) b:=λrc=>by
     refine⟨?_,rc⟩;by_cases ha:a=a2
     ·subst ha;rw[sI I hs (n+1) au r h0];exact .same _
     ·exact .of_refs ha rc
    split at h
    ·rename_i P;have W:pb=qb:=P;subst W;split at h
     ·rename_i aq;cases h;obtain⟨h1,h2⟩:=aq;subst h1;refine m (.lists_lengths o i ?_ g);have l1:=t.length;have l2:=Q.length;have l3:=N.length;have l4:=l.length
      simp only[sT1,bne_iff_ne,ne_eq];lia
     ·rename_i aq;obtain ⟨f,hf,G⟩:=Ad _ h;have elts:∀ j (h1:j<k.toArray.size) (h2:j<c.toArray.size),SeqAt.EqAt A.in1 s k.toArray[j] c.toArray[j] (f j):=fun j h1 h2=>by
       have am:j<k.length:=by simpa using h1
       have B:j<c.length:=by simpa using h2
       have k1:j<vs.length:=by rw[N.length];exact am
       have k2:j<F.length:=by rw[l.length];exact B
       obtain⟨x,ex,rx⟩:=t.getV (gG1 k1);obtain⟨y,ey,ry⟩:=Q.getV (gG1 k2);obtain⟨u1,C,T⟩:=N.get (gG1 k1);obtain⟨u2,E,ru2⟩:=l.get (gG1 k2);have K:k.toArray[j]=u1:=by
        rw[gG1 am]at C;simpa using C
       have wq:c.toArray[j]=u2:=by
        rw[gG1 B]at E;simpa using E
       rw[K,wq];exact(ny I hs n (A:=A.in1) (by show A.units+1+n<cLine;lia) rx ry T ru2 (hf j x y ex ey)).1
      have l1:=t.length;have l2:=Q.length;have l3:=N.length;have l4:=l.length
      cases pb with
      |false=>
       refine m ?_;have:=SeqAt.RcAt.tuples o i g elts;rw[G];have K:k.toArray.size=xs.length:=by simp;lia
       have wq:c.toArray.size=ys.length:=by simp;lia
       rw[K,wq]at this;exact this
      |true=>
       refine m ?_;have ao:xs.length=ys.length:=by
        by_cases z:xs.length=ys.length
        ·exact z
        ·exact absurd ⟨O,z⟩ aq
       have:=SeqAt.RcAt.lists o i (by simp;lia) g elts;rw[G];have K:k.toArray.size=xs.length:=by simp;lia
       rw[K]at this;rw[ao,Nat.min_self,beq_self_eq_true,bO,<- ao];exact this
    ·rename_i P;cases h;cases pb with
     |true=>
      cases qb with
      |true=>exact absurd O P
      |false=>exact⟨.list_tuple o i g,.list_tuple o i g⟩
     |false=>
      cases qb with
      |false=>exact absurd O P
      |true=>exact⟨.tuple_list o i g,.tuple_list o i g⟩
   |none=>
    rw[hd,he]at h;dsimp only at h;split at h
    ·rename_i f;cases h;obtain⟨r1,r2,r3,r4⟩:=fh o L (gO r f).1 g;exact⟨r1,r3⟩
    ·cases h
  |none=>
   cases he:d6 S e with
   |some p2=>
    obtain⟨qb,ys⟩:=p2;obtain⟨a2,F,rfl,U,Q⟩:=ev r hs he;obtain⟨c,l,i,_⟩:=fz I U;cases L;rw[hd,he]at h;dsimp only at h;split at h
    ·rename_i f;cases h;obtain⟨r1,r2,r3,r4⟩:=fh i R (gO au f).1 g;exact⟨r2,r4⟩
    ·cases h
   |none=>
    rw[hd,he]at h;dsimp only at h;obtain⟨f1,f2⟩:=sJ h;obtain⟨g1,g2⟩:=gO au f1;have g3:=(gO r f2).1;rw[g2 e w r f2]at h;cases h;exact⟨jH R L g1 g3,A3 R L g1 g3⟩
end
noncomputable def eN:Nat:=60
noncomputable def oT:G2:=λd e S=>(gp S eN d e).map λb=>(.bl b,S)
section
variable{X:Cx}
theorem k7(l:X.A.units+64<cLine):gn X (compareOp .Eq) (r2 X.K (b2 oT)):=by
 intro ag s σ H x y u w Q I i f h;obtain⟨mu,S,d,e,r,k,j,r2,c,a,hc⟩:=ou h;obtain⟨b,g,a⟩:=oM1.mp a;cases a;exact(ny I c eN (by show _+60<cLine;lia) j r2 i f g).2 X.prog X.w X.xe _ ⟨.bl b,H,I,O,hc.now (.bl b) c⟩
end
section
variable{X:Cx}{ag:List (dE×Obj)}{σ:L2.St}{H:Hp}{s:dD}{mu:List dE}{S:Sto}
end
noncomputable def Ja:G2:=λd e S=>(gp S eN d e).map λb=>(.bl (!b),S)
noncomputable def AE(f:D->D->Option Bool)(x:D):List D->Option Bool
 |[]=>Z J
 |y::ys=>(f y x).bind λb=>(AE f x ys).map λc=>b||c
noncomputable def Ft:G2:=λd e S=>(d6 S e).bind λp=>(AE (gp S eN) d p.2).map λb=>(.bl b,S)
noncomputable def lg:G2:=λd e S=>(d6 S e).bind λp=>(AE (gp S eN) d p.2).map λb=>(.bl (!b),S)
noncomputable def oR:D->Bool
 | .non=>M
 |_=>J
noncomputable def IA:G2:=λd e S=>match e with
 | .non=>Z (.bl (oR d),S)
 |_=>Y
noncomputable def Ca:G2:=λd e S=>match e with
 | .non=>Z (.bl (!oR d),S)
 |_=>Y
section
variable{X:Cx}
theorem zK(f:D->D->Option Bool)(x:D):∀{ys:List D} {b:Bool},AE f x ys=Z b -> ∃bs:List Bool,bs.length=ys.length/\(∀(j:Nat) (y:D) (k:Bool),ys[j]?=Z y->bs[j]?=Z k->f y x=Z k)/\b=bs.any id
 |[],b,h=>by cases h;exact⟨[],O,λj y k h=>by simp at h,O⟩
 |y::ys,b,h=>by
  rw[AE]at h;obtain⟨b1,l,h⟩:=oB1.mp h;obtain⟨b2,e,h⟩:=oM1.mp h;obtain⟨bs,g,i,a⟩:=zK f x e;refine⟨b1::bs,by simp[g],λj m k d c=>?_,?_⟩
  ·cases j with
   |zero=>simp at d c;subst d;subst c;exact l
   |succ j=>exact i j m k (by simpa using d) (by simpa using c)
  ·rw[<- h,a];simp
open Classical in
theorem CP{ag:List (dE×Obj)}{σ:L2.St}{H:Hp}{s:dD}{mu:List dE}{S:Sto}(I:Inv X ag σ H s)(hs:Sim X.K H mu S){A:dG}(K:A.units+61<cLine){x:D}{v:V}{u:dB}(r:eJ X.K H mu x v)(C:d7 v u){ys:List D}{vs:List V}{a:List dB}{b:Bool}(o:d0 X.K H mu ys vs)(m:ei vs a)(h:AE (gp S eN) x ys=Z b):∃e:dB->Bool,(∀w∈a,SeqAt.EqAt A.in1 s w u (e w))/\a.any e=b:=by
 obtain⟨bs,am,t,rfl⟩:=zK _ x h;have G:=o.length;have ao:=m.length;have at_:∀(j:Nat) w k,a[j]?=Z w->bs[j]?=Z k->SeqAt.EqAt A.in1 s w u k:=λj w k g f=>by
  have n:j<a.length:=(gE1.mp g).1;obtain⟨y,E,B⟩:=o.getV (i:=j) (v:=vs[j]'(by lia)) (gG1 (by lia));obtain⟨L,q,r2⟩:=m.get (i:=j) (x:=vs[j]'(by lia)) (gG1 (by lia));rw[g]at q;cases q;exact(ny I hs eN (A:=A.in1) (by show A.units+1+60<cLine;lia) B r r2 C (t j y k E f)).1
 refine⟨λw=>decide (∃j:Nat,a[j]?=Z w/\bs[j]?=Z M),λw g=>?_,?_⟩
 ·by_cases z:∃j:Nat,a[j]?=Z w/\bs[j]?=Z M
  ·dsimp only;rw[ah z];obtain⟨j,p,c⟩:=z;exact at_ j w M p c
  ·dsimp only;rw[ai z];obtain⟨j,d⟩:=br g;have n:j<a.length:=(gE1.mp d).1;have l:j<bs.length:=by lia
   have c:=gG1 l;cases f:bs[j]with
   |true=>rw[f]at c;exact absurd ⟨j,d,c⟩ z
   |false=>rw[f]at c;exact at_ j w J d c
 ·rw[bS,bT,bT];constructor
  ·rintro⟨w,g,z⟩;obtain⟨j,p,c⟩:=of_decide_eq_true z;exact⟨M,gM1 c,O⟩
  ·rintro⟨k,f,z⟩;obtain⟨j,d⟩:=br f;have n:j<bs.length:=(gE1.mp d).1;have l:j<a.length:=by lia
   have F:k=M:=z;subst F;exact⟨a[j],bU l,ah ⟨j,gG1 l,d⟩⟩
theorem Im(F:X.A.units+64<cLine):gn X (compareOp .In) (r2 X.K (b2 Ft)):=by
 intro ag s σ H x y u w Q I B v h;obtain⟨mu,S,d,e,r,E,D,r2,k,i,hc⟩:=ou h;obtain⟨⟨o,ys⟩,z,i⟩:=oB1.mp i;obtain⟨b,n,i⟩:=oM1.mp i;cases i;obtain⟨a,vs,rfl,q,t⟩:=ev r2 k z;cases v;obtain⟨c,C,m,_⟩:=fz I q;obtain⟨f,l,p⟩:=CP I k (A:=X.A) (by lia) D B t C n;have g:EP X ag σ Q (.bool (c.toArray.any f)) s:=⟨.bl b,H,I,by rw[show c.toArray.any f=c.any f by simp,p];rfl,hc.now (.bl b) k⟩;cases o
 ·exact SeqAt.in_tupleAt f m (λy j=>l y (by simpa using j)) g
 ·exact SeqAt.in_listAt f m (λy j=>l y (by simpa using j)) g
theorem Bu(F:X.A.units+64<cLine):gn X (compareOp .NotIn) (r2 X.K (b2 lg)):=by
 intro ag s σ H x y u w Q I B v h;obtain⟨mu,S,d,e,r,E,D,r2,k,i,hc⟩:=ou h;obtain⟨⟨o,ys⟩,z,i⟩:=oB1.mp i;obtain⟨b,n,i⟩:=oM1.mp i;cases i;obtain⟨a,vs,rfl,q,t⟩:=ev r2 k z;cases v;obtain⟨c,C,m,_⟩:=fz I q;obtain⟨f,l,p⟩:=CP I k (A:=X.A) (by lia) D B t C n;have g:EP X ag σ Q (.bool (!c.toArray.any f)) s:=⟨.bl (!b),H,I,by rw[show c.toArray.any f=c.any f by simp,p];rfl,hc.now (.bl _) k⟩;cases o
 ·exact SeqAt.notIn_tupleAt f m (λy j=>l y (by simpa using j)) g
 ·exact SeqAt.notIn_listAt f m (λy j=>l y (by simpa using j)) g
theorem vq{K:Fg1}{H:Hp}{mu:List dE}{d:D}{v:V}(r:eJ K H mu d v):oR d=decide (v = .non):=by
 cases r<;>simp[oR]
theorem Gj:gn X (compareOp .Is) (r2 X.K (b2 IA)):=by
 intro ag s σ H x y u w Q I c b h;obtain⟨mu,S,d,e,r,i,f,r2,g,a,hc⟩:=ou h;cases e with
 |non=>
  cases a;cases r2;refine D6 ag s σ H _ _ u w Q I c b ⟨O,?_⟩;rw[<- vq f];exact hc.now (.bl _) g
 |_=>cases a
theorem Eb:gn X (compareOp .IsNot) (r2 X.K (b2 Ca)):=by
 intro ag s σ H x y u w Q I c b h;obtain⟨mu,S,d,e,r,i,f,r2,g,a,hc⟩:=ou h;cases e with
 |non=>
  cases a;cases r2;refine Bo ag s σ H _ _ u w Q I c b ⟨O,?_⟩;rw[<- vq f];exact hc.now (.bl _) g
 |_=>cases a
end
noncomputable def eS:G1:=λd S=>match d with
 | .str x=>if x.length<=dL then Z (.int x.length,S)else Y
 |_=>(d6 S d).map λp=>(.int p.2.length,S)
noncomputable def zS:G2:=λd e S=>match e with
 | .int i=>(d6 S d).bind λp=>(tE p.2 i).map λx=>(x,S)
 |_=>Y
noncomputable def gTup:G1:=λd S=>(d6 S d).map λp=>(.tup p.2,S)
noncomputable def jG:G3:=λo i v S=>match o,i with
 | .ref n,.int k=>match S[n]? with
  |some (.lst xs)=>(vE xs.length k).map λj=>(.non,S.set n (.lst (xs.set j v)))
  |_=>Y
 |_,_=>Y
noncomputable def nV:G1:=λd S=>match d with
 | .int i=>Z (.int i,S)
 | .bl b=>Z (.int (if b then 1 else 0),S)
 |_=>Y
noncomputable def B7:G2:=λd e S=>match d,e with
 | .int i,.int j=>Z (.int (if j>i then j else i),S)
 |_,_=>Y
noncomputable def B6:G2:=λd e S=>match d,e with
 | .int i,.int j=>Z (.int (if j<i then j else i),S)
 |_,_=>Y
section
variable{X:Cx}
theorem fy:fj X (.builtin "len") (rN X.K (b1 eS)):=by
 intro ag s σ H xs g Q I r h;obtain⟨x,mu,S,d,l,k,rfl,f,e,c,hc⟩:=DB h;unfold eS at c;split at c
 ·split at c
  ·rename_i z i;cases c;cases f;exact qC ag s σ H _ g Q I r ⟨_,O,i,hc.now (.int _) e⟩
  ·cases c
 ·obtain⟨⟨b,ys⟩,j,c⟩:=oM1.mp c;cases c;obtain⟨a,vs,rfl,q,t⟩:=ev f e j;refine qL ag s σ H _ g Q I r ⟨a,vs,O,?_,?_⟩
  ·cases b
   ·exact .inr q
   ·exact .inl q
  ·rw[<- t.length];exact hc.now (.int _) e
theorem Cu{K:Fg1}{H:Hp}{mu:List dE}{ds:List D}{vs:List V}{i:Int}{d:D}(t:d0 K H mu ds vs)(h:tE ds i=Z d):∃v,tE vs i=Z v/\eJ K H mu d v:=by
 unfold tE at h ⊢;rw[<- t.length];obtain⟨j,c,h⟩:=oB1.mp h;obtain⟨v,b,a⟩:=t.get h;exact⟨v,by rw[c];exact b,a⟩
theorem HK:C3 X (r2 X.K (b2 zS)):=by
 intro value c ag s σ H x y v u Q I l k h g;obtain⟨mu,S,d,e,r,B,A,r2,j,f,hc⟩:=ou h;cases e with
 |int i=>
  obtain⟨⟨b,ys⟩,w,f⟩:=oB1.mp f;obtain⟨z,p,f⟩:=oM1.mp f;cases f;cases r2;obtain⟨a,vs,rfl,q,t⟩:=ev A j w;obtain⟨m,o,n⟩:=Cu t p;cases b
  ·exact EU value c ag s σ H _ _ v u Q I l k ⟨a,vs,i,m,O,O,q,o,hc.now n j⟩ g
  ·exact BV value c ag s σ H _ _ v u Q I l k ⟨a,vs,i,m,O,O,q,o,hc.now n j⟩ g
 |_=>cases f
theorem fb:fj X (.type "tuple") (rN X.K (b1 gTup)):=by
 intro ag s σ H xs j Q I r h;obtain⟨x,mu,S,d,m,k,rfl,i,e,f,hc⟩:=DB h;obtain⟨⟨b,ys⟩,g,f⟩:=oM1.mp f;cases f;obtain⟨a,vs,rfl,q,t⟩:=ev i e g;refine n0 ag s σ H _ j Q I r ⟨a,vs,O,?_⟩;cases b
 ·exact .inr ⟨q,hc.now (.tup q t) e⟩
 ·exact .inl ⟨q,λl c=>hc _ _ mu (Ext.fresh c) (.tup (jn.of d4) (t.ext (Ext.fresh c))) (e.fresh c)⟩
theorem F0:uN X (rU X.K (b3 jG)):=by
 intro ag s σ H o i v r m u Q I B A g h;obtain⟨mu,S,ds,d,G,x,f,a,hc⟩:=h;cases x with
 |cons w C=>cases C with
  |cons l p=>cases p with
   |cons y q=>
    cases q;rename_i E F D;dsimp only[b3]at a;unfold jG at a;split at a
    ·rename_i n k;split at a
     ·rename_i xs e;obtain⟨j,z,a⟩:=oM1.mp a;cases a;cases w with
      |ref b=>
       cases l;obtain⟨vs,c,t⟩:=f.lst e b;refine yt ag s σ H _ _ v r m u Q I B A g ⟨_,vs,k,j,O,O,c,by rw[<- t.length];exact z,?_⟩;exact hc _ mu (Ext.put c trivial (gM1 b)) (f.putL (t.set y j) b c)
     ·cases a
    ·cases a
theorem v6:fj X (.type "int") (rN X.K (b1 nV)):=by
 intro ag s σ H xs f Q I r h;obtain⟨x,mu,S,d,j,g,rfl,c,e,a,hc⟩:=DB h;cases d with
 |int i=>cases a;cases c;exact pg ag s σ H _ f Q I r (.inl ⟨i,O,hc.now (.int _) e⟩)
 |bl b=>cases a;cases c;exact pg ag s σ H _ f Q I r (.inr ⟨b,O,hc.now (.int _) e⟩)
 |_=>cases a
theorem G9(hc:X.calm=M):fj X (.builtin "max") (rN X.K (b2 B7)):=by
 intro ag s σ H xs c Q I r h;obtain⟨x,y,mu,S,d,e,j,i,rfl,f,r2,g,a,b⟩:=yx h;unfold B7 at a;split at a
 ·cases a;cases f;cases r2;exact xw hc ag s σ H _ c Q I r ⟨_,_,O,b.now (.int _) g⟩
 ·cases a
theorem G8(hc:X.calm=M):fj X (.builtin "min") (rN X.K (b2 B6)):=by
 intro ag s σ H xs c Q I r h;obtain⟨x,y,mu,S,d,e,j,i,rfl,f,r2,g,a,b⟩:=yx h;unfold B6 at a;split at a
 ·cases a;cases f;cases r2;exact xu hc ag s σ H _ c Q I r ⟨_,_,O,b.now (.int _) g⟩
 ·cases a
end
open PySem.SeqAt
open PySem.AutoSeq1 (wpAny_loadPart')
open PySem.MeetsSeq PySem.MeetsSeq2 PySem.MeetsSeq3
def Az(A:dG)(s:dD)(y x:dB)(b:Bool):Prop:=∀(prog:dF) (w:dH) (E:dB->dD->Prop) (Q:dB->dD->Prop),Q (.bool b) s->dM (model prog w) A (richCompare .Lt y x) Q E s
inductive tu (A:dG)(s:dD):List dB->List dB->Bool->Prop
 |nn:tu A s [] [] false
 |nc (y:dB) (ys:List dB):tu A s [] (y::ys) true
 |cn (x:dB) (xs:List dB):tu A s (x::xs) [] false
 |eq {x y:dB} {xs ys:List dB} {k:Bool} (e:EqAt A.in1 s x y true) (t:tu A s xs ys k):tu A s (x::xs) (y::ys) k
 |lt {x y:dB} {xs ys:List dB} {k:Bool} (e:EqAt A.in1 s x y false) (t:Az A.in1 s x y k):tu A s (x::xs) (y::ys) k
theorem De(l b:dE)(items items2:Array dB)(n z:Nat)(dd o:Option dE)(sl p:Array (Option dB))(c:Bool):
  Meets (Builtin.«tuple.__lt__» ⟨[.ref l,.ref b],[]⟩) (fun A R s=>s.heap.get? l=some {cls:=.type "tuple",dict:=dd,data:=.seq items n,slots:=sl}/\s.heap.get? b=some {cls:=.type "tuple",dict:=o,data:=.seq items2 z,slots:=p} /\
    tu A s items.toList items2.toList c/\R (.ok (.ret (.bool c))) s):=
 .of_wp λprog w A R s h=>by
  obtain⟨u,g,d,tk,v⟩:=s;obtain⟨C,D,F,h⟩:=h;have G:=AutoSeq1.sub_tuple_tuple
  wp_walk using wpAny_loadPart' C,wpAny_loadPart' D,wpAny_forIn_list _ (λrest b s'=>b.1=Y/\s'=⟨u,g,d,tk,v⟩ /\ ∃vs ws:List dB,rest=vs.zip ws/\tu A ⟨u,g,d,tk,v⟩ vs ws c/\vs.length+items2.size=ws.length+items.size) _
  case turn=>
   rintro⟨y,x⟩ rest b s' ⟨j,rfl,vs,ws,f,r,a⟩;cases r with
   |nn=>cases f
   |nc _ _=>cases f
   |cn _ _=>cases f
   |eq e t=>
    rw[bV]at f;injection f with k i;injection k with q m;subst q m
    simp only[lC1]at a;refine wB1 (e prog w _ _ ?_)
    wp_walk
    exact⟨O,O,_,_,i,t,by lia⟩
   |lt e t=>
    rw[bV]at f;injection f with k i;injection k with q m;subst q m
    refine wB1 (e prog w _ _ ?_);have E:=t prog w
    wp_walk using E
    exact⟨_,O,by simpa using h⟩
  case fin=>
   rintro⟨b1,b2⟩ s' ⟨j,rfl,vs,ws,f,r,a⟩;simp only at j;subst j;have B:c=decide (items.size<items2.size):=by
    cases r with
    |nn=>simp only[bf]at a;exact(ai (by lia)).symm
    |nc _ _=>simp only[bf,lC1]at a;exact(ah (by lia)).symm
    |cn _ _=>simp only[bf,lC1]at a;exact(ai (by lia)).symm
    |eq _ _=>rw[bV]at f;cases f
    |lt _ _=>rw[bV]at f;cases f
   rw[B]at h
   wp_walk
   exact⟨_,O,by simpa[Builtin.Tuple.tupleCompareSizes]using h⟩
  case h=>exact⟨O,O,items.toList,items2.toList,O,F,by simp;lia⟩
theorem zy(l b:dE)(items items2:Array dB)(n D:Nat)(dd u:Option dE)(sl x:Array (Option dB))(c:Bool)(k:Nat):
  ∀i:Nat,items.size-i=k->i<=items.size->i<=items2.size->Meets (Builtin.«list.__eq__.loop» ⟨[.ref l,.ref b,rawInt i,rawInt 0],[]⟩)
   (λA R s=>s.heap.get? l=Z {cls:=.type "list",dict:=dd,data:=.seq items n,slots:=sl}/\s.heap.get? b=Z {cls:=.type "list",dict:=u,data:=.seq items2 D,slots:=x} /\
    tu A s (items.toList.drop i) (items2.toList.drop i) c/\R (.ok (.ret (.bool c))) s):=by
 induction k with
 |zero=>
  intro i F B r prog w A R s h;obtain⟨I,g,d,tk,G⟩:=s;obtain⟨f,j,a,h⟩:=h
  wp_walk using wpAny_loadPart' f,wpAny_loadPart' j
  have o:items[((i:Nat):Int).toNat]?=Y:=by simp;lia
  have v:items.toList.drop i=[]:=by simp;lia
  rw[v]at a;rw[o]
  wp_walk using wpAny_loadPart' f,wpAny_loadPart' j
  have E:c=decide (items.size<items2.size):=by
   cases h2:items2.toList.drop i with
   |nil=>
    rw[h2]at a;cases a;have:=congrArg List.length h2;simp at this;exact(ai (by lia)).symm
   |cons y ys=>
    rw[h2]at a;cases a;have:=congrArg List.length h2;simp at this;exact(ah (by lia)).symm
  show R (.ok (.ret (.bool (decide (items.size<items2.size))))) _;rw[<- E];exact h
 |succ k ih=>
  intro i F B r prog w A R s h;obtain⟨I,g,d,tk,G⟩:=s;obtain⟨f,j,a,h⟩:=h;have p:i<items.size:=by lia
  have v:items.toList.drop i=items[i]::items.toList.drop (i+1):=by simp[bW,p]
  have o:items[((i:Nat):Int).toNat]?=Z items[i]:=by simp[p]
  have hc:((i:Int)+1)=((i+1:Nat):Int):=by push_cast;rfl
  rw[v]at a;rcases bX i items2.size with m|C
  ·have z:items2.toList.drop i=items2[i]::items2.toList.drop (i+1):=by simp[bW,m]
   have q:items2[((i:Nat):Int).toNat]?=Z items2[i]:=by simp[m]
   rw[z]at a
   wp_walk using wpAny_loadPart' f,wpAny_loadPart' j
   rw[o,q];cases a with
   |eq e t=>
    refine wB1 (e prog w _ _ ?_)
    wp_walk
    rw[hc];exact⟨plainId_quiet plain_eq_loop _,wD1 entry_eq_loop (by rw[Around.under_plainId plain_eq_loop _];exact ih (i+1) (by lia) (by lia) (by lia) prog w A R _ ⟨f,j,t,h⟩)⟩
   |lt e t=>
    refine wB1 (e prog w _ _ ?_);have H:=t prog w
    wp_walk using wpAny_loadPart' f,wpAny_loadPart' j
    rw[o,q]
    wp_walk using H
    simpa using h
  ·have q:items2[((i:Nat):Int).toNat]?=Y:=by simp;lia
   have z:items2.toList.drop i=[]:=by simp;lia
   rw[z]at a;cases a
   wp_walk using wpAny_loadPart' f,wpAny_loadPart' j
   rw[o,q]
   wp_walk using wpAny_loadPart' f,wpAny_loadPart' j
   show R (.ok (.ret (.bool (decide (items.size<items2.size))))) _;rw[ai (by lia)];exact h
theorem EF(l b:dE)(items items2:Array dB)(n j:Nat)(dd e:Option dE)(sl a:Array (Option dB))(c:Bool):
  Meets (Builtin.«list.__lt__» ⟨[.ref l,.ref b],[]⟩) (fun A R s=>s.heap.get? l=some {cls:=.type "list",dict:=dd,data:=.seq items n,slots:=sl}/\s.heap.get? b=some {cls:=.type "list",dict:=e,data:=.seq items2 j,slots:=a} /\
    tu A s items.toList items2.toList c/\R (.ok (.ret (.bool c))) s):=by
 intro prog w A R s h;obtain⟨p,g,d,tk,m⟩:=s;obtain⟨f,i,k,h⟩:=h;have o:=AutoSeq1.sub_list_list
 wp_walk using wpAny_loadPart' f,wpAny_loadPart' i
 exact⟨plainId_quiet plain_eq_loop _,wD1 entry_eq_loop (by rw[Around.under_plainId plain_eq_loop _];exact zy l b items items2 n j dd e sl a c _ 0 O (bi _) (bi _) prog w A R _ ⟨f,i,by simpa using k,h⟩)⟩
theorem Dw{A:dG}{s:dD}{k:Bool}{l b:dE}{xs ys:Array dB}{c:Bool}(y:SCo k s.heap l xs)(B:SCo k s.heap b ys)(z:A.units<cLine)(h:tu A s xs.toList ys.toList c):Az A s (.ref l) (.ref b) c:=λprog w E Q q=>by
 cases k
 ·obtain⟨⟨v,r,p,u⟩,m,hc,n,o⟩:=id y;obtain⟨⟨j,i,g,f⟩,a,e,t,d⟩:=id B;simp only at hc o e d;subst hc o e d;exact richCompare_meets_room (op:=.Lt) ⟨_,m,O⟩ ⟨_,a,O⟩ PySem.F.slot_tuple_lt PySem.F.entry_tuple_lt (PySem.F.args_tuple_lt_2 _ _) (De l b xs ys n t r i u f c) ⟨m,a,h,show Value.bool c≠Value.notImplemented/\Q (.bool c) s from⟨(λx=>nomatch x),q⟩⟩ z
 ·obtain⟨⟨v,r,p,u⟩,m,hc,n,o⟩:=id y;obtain⟨⟨j,i,g,f⟩,a,e,t,d⟩:=id B;simp only at hc o e d;subst hc o e d;exact richCompare_meets_room (op:=.Lt) ⟨_,m,O⟩ ⟨_,a,O⟩ PySem.F.slot_list_lt PySem.F.entry_list_lt (PySem.F.args_list_lt_2 _ _) (EF l b xs ys n t r i u f c) ⟨m,a,h,show Value.bool c≠Value.notImplemented/\Q (.bool c) s from⟨(λx=>nomatch x),q⟩⟩ z
noncomputable def nS(f g:D->D->Option Bool):List D->List D->Option Bool
 |[],[]=>Z J
 |[],_::_=>Z M
 |_::_,[]=>Z J
 |x::xs,y::ys=>(f x y).bind λb=>if b=M then nS f g xs ys else g x y
noncomputable def Hz:D->D->Option Bool
 | .int i,.int j=>Z (decide (i<j))
 | .str x,.str y=>Z (decide (x.cps.toList<y.cps.toList))
 |_,_=>Y
noncomputable def jK(S:Sto):Nat->D->D->Option Bool
 |0,_,_=>Y
 |n+1,d,e=>match Hz d e with
  |some b=>Z b
  |none=>match d6 S d,d6 S e with
   |some p,Z q=>if p.1=q.1 then nS (gp S n) (jK S n) p.2 q.2 else Y
   |_,_=>Y
noncomputable def xG:G2:=λd e S=>(jK S eN d e).map λb=>(.bl b,S)
section
variable{X:Cx}{ag:List (dE×Obj)}{σ:L2.St}{H:Hp}{s:dD}{mu:List dE}{S:Sto}
theorem zx(I:Inv X ag σ H s)(hs:Sim X.K H mu S){n:Nat}{A:dG}(o:A.units+1+n<cLine)(ih:∀ {d e:D} {v w:V} {u z:dB} {b:Bool},eJ X.K H mu d v->eJ X.K H mu e w->d7 v u->d7 w z->jK S n d e=some b->Az A.in1 s u z b):
  ∀{xs ys:List D} {vs ws:List V} {f zs:List dB} {b:Bool},d0 X.K H mu xs vs->d0 X.K H mu ys ws->ei vs f->ei ws zs->nS (gp S n) (jK S n) xs ys=Z b->tu A s f zs b
 :=by
 intro xs
 induction xs with
 |nil=>
  intro ys vs ws f zs b a r2 g c h;cases a;cases g;cases r2 with
  |nil=>cases c;cases h;exact .nn
  |cons _ _=>cases c;cases h;exact .nc _ _
 |cons x xs q=>
  intro ys vs ws f zs b a r2 g c h;cases a with
  |cons a p=>
   cases g with
   |cons i r=>
    cases r2 with
    |nil=>cases c;cases h;exact .cn _ _
    |cons r2 m=>
     cases c with
     |cons j p2=>
      rw[nS]at h;obtain⟨k,l,h⟩:=oB1.mp h;have eq:=(ny I hs n (A:=A.in1) o a r2 i j l).1;cases k with
      |true=>exact .eq eq (q p m r p2 h)
      |false=>exact .lt eq (ih a r2 i j h)
theorem uq(I:Inv X ag σ H s)(hs:Sim X.K H mu S):∀(n:Nat) {A:dG} {d e:D} {v w:V} {u z:dB} {b:Bool},A.units+n<cLine->eJ X.K H mu d v->eJ X.K H mu e w->d7 v u->d7 w z->jK S n d e=Z b->Az A s u z b
 |0,_,_,_,_,_,_,_,_,_,_,_,_,_,h=>by cases h
 |n + 1,A,d,e,v,w,u,z,b,W,g,o,r,l,h=>by
  rw[jK]at h;split at h
  ·rename_i k c;cases h;unfold Hz at c;split at c
   ·cases c;cases g;cases o;obtain⟨t,rfl⟩:=r;obtain⟨m,rfl⟩:=l;exact λprog w E Q q=>(PyProof.Rows.lt_int q:dM (model prog w) A (compareOp .Lt (.int _ t) (.int _ m)) Q E s)
   ·cases c;cases g;cases o;obtain⟨t,rfl⟩:=r;obtain⟨m,rfl⟩:=l;exact λprog w E Q q=>(PyProof.Rows.lt_str q:dM (model prog w) A (compareOp .Lt (.str _ t) (.str _ m)) Q E s)
   ·cases c
  ·split at h
   ·rename_i p q am ao;split at h
    ·rename_i F;obtain⟨P,xs⟩:=p;obtain⟨qb,ys⟩:=q;have f:P=qb:=F;subst f;obtain⟨a,vs,rfl,au,R⟩:=ev g hs am;obtain⟨a2,L,rfl,C,G⟩:=ev o hs ao;cases r;cases l;obtain⟨y,B,T,_⟩:=fz I au;obtain⟨x,i,j,_⟩:=fz I C;refine Dw T j (by lia) ?_;have:=zx I hs (A:=A) (n:=n) (by lia) (λN r2 K U h=>uq I hs n (A:=A.in1) (by show A.units+1+n<cLine;lia) N r2 K U h) R G B i h;simpa using this
    ·cases h
   ·cases h
theorem lI(l:X.A.units+64<cLine):gn X (compareOp .Lt) (r2 X.K (b2 xG)):=by
 intro ag s σ H x y u w Q I i f h;obtain⟨mu,S,d,e,r,k,j,r2,c,a,hc⟩:=ou h;obtain⟨b,g,a⟩:=oM1.mp a;cases a;exact uq I c eN (by show _+60<cLine;lia) j r2 i f g X.prog X.w X.xe _ ⟨.bl b,H,I,O,hc.now (.bl b) c⟩
end
inductive Ty where
 |int|bool|str|tuple|list|dict
 deriving DecidableEq
noncomputable def Ty.nm:Ty->String
 | .int=>"int" | .bool=>"bool" | .str=>"str" | .tuple=>"tuple" | .list=>"list" | .dict=>"dict"
noncomputable def JP (S:Sto)(T:Ty):D->Option Bool
 | .non=>some false
 | .bl _=>some (decide (T = .bool)||decide (T = .int))
 | .int _=>some (decide (T = .int))
 | .str _=>some (decide (T = .str))
 | .tup _=>some (decide (T = .tuple))
 | .rol _=>some (decide (T = .list))
 | .ref n=>match S[n]? with
  |some (.lst _)=>some (decide (T = .list))
  |some (.dct _)=>some (decide (T = .dict))
  |some (.dcT _)=>some (decide (T = .dict))
  |_=>none
 | .fn _=>none
section
variable{X:Cx}{ag:List (dE×Obj)}{σ:L2.St}{H:Hp}{s:dD}{mu:List dE}{S:Sto}{K:Fg1}
end
abbrev FO:=Ev->Sto->Option (Option Int×Sto)
noncomputable def Jp(K:Fg1)(m:FO):TO:=fun σ H Q=>∃r mu S o S',fJ K H mu r σ/\Sim K H mu S/\m r S=Z (o,S') /\ ∀H' mu',Ext mu mu' H H'->Sim K H' mu' S'->Q o H'
abbrev MO(X:Cx)(e:Option Expr)(m:FO):Prop:=PO X e (Jp X.K m)
noncomputable def mY:FO:=λ_ S=>Z (Y,S)
noncomputable def rS(m:FE):FO:=λr S=>(m r S).bind λp=>match p.1 with
 | .int i=>Z (Z i,p.2)
 |_=>Y
noncomputable def sT(xs:List D)(lo hi:Option Int):List D:=(xs.drop (HT.sIx xs.length 0 lo)).take (HT.sIx xs.length xs.length hi-HT.sIx xs.length 0 lo)
section
variable{X:Cx}
theorem BC:MO X Y mY:=by
 rintro ag s σ H Q I ⟨r,mu,S,o,d,c,b,a,hc⟩;cases a;exact Bf ag s σ H Q I (hc H mu (.refl _ _) b)
theorem BB{e:Expr}{m:FE}(h:ME X e m):MO X (Z e) (rS m):=by
 rintro ag s σ H Q I ⟨r,mu,S,o,n,g,k,a,hc⟩;obtain⟨⟨d,l⟩,c,a⟩:=oB1.mp a;cases d with
 |int i=>
  cases a;refine Be h ag s σ H Q I ⟨r,mu,S,_,_,g,k,c,λv H1 mu1 f j b=>?_⟩;cases j;exact⟨i,O,hc H1 mu1 f b⟩
 |_=>cases a
theorem vX{K:Fg1}{H:Hp}{mu:List dE}{ds:List D}{vs:List V}(t:d0 K H mu ds vs)(lo hi:Option Int):d0 K H mu (sT ds lo hi) (sS vs lo hi):=by
 unfold sT sS;rw[<- t.length];exact(t.drop _).take _
noncomputable def FJ(ta:TA):TE:=fun σ H Q=>ta σ H λvs H1=>∃j:Int,vs=[.int j] /\ ∀p,H1 p=Y->Q (.ref p) (upd H1 p (.rng 0 j))
theorem oA {a:Expr}{ta:TA}{p pos:Pos}(hg:Gl X "range")(hm:X.mg "range"=Y)(ha:PA X [a] ta)(hs:dJ [a] X.env=[(J,eval a X.env)]:=by rfl):PE X (.Call (.Name "range" p) [a] [] pos) (FJ ta):=by
 intro ag s σ H Q I h;refine Call_ (jF I hg hm boot_range (PyProof.Rows.callWith_type1 (fg (ha pos ag s σ H _ I h) λk d ⟨vs,H1,c,g,i⟩=>?_) hs O));obtain⟨j,e,q⟩:=i;subst e;cases g with
 |cons r f=>
  cases f;obtain⟨t,rfl⟩:=r;refine call_range_1 ⟨.ref d.heap.objs.size,_,c.laid (λb o e=>hP1 _ e) (nR1 _) (o:=.rng 0 j) ?_,O,q _ (c.hok.fresh (nR1 _))⟩;exact⟨_,_,_,hS1 _ O⟩
noncomputable def jo(i:Int):Nat->List V
 |0=>[]
 |n+1=>.int i::jo (i+1) n
theorem iS:∀(n:Nat) (i:Int),(jo i n).length=n
 |0,_=>rfl
 |n+1,i=>by rw[jo,lC1,iS n]
theorem mL:∀(n:Nat) (i:Int) (k:Nat) (v:V),(jo i n)[k]?=Z v->v = .int (i+k)
 |0,i,k,v,h=>by simp[jo]at h
 |n+1,i,0,v,h=>by simp[jo]at h;rw[<- h];simp
 |n+1,i,k+1,v,h=>by
  rw[jo,gC1]at h;rw[mL n (i+1) k v h,show i+1+(k:Int)=i+((k+1:Nat):Int) by push_cast;lia]
theorem mK{K:Fg1}{H:Hp}{mu:List dE}:∀(n:Nat) (i:Int),d0 K H mu (gB i n) (jo i n)
 |0,_=>.nil
 |n+1,i=>.cons (.int i) (mK n (i+1))
theorem pJ:∀{xs:List V} {a:List dB},xs.length=a.length->(∀(i:Nat) x u,xs[i]?=Z x->a[i]?=Z u->d7 x u)->ei xs a
 |[],[],_,_=>.nil
 |x::xs,u::a,h,f=>.cons (f 0 x u O O) (pJ (by simpa using h) λi y w h1 h2=>f (i+1) y w (by simpa using h1) (by simpa using h2))
 |[],_::_,h,_=>by simp at h
 |_::_,[],h,_=>by simp at h
theorem Co(hc:X.calm=M):fj X (.type "list") (λxs H Q=>∃p i j,xs=[.ref p]/\H p=Z (.rng i j)/\(-(2^62)<=i/\i<2^62 /\ -(2^62)<=j/\j<2^62)/\(j-i).toNat<=2^20 /\ ∀l,H l=Y->Q (.ref l) (upd H l (.lst (jo i (j-i).toNat)))):=by
 intro ag s σ H xs F Q I r h;obtain⟨p,i,j,rfl,w,⟨h1,h2,D,g⟩,f,q⟩:=h;obtain⟨u,rfl,C⟩:=iM r;cases C;obtain⟨t,u,v,e⟩:=I.hok p _ w;have z:(((j-i).toNat:Nat):Int)=Builtin.Range.rangeSize i j 1:=by rw[rangeSize_one];split<;>lia
 refine call_list_range (n:=(j-i).toNat) (I.ok.hd hc) e (small_one h1 h2 D g) z.symm (aC f (by decide)) λh' tk c m y A hi=>?_;obtain⟨d,b⟩:=hi;have a:ei (jo i (j-i).toNat) c.toList:=pJ (by rw[iS];simpa using d.symm) λk x u E B=>by
  rw[mL _ _ _ _ E];obtain⟨o,rfl⟩:=b k u (by simpa using B);exact⟨o,by rw[Int.mul_one]⟩
 refine⟨.ref s.heap.objs.size,_,I.laid (t':=tk) y (nR1 _) (show eO X.prog X.w _ h' _ (.lst (jo i (j-i).toNat))from⟨?_,c.toList,m,a,by simpa using A⟩),O,q _ (I.hok.fresh (nR1 _))⟩;rw[iS];exact aC f (by decide)
noncomputable def ot(i j:Int):Bool:=decide (-(2^62)<=i)&&decide (i<2^62)&&decide (-(2^62)<=j)&&decide (j<2^62)&&decide ((j-i).toNat<=2^20)
noncomputable def zu(m:FA):FE:=λr S=>(m r S).bind λp=>match p.1 with
 |[.int j]=>if ot 0 j=M then Z (.ref p.2.length,p.2++[.lst (gB 0 j.toNat)])else Y
 |_=>Y
theorem jZ{i j:Int}(h:ot i j=M):(-(2^62)<=i/\i<2^62 /\ -(2^62)<=j/\j<2^62)/\(j-i).toNat<=2^20:=by
 unfold ot at h;simp only[bA1,al]at h;obtain⟨⟨⟨⟨h1,h2⟩,b⟩,a⟩,c⟩:=h;exact⟨⟨h1,h2,b,a⟩,c⟩
theorem EG{K:Fg1}{mu:List dE}{H H1:Hp}{S1:Sto}{i j:Int}{Q:VK}{mu1:List dE}(c:Ext mu mu1 H H1)(a:Sim K H1 mu1 S1)(hc:n9 K mu H (.ref S1.length) (S1++[.lst (gB i (j-i).toNat)]) Q){p l:dE}(hp:H1 p=none)(b:upd H1 p (.rng i j) l=none):
  Q (.ref l) (upd (upd H1 p (.rng i j)) l (.lst (jo i (j-i).toNat))):=
 hc _ _ (mu1++[l]) ((c.trans (Ext.fresh hp)).trans (Ext.new_ b)) (.ref (fZ a.len l)) ((a.fresh hp).newL (mK _ _) b)
theorem wL {a:Expr}{m:FA}{f p2 b c:Pos}(hc:X.calm=true)(hg:Gl X "range")(hm:X.mg "range"=none)(hg2:Gl X "list")(hm2:X.mg "list"=none)(ha:MA X [a] m)(hs:dJ [a] X.env=[(false,eval a X.env)]:=by rfl)
  (hs2:dJ [.Call (.Name "range" f) [a] [] b] X.env=[(J,eval (.Call (.Name "range" f) [a] [] b) X.env)]:=by rfl):ME X (.Call (.Name "list" p2) [.Call (.Name "range" f) [a] [] b] [] c) (zu m):=
 eU (jj (Co hc) hg2 hm2 (by decide+kernel) (j8 (oA hg hm ha hs) mS hs2) (by decide) (by decide) hs2) <| by
  rintro σ H Q ⟨r,mu,S,d,w,s,hs,hm,e⟩;obtain⟨⟨ds,u⟩,n,hm⟩:=oB1.mp hm;dsimp only at hm;split at hm
  ·rename_i j;split at hm
   ·rename_i g;cases hm;refine⟨r,mu,S,_,_,s,hs,n,λvs H1 mu1 o t i=>?_⟩;obtain⟨v,rfl,q⟩:=j6 t;cases q;refine⟨j,O,λp k=>⟨p,0,j,O,d4,(jZ g).1,(jZ g).2,λl h=>EG o i (by rw[Int.sub_zero];exact e) k h⟩⟩
   ·cases hm
  ·cases hm
end
noncomputable def js:G2:=λo v S=>match o with
 | .ref n=>match S[n]? with
  |some (.lst xs)=>if xs.length<dL then Z (.non,S.set n (.lst (xs++[v])))else Y
  |_=>Y
 |_=>Y
noncomputable def zR:G2:=λo i S=>match o,i with
 | .ref n,.int k=>match S[n]? with
  |some (.lst xs)=>if-(2^63)<=k/\k<2^63 then(vE xs.length k).bind λj=>(xs[j]?).map λy=>(y,S.set n (.lst (xs.eraseIdx j)))else Y
  |_=>Y
 |_,_=>Y
noncomputable def oI (f:FN)(o:FE)(a:FA):FE:=λr S=>(o r S).bind λp=>match p.1 with
 | .ref n=>match p.2[n]? with
  |some (.lst _)=>(a r p.2).bind λq=>f (p.1::q.1) q.2
  |_=>none
 |_=>none
section
variable{X:Cx}
theorem FC:C2 X "list.append" (λx xs H Q=>rN X.K (b2 js) (x::xs) H Q):=by
 intro ag s σ H x xs v i Q I k l h;obtain⟨r,y,mu,S,d,e,p,q,o,m,r2,f,a,hc⟩:=yx h;cases o;cases d with
 |ref n=>
  rw[js]at a;split at a
  ·rename_i ys j;split at a
   ·rename_i g;cases a;cases m with
    |ref b=>
     obtain⟨vs,c,t⟩:=f.lst j b;refine oG ag s σ H _ [y] v i Q I k l ⟨_,vs,y,O,O,c,by rw[<- t.length];exact g,?_⟩;exact hc _ _ mu (Ext.put c trivial (gM1 b)) .non (f.putL (t.append (.cons r2 .nil)) b c)
   ·cases a
  ·cases a
 |_=>cases a
theorem Fz:C2 X "list.pop" (λx xs H Q=>rN X.K (b2 zR) (x::xs) H Q):=by
 intro ag s σ H x xs v o Q I q r h;obtain⟨F,y,mu,S,d,e,D,E,B,A,r2,g,a,hc⟩:=yx h;cases B;unfold zR at a;split at a
 ·rename_i n k;split at a
  ·rename_i ys m;split at a
   ·rename_i i;obtain⟨j,l,a⟩:=oB1.mp a;obtain⟨z,C,a⟩:=oM1.mp a;cases a;cases A with
    |ref b=>
     cases r2;obtain⟨vs,f,t⟩:=g.lst m b;obtain⟨w,p,c⟩:=t.get C;refine zi ag s σ H _ [.int k] v o Q I q r ⟨_,vs,k,j,w,O,O,f,i.1,i.2,?_,p,?_⟩
     ·rw[<- t.length];exact(qm l).1
     ·have x:=Ext.put (u:=.lst (vs.eraseIdx j)) f trivial (gM1 b);exact hc _ _ mu x (c.ext x) (g.putL (t.eraseIdx j) b f)
   ·cases a
  ·cases a
 ·cases a
theorem zo {o e:Expr}{es:List Expr}{m:FE}{a:FA}{f:FN}{name:Str}{apos cpos:Pos}{id:String}(slot:Slot "list" name id)(hty:typeOf (.builtin id)=pure (.type "method_descriptor"))(hm:C2 X id (fun x xs H Q=>rN X.K f (x::xs) H Q))(ho:ME X o m)(ha:MA X (e::es) a)
  (hbase:attributeBase o name X.env (eval o X.env)=eval o X.env:=by rfl)
  (hfew:((backTo cpos (dJ (e::es) X.env)).all (λx=> !x.1)&&(backToKw cpos (keywordEach [] X.env)).all (λx=>x.1.isSome)&&decide ((e::es).length+([]:List Keyword).length+(if([]:List Keyword).isEmpty then 0 else 1)<30))=M:=by rfl)
  (hline:(apos.endLine == cpos.line)=M:=by rfl) (hs:dJ (e::es) X.env=(J,eval e X.env)::dJ es X.env:=by rfl) (hplain:(backTo cpos (dJ es X.env)).any (·.1)=J:=by rfl):
  ME X (.Call (.Attribute o name apos) (e::es) [] cpos) (oI f m a):=
 eU (Gc PySem.F.plainAttrs_list slot hty hm ho ha hbase hfew hline hs hplain) <| by
  rintro σ H Q ⟨r,mu,S,d,E,j,hs,hm,hc⟩;obtain⟨⟨h,g⟩,C,hm⟩:=oB1.mp hm;refine⟨r,mu,S,h,g,j,hs,C,λv H1 mu1 q i l=>?_⟩;cases h with
  |ref n=>
   dsimp only at hm;split at hm
   ·rename_i xs y;obtain⟨⟨ds,p⟩,B,hm⟩:=oB1.mp hm;refine⟨?_,r,mu1,g,ds,p,j.ext q,l,B,λvs H2 c k r2 w=>?_⟩
    ·cases i with
     |ref s=>
      obtain⟨vs,A,t⟩:=l.lst y s;exact .inl ⟨O,vs,lV.of A⟩
    ·exact⟨c,p,.ref n::ds,d,E,.cons (i.ext k) r2,w,hm,λz u b D=>hc z u b ((q.trans k).trans D)⟩
   ·cases hm
  |_=>cases hm
end
theorem Bb{X:Cx}(hc:X.calm=true){elt tg iter:Expr}{ifs:List Expr}{rest:List Comprehension}{scope:dR}{pos n au:Pos}{y:Str}{i:Nat}{T:List Str}{keep:List Nat}{t:List (Str×dE)}{wi:TI}{g:TG}{ti:TT}{tb:dE->TS}{emit:dB->Env->Sem Unit}(aq:swapsWith (.ListComp elt (⟨tg,iter,ifs,0⟩::rest) scope pos) (some (.Name y au)) n.line X.env=pure true)(eq:∀it A k,compTurn (.ListComp elt (⟨tg,iter,ifs,0⟩::rest) scope pos) 0 it A k=rj iter.pos tg ifs it k (emit A k) (.compLoop (.ListComp elt (⟨tg,iter,ifs,0⟩::rest) scope pos) 0 it A k))(C:Fv X scope T keep)(E:i6 X.env.cells scope.names []=some t)(hi:PI X tg iter wi)(hb:∀s H d p,PG (cxC X scope t T keep s H d) tg g/\n4 (cxC X scope t T keep s H d) ifs ti/\PU (cxC X scope t T keep s H d) (emit (.ref p) (cxC X scope t T keep s H d).env) (tb p))(hN:X.N.Nodup)(hy:X.N[i]?=some y)(hx:uO X.env.scope y)(hf:X.fn y=true\/X.env.scope.names.lookup y=some .local)(hs:∀x,foldedSetIterable iter X.env x=pure x:=by intro _;rfl):
  PS X (.Assign [.Name y au] (.ListComp elt (⟨tg,iter,ifs,0⟩::rest) scope pos) n) (yh (uZ T.length keep wi g ti tb) (vL i)):=by
 intro ag s σ H D I h;rw[exec_Assign_Name_used _ _ _ _ aq];refine wB1 (wpAny_standAt (wB1 ?_));show dM _ X.A (do let _<-comprehension (.ListComp elt (⟨tg,iter,ifs,0⟩::rest) scope pos) scope X.env _ (newList []) J (eval iter X.env) (Z (assign (.Name y au) X.env))) _ _ s;refine wB1 (wpAny_mono (wpAny_comprehension_free (use:=Z (assign (.Name y au) X.env)) (Q:=λ_ s'=>SP X ag D .next s') O hs (Am E) C.kind C.names ?_) (λ_ s' hq=>wP1 (wP1 hq)) λ_ _ e=>e);refine fg (hi ag s σ H _ I h) λv s1 h1=>fg h1 λitv a h2=>?_;obtain⟨it,d,tn,am,H2,rfl,I2,TT,L,f2,q2⟩:=h2;refine wO1 ?_;have w:Inv X ag σ (upd H2 a.heap.objs.size (.lst [])) {a with heap:=a.heap.push {cls:=.type "list",data:=.seq ([]:List dB).toArray}}:=I2.lnew (t':=a.toks) .nil (bi _);have old:∀b∈d,∃o,a.heap.get? b=Z o:=λb hb=>by
  obtain⟨o,e,_⟩:=TT.obj 0 a.heap L b hb;exact⟨o,e⟩
 have U:∀b∈d,b≠a.heap.objs.size:=λb hb z=>by
  obtain⟨o,e⟩:=old b hb;have:=hL1 e;rw[z]at this;exact az _ this
 have P:∀b∈d,jt X ag (upd H2 a.heap.objs.size (.lst [])) b:=λb hb=>⟨by rw[dY (U b hb)];exact(f2 b hb).1,(f2 b hb).2⟩;have o3:∀b∈d,∃o,({a with heap:=a.heap.push {cls:=.type "list",data:=.seq ([]:List dB).toArray}}:dD).heap.get? b=Z o:=λb hb=>by
  obtain⟨o,e⟩:=old b hb;exact⟨o,hP1 _ e⟩
 have N:=sx w C E P o3;obtain⟨hg,S,he⟩:=hb {a with heap:=a.heap.push {cls:=.type "list",data:=.seq ([]:List dB).toArray}} (upd H2 a.heap.objs.size (.lst [])) d a.heap.objs.size;refine jz ?_;have f4:∀b∈d,jt (cxC X scope t T keep {a with heap:=a.heap.push {cls:=.type "list",data:=.seq ([]:List dB).toArray}} (upd H2 a.heap.objs.size (.lst [])) d) [] (upd H2 a.heap.objs.size (.lst [])) b:=λb hb=>
  ⟨(P b hb).1,(N.ok.exf b hb).1,N.ok.exfs b hb,.inl hb,(N.ok.exf b hb).2,λp ao=>absurd (show p∈([]:List (dE×Obj))from ao) (by simp)⟩
 have G:tn 0 (pushCells ((a.heap.push {cls:=.type "list",data:=.seq ([]:List dB).toArray}).push {cls:=.type "dict",data:=.dict #[]}) scope.names):=
  TT.keep 0 a.heap _ L λb hb o e=>pushCells_keeps scope.names _ b o (hP1 _ (hP1 _ e))
 have l:=pd (X:=cxC X scope t T keep {a with heap:=a.heap.push {cls:=.type "list",data:=.seq ([]:List dB).toArray}} (upd H2 a.heap.objs.size (.lst [])) d) O hc (eq (.ref it) (.ref a.heap.objs.size) _) TT hg S he N G f4
  (q2 a.heap.objs.size (I2.hok.fresh (nR1 _)))
 refine codeAny_mono (codeAny_compStart_list l (TT.self X.A 0 _ _ _ G l)) λr s' hr=>?_;cases r with
 |error e=>exact hr.elim
 |ok f=>
  obtain⟨σ',H',B,q'⟩:=hr;have J1:Inv X ag σ H' s':=w.call' (s':=s') (ch:=d) B.os B.base B.hok B.bare λb hb=>(P b hb).2.2.2 |> λz=>⟨z.1,(P b hb).2.1,z.2.1,z.2.2⟩
  -- the block's own dict is kept aside
  obtain⟨m,hn,_⟩:=id B.loc;obtain⟨R,es,ep,eC,dC,rC⟩:=id hn;have hCz:(a.heap.push {cls:=.type "list",data:=.seq ([]:List dB).toArray}).get? (a.heap.push {cls:=.type "list",data:=.seq ([]:List dB).toArray}).objs.size=Y:=Heap.get?_none_of_le (nR1 _);have K:(a.heap.push {cls:=.type "list",data:=.seq ([]:List dB).toArray}).objs.size≠X.env.locals:=λz=>by
   have:=w.lt;rw[<- z]at this;exact az _ this
  have V:H' (a.heap.push {cls:=.type "list",data:=.seq ([]:List dB).toArray}).objs.size=Y:=B.free;have J2:Inv X (ag++[((a.heap.push {cls:=.type "list",data:=.seq ([]:List dB).toArray}).objs.size,R)]) σ H' s':=J1.pins_of λp ao=>by
   rcases aG.mp ao with z|z
   ·exact J1.pin p (mA1 _ z)
   ·have z':p=((a.heap.push {cls:=.type "list",data:=.seq ([]:List dB).toArray}).objs.size,R):=by simpa using z
    subst z';exact⟨eC,V,K,w.nofs (nR1 _),λv q=>by rw[dC]at q;cases q⟩
  refine fg (vf hN hy hx hf _ s' σ H' (.ref a.heap.objs.size) (.ref a.heap.objs.size) D.nx J2 O q') λ_ s5 ⟨F,H5,J5,q5⟩=>?_;obtain⟨e5,n5,_⟩:=J5.pin ((a.heap.push {cls:=.type "list",data:=.seq ([]:List dB).toArray}).objs.size,R) (mA1 _ (mA1 _ mS1));refine⟨m,⟨R,es,ep,e5,dC,rC⟩,λh' W=>?_⟩;have J6:Inv X ag F H5 s5:=J5.unpinned;refine⟨F,H5,J6.turned (t':=s5.toks) (λb o hb e=>(W.2 b hb).trans e) n5 K (.inr ?_) (λx c u z=>?_) (λp ao z=>?_),q5⟩
  ·exact w.sz
  ·obtain⟨w',zc⟩:=w.cell x c u;have j:=zc.lt;rw[z]at j;exact az _ j
  ·obtain⟨wq,_⟩:=w.pin p ao;have j:=hL1 wq;rw[z]at j;exact az _ j
section
variable{X:Cx}
theorem Fc{K:Fg1}{te:TE}{m:FE}{i:Nat}(hm:∀ σ H Q,tM K m σ H Q->te σ H Q){E:jv}{σ:L2.St}{H:Hp}(h:xF K (eh m (gN i)) E σ H):yh te (vL i) E σ H:=by
 obtain⟨r,mu,S,d,g,h1,h2,n,b⟩:=qj h;refine hm _ _ _ ⟨r,mu,S,d,g,h1,h2,n,λv H' mu' j l f=>?_⟩;obtain⟨r2,a,t,q,u,s,o,p,c,k,e⟩:=b v H' mu' j l f;cases k;exact e _ H' a (.refl _ _) (o.set c) p
theorem mv (i:Nat){x:Str}{pos:Pos}(hN:X.N[i]? = some x:=by rfl)(hv:Vis X.env.scope x:=by first | exact Or.inl rfl | exact Or.inr (Or.inl rfl) | exact Or.inr (Or.inr rfl))(hd:(x == ("__debug__":Str))=false:=by decide)(hcd:(x == ("__classdict__":Str))=false:=by decide):
  ME X (.Name x pos) (mV i):=Ew i hN hv hd hcd
end
def fO(P:dF)(w:dH)(K:Fg1)(mg:Str->Option dB)(base:dN)(k:Nat)(x:Str)(n:Nat)(m:FN):Prop:=
 ∃(f:dE) (fd:dP) (ps:List Str),ju P w K mg base tw k f fd ps (AD K n m)/\kW K fd ps []/\wK1 K (.ref f)=M/\mg x=Z (.ref f)
theorem Ez {X:Cx}{k k' n:Nat}{x:Str}{m:FN}{p pos:Pos}{e:Expr}{es:List Expr}{a:FA}(h:fO X.prog X.w X.K X.mg X.base k x n m)(hr:fN k' X.A)(hk:k<=k')(hg:Gl X x)(ha:MA X (e::es) a)(hdb:(x == ("__debug__":Str))=false:=by decide)
  (he:dJ (e::es) X.env=(J,eval e X.env)::dJ es X.env:=by rfl) (hpl:(backTo pos (dJ es X.env)).any (·.1)=J:=by rfl):ME X (.Call (.Name x p) (e::es) [] pos) (mN (dX n m) a):=by
 obtain⟨f,fd,ps,F,b,c,d⟩:=h;exact BJ F (hr.mono hk) hg d c b ha hdb he hpl
theorem D2{P:dF}{w:dH}{K:Fg1}{mg:Str->Option dB}{base:dN}{x a:Str}{st:dQ}{f:dE}{fd:dP}{N ps:List Str}{k n:Nat}{b:FS}(F:xJ K x a st f fd)(hb:kW K fd ps [])(hm:mg x=some (.ref f))(S:gg N ps (ec st))(hn:ps.length=n)(d:∀(e:dB) (A:dG) (c:List Env) (s:dD) (H:Hp) (E:XK),fN k (A.deeper (envOfC a (ec st) s.heap.objs.size f e)) ->
   AA (lZ tw P w K mg base N a (ec st) f e A c s H E).nox (fq st) b):fO P w K mg base (k+1) x n (iF N.length b):=by
 subst hn;exact⟨f,fd,ps,GS F S d,hb,F.kp,hm⟩
def CGl(K:Fg1)(mg:Str->Option dB)(x:Str)(d:D):Prop:=∃(v:V) (u:dB),mg x=Z u/\d7 v u /\ ∀H mu,eJ K H mu d v
theorem BI {X:Cx}{x:Str}{d:D}{pos:Pos}(h:CGl X.K X.mg x d)(hg:Gl X x)(hd:(x == ("__debug__":Str))=J:=by decide):ME X (.Name x pos) (mC d):=by
 obtain⟨v,u,a,r,q⟩:=h;exact zq d (Bk hg a r hd) q
def CV(K:Fg1)(d:D)(u:dB):Prop:=∃v:V,d7 v u /\ ∀H mu,eJ K H mu d v
def HJ(K:Fg1)(ds:List D)(us:List dB):Prop:=∃vs:List V,ei vs us /\ ∀H mu,d0 K H mu ds vs
section
variable{K:Fg1}
theorem qz{i:Int}{t}:CV K (.int i) (.int i t):=⟨.int i,⟨t,O⟩,λ_ _=>.int i⟩
theorem qy{x:Str}{t}:CV K (.str x) (.str x t):=⟨.str x,⟨t,O⟩,λ_ _=>.str x⟩
theorem kJ:HJ K [] []:=⟨[],.nil,λ_ _=>.nil⟩
theorem fx{d:D}{u:dB}{ds:List D}{a:List dB}(h:CV K d u)(t:HJ K ds a):HJ K (d::ds) (u::a):=by
 obtain⟨v,r,q⟩:=h;obtain⟨vs,rs,b⟩:=t;exact⟨v::vs,.cons r rs,λH mu=>.cons (q H mu) (b H mu)⟩
theorem nB {a:dE}{c:Option dE}{b:List dB}{n:Nat}{sl:Array (Option dB)}{ds:List D}(h:K.lookup a=Z ⟨.type "tuple",c,.seq b.toArray n,sl⟩)(hs:b.length<=dL)(t:HJ K ds b):CV K (.tup ds) (.ref a):=by
 obtain⟨vs,rs,d⟩:=t;exact⟨.ref a,O,λH mu=>.tup (.inr ⟨_,b.toArray,n,h,O,O,by simpa using hs,by simpa using rs⟩) (d H mu)⟩
theorem E6{mg:Str->Option dB}{x:Str}{d:D}{u:dB}(hm:mg x=Z u)(h:CV K d u):CGl K mg x d:=by
 obtain⟨v,r,q⟩:=h;exact⟨v,u,hm,r,q⟩
end
theorem k3{K:Fg1}{H:Hp}{mu:List dE}:∀ns:List Int,d0 K H mu (ns.map D.int) (ns.map V.int)
 |[]=>.nil
 |n::ns=>.cons (.int n) (k3 ns)
theorem EI{K:Fg1}{m:FN}(hm:∀ ns:List Int,ns.length<=63 -> ∃ S,m [.rol (ns.map D.int)] []=some (.bl true,S))(H:Hp)(a:dE)(ns:List Int)(d:ns.length<=63)(c:CA H)(b:lV K H a (ns.map V.int)):
  AD K 1 m [.ref a] H (λv _=>v = .bl M) λ_ _ _=>False:=by
 refine⟨O,?_⟩;obtain⟨S,e⟩:=hm ns d;have f:RoL K H a (ns.map V.int):=by
  rcases b with h|h
  ·rcases h with h|h
   ·rcases c a with z|⟨o,xs,z⟩
    ·rw[h]at z;cases z
    ·rw[h]at z;cases z
   ·exact .inl h
  ·exact .inr h
 refine⟨[],[],[.rol (ns.map D.int)],.bl M,S,.cons (.rol f (k3 ns)) .nil,.nil,e,λv H' mu' x r s=>?_⟩;cases r;rfl
theorem walk_m{l:PySem.W.OpenLaw}{q:dF}{b:List Str}{XP:(Str->Option dB)->dN->Prop}{e:dH->dN->Prop}{d:DefRec}{K:Params->Fg1}{m:FN}{k:Nat}{x:Str}(hn:l.most=some 63)(c:d.params.defaults=[])(hr:fN k callerA)(o:∀(w:dH) (h:dN),e w h->(K w.params).In h)(hm:∀ns:List Int,ns.length<=63 -> ∃S,m [.rol (ns.map D.int)] []=some (.bl true,S))(F:∀(w:dH) (mg:Str->Option dB) (g:dE) (h:dN),(K w.params).In h->h.Ns dI mg->mg d.name=some (.ref g) ->
   ∃fd:dP,(∀(s:dD) (u:dB),BindsTo s fd ⟨[u],[]⟩ [(x,u)]) /\ ∀base:dN,(K w.params).In base->base.Ns dI mg->ju l.prog w (K w.params) mg base tw k g fd [x] (AD (K w.params) 1 m)):
  PySem.W.WalkO q b XP e l.row.toRowW d [] (λf vs=>PySem.call f vs):=
 L2.AT (n:=63) (k:=k) (x:=x) (CX:=λ_=>tw) (sp:=λw=>AD (K w.params) 1 m) hn (by decide) c hr o F (λ_ H a ns i p j=>EI hm H a ns i p j) λ_ _ _ _ _ z=>z
structure XE (X:Cx)(e:Expr)(m:FE):Prop where
 h:ME X e m
structure XT (X:Cx)(e:Expr)(m:FT):Prop where
 h:MT X e m
structure XW (X:Cx)(e:Expr)(m:FT):Prop where
 h:MW X e m
structure XA (X:Cx)(e:List Expr)(m:FA):Prop where
 h:MA X e m
structure XS (X:Cx)(e:dQ)(m:FS):Prop where
 h:MS X e m
structure xz (X:Cx)(e:List dQ)(m:FS):Prop where
 h:AA X e m
structure XI (X:Cx)(tg e:Expr)(m:FI):Prop where
 h:MI X tg e m
structure XG (X:Cx)(e:Expr)(m:FG):Prop where
 h:MG X e m
structure HG (X:Cx)(e:List Expr)(m:AC):Prop where
 h:Hm X e m
structure XO (X:Cx)(e:Option Expr)(m:FO):Prop where
 h:MO X e m
structure XF (X:Cx)(K:Fg1)(ifs:List Expr)(t:FT):Prop where
 h:n4 X ifs (yg K t)
theorem fK{X:Cx}:XF X X.K [] gu:=⟨BE⟩
theorem fA{X:Cx}{c:Expr}{t:FT}(h:XT X c t):XF X X.K [c] t:=⟨BD h.h⟩
section
variable{X:Cx}{pos:Pos}
theorem qK{i:Int}{j}:XE X (.Constant (.int i) j pos) (mC (.int i)):=⟨EC⟩
theorem tP{b:Bool}{j}:XE X (.Constant (.bool b) j pos) (mC (.bl b)):=⟨Gv⟩
theorem ge{j}:XE X (.Constant .none j pos) (mC .non):=⟨EA⟩
theorem eE{x:Str}{j}:XE X (.Constant (.str x) j pos) (mC (.str x)):=⟨Ey⟩
end
section
variable{X:Cx}{pos:Pos}{e:Expr}{es:List Expr}{m:FE}{n:FA}
theorem qN:XA X [] dU:=⟨EE⟩
theorem qA(h:XE X e m)(ht:XA X es n)(hs:dJ (e::es) X.env=(J,eval e X.env)::dJ es X.env:=by rfl):XA X (e::es) (dS m n):=⟨BK (h:=h.h) (ht:=ht.h) (hs:=hs)⟩
end
section
variable{X:Cx}{K:Fg1}{f:FN}{a b:FE}{σ:L2.St}{H:Hp}{Q:VK}
theorem qI{op:Operator}{x y:Expr}{pos:Pos}(ho:gn X (binaryOp op) (r2 X.K f))(hx:XE X x a)(hy:XE X y b):XE X (.BinOp x op y pos) (m2 f a b):=⟨Gr (ho:=ho) (hx:=hx.h) (hy:=hy.h)⟩
theorem xQ{op:UnaryOp}{x:Expr}{pos:Pos}(ho:Fu X (unaryOp op) (λx H Q=>rN X.K f [x] H Q))(hx:XE X x a):XE X (.UnaryOp op x pos) (m1 f a):=⟨Gq (ho:=ho) (hx:=hx.h)⟩
theorem AM{op:CmpOp}{x y:Expr}{pos:Pos}(ho:gn X (compareOp op) (r2 X.K f))(hx:XE X x a)(hy:XE X y b)(hm:behindInMarks op y=J):XE X (.Compare x [op] [y] pos) (m2 f a b):=⟨ED (ho:=ho) (hx:=hx.h) (hy:=hy.h) (hm:=hm)⟩
theorem qJ{x y:Expr}{pos:Pos}(ho:C3 X (r2 X.K f))(hx:XE X x a)(hy:XE X y b)(hs:mo y):XE X (.Subscript x y pos) (m2 f a b):=⟨Gs (ho:=ho) (hx:=hx.h) (hy:=hy.h) (hs:=hs)⟩
theorem qD {x:Str}{p pos:Pos}{e:Expr}{es:List Expr}{id:String}{a:FA}(hc:fj X (.builtin id) (rN X.K f))(hg:Gl X x)(hm:X.mg x=Y)(hv:bootBuiltins x=Z (.builtin id))(ha:XA X (e::es) a)(hn:x≠"__name__":=by decide)(hdb:(x == ("__debug__":Str))=J:=by decide)(he:dJ (e::es) X.env=(J,eval e X.env)::dJ es X.env:=by rfl)(hpl:(backTo pos (dJ es X.env)).any (·.1)=J:=by rfl):XE X (.Call (.Name x p) (e::es) [] pos) (mN f a):=⟨zp (hc:=hc) (hg:=hg) (hm:=hm) (hv:=hv) (ha:=ha.h) (hn:=hn) (hdb:=hdb) (he:=he) (hpl:=hpl)⟩
theorem qE {x:Str}{p pos:Pos}{e:Expr}{es:List Expr}{T:String}{a:FA}(hc:fj X (.type T) (rN X.K f))(hg:Gl X x)(hm:X.mg x=Y)(hv:bootBuiltins x=Z (.type T))(ha:XA X (e::es) a)(hn:x≠"__name__":=by decide)(hdb:(x == ("__debug__":Str))=J:=by decide)(he:dJ (e::es) X.env=(J,eval e X.env)::dJ es X.env:=by rfl)(hpl:(backTo pos (dJ es X.env)).any (·.1)=J:=by rfl):XE X (.Call (.Name x p) (e::es) [] pos) (mN f a):=⟨wM (hc:=hc) (hg:=hg) (hm:=hm) (hv:=hv) (ha:=ha.h) (hn:=hn) (hdb:=hdb) (he:=he) (hpl:=hpl)⟩
end
section
variable{X:Cx}{x y c:Expr}{rest:List Expr}{pos:Pos}{a b:FT}{f g:FE}
theorem qX{op:CmpOp}{f:FN}{a b:FE}(ho:gn X (compareOp op) (r2 X.K f))(hx:XE X x a)(hy:XE X y b)(hm:behindInMarks op y=J):XT X (.Compare x [op] [y] pos) (mB (m2 f a b)):=⟨Eh (ho:=ho) (hx:=hx.h) (hy:=hy.h) (hm:=hm)⟩
theorem iL(ha:XT X x a):XW X (.BoolOp .And [x] pos) a:=⟨Bw (ha:=ha.h)⟩
theorem pB(ha:XT X x a):XW X (.BoolOp .Or [x] pos) a:=⟨Ee (ha:=ha.h)⟩
theorem jL(ha:XT X x a)(hb:XW X (.BoolOp .And (y::rest) pos) b):XW X (.BoolOp .And (x::y::rest) pos) (se a b):=⟨Ef (ha:=ha.h) (hb:=hb.h)⟩
theorem tJ(ha:XT X x a)(hb:XW X (.BoolOp .Or (y::rest) pos) b):XW X (.BoolOp .Or (x::y::rest) pos) (Fp a b):=⟨Go (ha:=ha.h) (hb:=hb.h)⟩
theorem lp(h:XW X x a):XT X x a:=⟨Io (h:=h.h)⟩
theorem pE(ha:XT X x a):XT X (.UnaryOp .Not x pos) (wO a):=⟨Eg (ha:=ha.h)⟩
theorem pF(hc:XT X c a)(hx:XE X x f)(hy:XE X y g):XE X (.IfExp c x y pos) (vv a f g):=⟨Gu (hc:=hc.h) (hx:=hx.h) (hy:=hy.h)⟩
end
section
variable{X:Cx}{x y z:Expr}{pos:Pos}{f g:FN}{a b c:FE}{op op':CmpOp}
end
section
variable{X:Cx}{pos:Pos}{e c:Expr}{st:dQ}{rest as bs:List dQ}{a b:FS}{m:FE}{t:FT}
theorem qQ:xz X [] q0:=⟨By⟩
theorem qF(h1:XS X st a)(h2:xz X rest b):xz X (st::rest) (d9 a b):=⟨zj (h1:=h1.h) (h2:=h2.h)⟩
theorem qG(h1:XS X st a):xz X [st] a:=⟨Bx (h1:=h1.h)⟩
theorem jM(h:XE X e m)(hs:swapsWith e Y pos.line X.env=pure J:=by rfl):XS X (.Expr e pos) (fi m):=⟨Bz (h:=h.h) (hs:=hs)⟩
theorem qU(h:XE X e m):XS X (.Return (Z e) pos) (fu m):=⟨Ej (h:=h.h)⟩
theorem qV(hc:XT X c t)(ha:xz X as a)(hb:xz X bs b):XS X (.If c as bs pos) (hL t a b):=⟨Gp (hc:=hc.h) (ha:=ha.h) (hb:=hb.h)⟩
end
section
variable{X:Cx}{pos:Pos}
theorem qO(i:Nat){x:Str}(hN:X.N.Nodup)(hi:X.N[i]?=Z x)(hx:uO X.env.scope x)(hf:X.fn x=M\/X.env.scope.names.lookup x=Z .local:=by first|exact .inl rfl|exact .inr rfl|assumption):XG X (.Name x pos) (gN i):=⟨BH (i:=i) (hN:=hN) (hi:=hi) (hx:=hx) (hf:=hf)⟩
theorem gi:HG X [] gNl:=⟨BG⟩
theorem d8{e:Expr}{es:List Expr}{g:FG}{a:AC}(h1:XG X e g)(h2:HG X es a)(hs:(assignEach (e::es) X.env).map (·.2)=assign e X.env::(assignEach es X.env).map (·.2):=by rfl):HG X (e::es) (gCs g a):=⟨zm (h1:=h1.h) (h2:=h2.h) (hs:=hs)⟩
theorem gR{es:List Expr}{k:Nat}{a:AC}{n:Nat}(hc:X.calm=M)(h:HG X es a)(hn:(assignEach es X.env).length=n:=by rfl)(hst:(assignEach es X.env).findIdx? (·.1)=Y:=by rfl):XG X (.Tuple es k pos) (gT n a):=⟨Es (hc:=hc) (h:=h.h) (hn:=hn) (hst:=hst)⟩
theorem l8{o i:Expr}{a b:FE}{f:FN}(ho:XE X o a)(hi:XE X i b)(hs:uN X (rU X.K f))(ha:∀ v,assign (.Subscript o i pos) X.env v=(do
   let ov<-holding [v] (eval o X.env)
   let iv<-holding [v,ov] (eval i X.env)
   standAt pos
   holding [v,ov,iv] (setItem ov iv v)
   release [v,ov,iv] []):=by intro _;rfl):XG X (.Subscript o i pos) (gS f a b):=⟨Et (ho:=ho.h) (hi:=hi.h) (hs:=hs) (ha:=ha)⟩
theorem qR{tg e:Expr}{m:FE}{g:FG}(he:XE X e m)(hg:XG X tg g)(hs:swapsWithSole [tg] e pos.line X.env=pure J:=by rfl)(hw:swappedStores [tg] e X.env=pure Y:=by rfl)(h1:(assignEach [tg] X.env).map (·.2)=[assign tg X.env]:=by rfl):XS X (.Assign [tg] e pos) (eh m g):=⟨Em (he:=he.h) (hg:=hg.h) (hs:=hs) (hw:=hw) (h1:=h1)⟩
theorem qY(i:Nat){x:Str}{e:Expr}{m:FE}{pos':Pos}(hN:X.N.Nodup)(hi:X.N[i]?=Z x)(hx:uO X.env.scope x)(he:XE X e m)(hs:swapsWith e (Z (.Name x pos')) pos.line X.env=pure J:=by rfl)(hf:X.fn x=M\/X.env.scope.names.lookup x=Z .local:=by first|exact .inl rfl|exact .inr rfl|assumption):XS X (.Assign [.Name x pos'] e pos) (eh m (gN i)):=⟨Ei (i:=i) (hN:=hN) (hi:=hi) (hx:=hx) (he:=he.h) (hs:=hs) (hf:=hf)⟩
theorem AL(i:Nat){x:Str}{e:Expr}{m:FE}{op:Operator}{f:FN}{pos':Pos}(hN:X.N.Nodup)(hi:X.N[i]?=Z x)(hx:uO X.env.scope x)(he:XE X e m)(ho:HI X op (r2 X.K f))(hf:X.fn x=M\/X.env.scope.names.lookup x=Z .local:=by first|exact .inl rfl|exact .inr rfl|assumption):XS X (.AugAssign (.Name x pos') op e pos) (BO i f m):=⟨El (i:=i) (hN:=hN) (hi:=hi) (hx:=hx) (he:=he.h) (ho:=ho) (hf:=hf)⟩
end
section
theorem kX{X:Cx}{pos:Pos}(n:Nat){c:Expr}{a:List dQ}{t:FT}{b:FS}(hp:PassesOwn (model X.prog X.w) X.A X.env X.xe)(hc:XT X c t)(hb:xz X a b):XS X (.While c a [] pos) (qT t b n):=⟨zk (n:=n) (hp:=hp) (hc:=hc.h) (hb:=hb.h)⟩
theorem qW{X:Cx}{pos:Pos}{tg iter:Expr}{a:List dQ}{m:FI}{g:FG}{b:FS}(hp:PassesOwn (model X.prog X.w) X.A X.env X.xe)(hc:X.calm=M)(hi:XI X tg iter m)(hg:XG X tg g)(hb:xz X a b)(hs:∀x,foldedSetIterable iter X.env x=pure x:=by intro _;rfl):XS X (.For tg iter a [] pos) (iW m g b):=⟨Ek (hp:=hp) (hc:=hc) (hi:=hi.h) (hg:=hg.h) (hb:=hb.h) (hs:=hs)⟩
end
section
variable{X:Cx}{es:List Expr}{pos:Pos}{a:FA}
theorem ed{x1}(h:XA X es a):XE X (.Tuple es x1 pos) (eQ a):=⟨Ex (h:=h.h)⟩
theorem gz(h:XA X es a):XE X (.List es pos) (jE a):=⟨EB (h:=h.h)⟩
end
section
variable{X:Cx}{tg:Expr}
theorem qd{e:Expr}{m:FE}(h:XE X e m):XI X tg e (iJ m):=⟨Er (h:=h.h)⟩
theorem tL {a:Expr}{m:FA}{p pos:Pos}(hg:Gl X "range")(hm:X.mg "range"=Y)(ha:XA X [a] m)(hs:dJ [a] X.env=[(J,eval a X.env)]:=by rfl):XI X tg (.Call (.Name "range" p) [a] [] pos) (uw m):=⟨wK (hg:=hg) (hm:=hm) (ha:=ha.h) (hs:=hs)⟩
theorem tK {a b:Expr}{m:FA}{p pos:Pos}(hg:Gl X "range")(hm:X.mg "range"=Y)(ha:XA X [a,b] m)(hs:dJ [a,b] X.env=[(J,eval a X.env),(J,eval b X.env)]:=by rfl)(hs2:dJ [b] X.env=[(J,eval b X.env)]:=by rfl):XI X tg (.Call (.Name "range" p) [a,b] [] pos) (GJ m):=⟨wJ (hg:=hg) (hm:=hm) (ha:=ha.h) (hs:=hs) (hs2:=hs2)⟩
end
section
variable{X:Cx}{tg:Expr}
variable{elts:List Expr}{k:Nat}{tpos:Pos}
theorem xP {a:Expr}{m:FA}{p pos:Pos}(hg:Gl X "enumerate")(hm:X.mg "enumerate"=Y)(ha:XA X [a] m)(hs:dJ [a] X.env=[(J,eval a X.env)]:=by rfl):XI X (.Tuple elts k tpos) (.Call (.Name "enumerate" p) [a] [] pos) (Fq m):=⟨BF (hg:=hg) (hm:=hm) (ha:=ha.h) (hs:=hs)⟩
theorem jN {a b:Expr}{m:FA}{p pos:Pos}(hg:Gl X "zip")(hm:X.mg "zip"=Y)(ha:XA X [a,b] m)(hs:dJ [a,b] X.env=[(J,eval a X.env),(J,eval b X.env)]:=by rfl)(hs2:dJ [b] X.env=[(J,eval b X.env)]:=by rfl):XI X (.Tuple elts k tpos) (.Call (.Name "zip" p) [a,b] [] pos) (AF m):=⟨Ep (hg:=hg) (hm:=hm) (ha:=ha.h) (hs:=hs) (hs2:=hs2)⟩
end
section
variable{X:Cx}{ag:List (dE×Obj)}{σ:L2.St}{H:Hp}{s:dD}{mu:List dE}{S:Sto}{K:Fg1}
end
section
variable{X:Cx}
theorem xO:XO X Y mY:=⟨BC⟩
theorem xN{e:Expr}{m:FE}(h:XE X e m):XO X (Z e) (rS m):=⟨BB (h:=h.h)⟩
theorem tO {a:Expr}{m:FA}{d p2 b c:Pos}(hc:X.calm=M)(hg:Gl X "range")(hm:X.mg "range"=Y)(hg2:Gl X "list")(hm2:X.mg "list"=Y)(ha:XA X [a] m)(hs:dJ [a] X.env=[(J,eval a X.env)]:=by rfl)(hs2:dJ [.Call (.Name "range" d) [a] [] b] X.env=[(J,eval (.Call (.Name "range" d) [a] [] b) X.env)]:=by rfl):XE X (.Call (.Name "list" p2) [.Call (.Name "range" d) [a] [] b] [] c) (zu m):=⟨wL (hc:=hc) (hg:=hg) (hm:=hm) (hg2:=hg2) (hm2:=hm2) (ha:=ha.h) (hs:=hs) (hs2:=hs2)⟩
theorem qe {o e:Expr}{es:List Expr}{m:FE}{a:FA}{f:FN}{name:Str}{apos cpos:Pos}{id:String}(slot:Slot "list" name id)(hty:typeOf (.builtin id)=pure (.type "method_descriptor"))(hm:C2 X id (λx xs H Q=>rN X.K f (x::xs) H Q))(ho:XE X o m)(ha:XA X (e::es) a)(hbase:attributeBase o name X.env (eval o X.env)=eval o X.env:=by rfl)(hfew:((backTo cpos (dJ (e::es) X.env)).all (λx=> !x.1)&&(backToKw cpos (keywordEach [] X.env)).all (λx=>x.1.isSome)&&decide ((e::es).length+([]:List Keyword).length+(if([]:List Keyword).isEmpty then 0 else 1)<30))=M:=by rfl)(hline:(apos.endLine == cpos.line)=M:=by rfl)(hs:dJ (e::es) X.env=(J,eval e X.env)::dJ es X.env:=by rfl)(hplain:(backTo cpos (dJ es X.env)).any (·.1)=J:=by rfl):XE X (.Call (.Attribute o name apos) (e::es) [] cpos) (oI f m a):=⟨zo (slot:=slot) (hty:=hty) (hm:=hm) (ho:=ho.h) (ha:=ha.h) (hbase:=hbase) (hfew:=hfew) (hline:=hline) (hs:=hs) (hplain:=hplain)⟩
theorem Jl (i:Nat){x:Str}{pos:Pos}(hN:X.N[i]?=Z x:=by rfl)(hv:Vis X.env.scope x:=by first|exact Or.inl rfl|exact Or.inr (Or.inl rfl)|exact Or.inr (Or.inr rfl))(hd:(x == ("__debug__":Str))=J:=by decide)(hcd:(x == ("__classdict__":Str))=J:=by decide):XE X (.Name x pos) (mV i):=⟨mv (i:=i) (hN:=hN) (hv:=hv) (hd:=hd) (hcd:=hcd)⟩
end
section
theorem qH {X:Cx}{k k' n:Nat}{x:Str}{m:FN}{p pos:Pos}{e:Expr}{es:List Expr}{a:FA}(h:fO X.prog X.w X.K X.mg X.base k x n m)(hr:fN k' X.A)(hk:k<=k')(hg:Gl X x)(ha:XA X (e::es) a)(hdb:(x == ("__debug__":Str))=J:=by decide)(he:dJ (e::es) X.env=(J,eval e X.env)::dJ es X.env:=by rfl)(hpl:(backTo pos (dJ es X.env)).any (·.1)=J:=by rfl):XE X (.Call (.Name x p) (e::es) [] pos) (mN (dX n m) a):=⟨Ez (h:=h) (hr:=hr) (hk:=hk) (hg:=hg) (ha:=ha.h) (hdb:=hdb) (he:=he) (hpl:=hpl)⟩
theorem xS {X:Cx}{x:Str}{d:D}{pos:Pos}(h:CGl X.K X.mg x d)(hg:Gl X x)(hd:(x == ("__debug__":Str))=J:=by decide):XE X (.Name x pos) (mC d):=⟨BI (h:=h) (hg:=hg) (hd:=hd)⟩
end
section
variable{X:Cx}
structure HH (X:Cx)(K:Fg1)(tg:Expr)(ifs:List Expr)(elt:Expr)(g:FG)(t:FT)(e:FE):Prop where
 g:XG X tg g
 t:XF X K ifs t
 e:XE X elt e
end
theorem AK{P:dF}{w:dH}{K:Fg1}{mg:Str->Option dB}{base:dN}{x c:Str}{st:dQ}{f:dE}{fd:dP}{N ps:List Str}{k n:Nat}{b:FS}(F:xJ K x c st f fd)(hb:kW K fd ps [])(hm:mg x=some (.ref f))(S:gg N ps (ec st))(hn:ps.length=n)(e:∀(d:dB) (A:dG) (a:List Env) (s:dD) (H:Hp) (E:XK),fN k (A.deeper (envOfC c (ec st) s.heap.objs.size f d)) ->
   xz (lZ tw P w K mg base N c (ec st) f d A a s H E).nox (fq st) b):fO P w K mg base (k+1) x n (iF N.length b):=
 D2 F hb hm S hn λd A a s H E g=>(e d A a s H E g).h
theorem C5{P:dF}{w:dH}{K:Fg1}{mg:Str->Option dB}{base:dN}{x c:Str}{st:dQ}{f:dE}{fd:dP}{N ps:List Str}{k n:Nat}{b:FS}(F:xJ K x c st f fd)(S:gg N ps (ec st))(hn:ps.length=n)(e:∀(d:dB) (A:dG) (a:List Env) (s:dD) (H:Hp) (E:XK),fN k (A.deeper (envOfC c (ec st) s.heap.objs.size f d)) ->
   xz (lZ tw P w K mg base N c (ec st) f d A a s H E).nox (fq st) b):ju P w K mg base tw (k+1) f fd ps (AD K n (iF N.length b)):=by
 subst hn;exact GS F S λd A a s H E g=>(e d A a s H E g).h
abbrev FV:=Ev->Sto->Option (List D×Ev×Sto)
noncomputable def fM (c:List (Nat×List D))(g:FG)(t:FT)(b:FV):List D->FV
 |[]=>λr S=>if oD S c=true then some ([],r,S)else none
 |d::ds=>λr S=>if oD S c=true then(g d r S).bind λp=>(t p.1 p.2).bind λk=>if k.1=true then(b p.1 k.2).bind λq=>(fM c g t b ds q.2.1 q.2.2).map λz=>(q.1++z.1,z.2)else fM c g t b ds p.1 k.2 else none
noncomputable def eI (m:FE):FV:=λr S=>(m r S).map λq=>([q.1],r,q.2)
noncomputable def e6 (k:Nat)(keep:List Nat)(m:FI)(g:FG)(t:FT)(b:FV):FE:=λr S=>(m r S).bind λp=>
 (fM p.1.chk g t b p.1.items (nT k keep r) p.2).bind λq=>if q.1.length<=dL then some (.ref q.2.2.length,q.2.2++[.lst q.1])else none
section
variable{K:Fg1}{H H' H1:Hp}{mu mu' mu1:List dE}{S:Sto}{a:dE}
theorem Ext.aside(x:Ext mu mu' H H'):Ext (a::mu) (a::mu') H H' where
 pre:=bY.mpr ⟨O,x.pre⟩
 old:=λb o h n=>x.old b o h λz=>n (mC1 _ z)
 tup:=x.tup
 frz:=x.frz
 new:=λb h=>by
  rcases aF.mp h with h|h
  ·exact .inl (by rw[h];exact mS1)
  ·rcases x.new b h with q|q
   ·exact .inl (mC1 _ q)
   ·exact .inr q
theorem Ext.inner(x:Ext (a::mu) (a::mu') H H'):q9 mu mu' H H':=⟨(bY.mp x.pre).2,x.tup,x.frz⟩
theorem Ext.held{o:HO}(x:Ext mu mu' H H')(ha:H a=Z o)(hn:a∉mu):H' a=Z o/\a∉mu':=by
 refine⟨x.old a o ha hn,λz=>?_⟩;rcases x.new a z with q|q
 ·exact hn q
 ·rw[ha]at q;cases q
theorem fJ.exw{r:Ev}{σ:L2.St}(e:q9 mu mu' H H')(h:fJ K H mu r σ):fJ K H' mu' r σ:=⟨h.len,λi d q=>by
 obtain⟨v,b,a⟩:=h.val i d q;exact⟨v,b,a.exw e⟩⟩
theorem jJ.exw{b:dE}(e:q9 mu mu' H H')(h:∀o,H b=Z o->H' b=Z o):∀{o:Ob},jJ K H mu b o->jJ K H' mu' b o
 | .lst _,⟨vs,q,r⟩=>⟨vs,h _ q,r.exw e⟩
 | .dct _,⟨ws,q,r⟩=>⟨ws,h _ q,Paired.mapP r λ_ _ z=>⟨z.1,z.2.exw e⟩⟩
 | .dcT _,⟨ws,q,r,l⟩=>⟨ws,h _ q,Paired.mapP r λ_ _ ⟨z,d,k,v,a,r⟩=>⟨z,d,k.exw e,v,a,r.exw e⟩,l⟩
 | .iset _,q=>⟨h _ q.1,q.2⟩
 | .dcF _,⟨ws,⟨o,u,f,c⟩,r,l⟩=>⟨ws,⟨o,u,h _ f,c⟩,Paired.mapP r λ_ _ ⟨z,d,k,v,a,r⟩=>⟨z,d,k.exw e,v,a,r.exw e⟩,l⟩
 | .tst _,⟨ws,q,r⟩=>⟨ws,h _ q,Paired.mapP r λ_ _ ⟨z,d,k,v,a,r⟩=>⟨z,d,k.exw e,v,a,r.exw e⟩⟩
theorem Sim.aside{u:HO}(s:Sim K H mu S)(e:q9 mu mu H (upd H a u))(hn:a∉mu):Sim K (upd H a u) mu S:=
 ⟨s.len,s.nd,λk o b h1 h2=>(s.ob k o b h1 h2).exw e λo' q=>by rw[dY (λz=>hn (by rw[<- z];exact gM1 h2))];exact q⟩
end
inductive FP (K:Fg1)(a:dE)(m:FV)(E:jv)(σ:L2.St)(H:Hp):Prop
 |mk (r:Ev) (mu:List dE) (S:Sto) (acc:List D) (vs:List V) (xs:List D) (r':Ev) (S':Sto):H a=some (.lst vs)->a∉mu->d0 K H mu acc vs->fJ K H mu r σ->Sim K H mu S->m r S=some (xs,r',S')->vs.length+xs.length<=dL ->
 (∀ σ' H' mu' vs',Ext (a::mu) (a::mu') H H'->H' a=some (.lst vs')->a∉mu'->d0 K H' mu' (acc++xs) vs'->fJ K H' mu' r' σ'->Sim K H' mu' S'->E.nx σ' H')->FP K a m E σ H
theorem nA{K:Fg1}{a:dE}{m:FE}{E:jv}{σ:L2.St}{H:Hp}(h:FP K a (eI m) E σ H):ro a (tM K m) E σ H:=by
 obtain⟨r,mu,S,l,vs,xs,w,u,n,f,s,i,t,g,j,hc⟩:=h;obtain⟨⟨d,o⟩,p,g⟩:=oM1.mp g;cases g;refine⟨r,mu,S,d,o,i,t,p,λv H1 mu1 e q k=>?_⟩;obtain⟨c,b⟩:=e.held n f;have put:Ext (a::mu1) (a::mu1) H1 (upd H1 a (.lst (vs++[v]))):=Ext.put c trivial mS1;refine⟨vs,c,j,?_⟩;exact hc σ _ mu1 (vs++[v]) (e.aside.trans put) d4 b (((s.ext e).append (.cons q .nil)).exw put.inner) ((i.ext e).exw put.inner) (k.aside put.inner b)
inductive IN (K:Fg1)(a:dE)(mu2:List dE)(H:Hp)(c:List (Nat×List D))(g:FG)(t:FT)(b:FV)(r':Ev)(S':Sto)(tot:List D)(L:List D)(σ':L2.St)(H':Hp):Prop
 |mk (r3:Ev) (mu3:List dE) (S3:Sto) (acc3:List D) (vs3:List V) (xs3:List D):Ext (a::mu2) (a::mu3) H H'->H' a=some (.lst vs3)->a∉mu3->d0 K H' mu3 acc3 vs3->fJ K H' mu3 r3 σ'->Sim K H' mu3 S3->fM c g t b L r3 S3=some (xs3,r',S')->acc3++xs3=tot->vs3.length+xs3.length<=dL->IN K a mu2 H c g t b r' S' tot L σ' H'
theorem sj{K:Fg1}{a:dE}{j:It}{am:AB}{g:FG}{t:FT}{b:FV}{tb:TS}{D:jv}(hb:∀ E σ H,FP K a b E σ H->tb E σ H){mu1 e:List dE}{H1 H:Hp}{r I:Ev}{S ao:Sto}{σ:L2.St}{acc xs:List Mi.D}{vs:List V}(hJ:ItR K j am mu1 H1)(x:q9 mu1 e H1 H)(ha:H a=Z (.lst vs))(hna:a∉e)(hr:d0 K H e acc vs)(he:fJ K H e r σ)(hs:Sim K H e S)(hm:fM am.chk g t b am.items r S=Z (xs,I,ao))(hl:vs.length+xs.length<=dL)(hc:∀l H' mu' v,Ext (a::e) (a::mu') H H'->H' a=Z (.lst v)->a∉mu'->d0 K H' mu' (acc++xs) v->fJ K H' mu' I l->Sim K H' mu' ao->D.nx l H'):CI j (Dm K g) (yg K t) tb D σ H:=by
 refine⟨λi k l H'=>k=(am.items.drop i).length/\IN K a e H am.chk g t b I ao (acc++xs) (am.items.drop i) l H',
  ⟨_,O,r,e,S,acc,vs,xs,.refl _ _,ha,hna,hr,he,hs,hm,O,hl⟩,?_⟩
 rintro i k aq P ⟨rfl,r3,m,S3,f,vs3,xs3,L,z,A,C,w,U,c,n,h⟩;cases hd0:am.items.drop i with
 |nil=>
  left;rw[hd0,fM]at c;dsimp only at c;split at c
  ·rename_i ok;cases c;refine⟨(hJ i P m _ (x.trans L.inner) U ok).2 (List.drop_eq_nil_iff.mp hd0),hc aq P m vs3 L z A ?_ w U⟩;rw[<- n,aM];exact C
  ·cases c
 |cons d ds=>
  right;rw[hd0]at c;obtain⟨hi,hd⟩:=lN hd0;rw[fM]at c;dsimp only at c;split at c
  ·rename_i ok;obtain⟨⟨N,S4⟩,e4,c⟩:=oB1.mp c;obtain⟨⟨k5,S5⟩,e5,c⟩:=oB1.mp c;obtain⟨go,yl⟩:=(hJ i P m _ (x.trans L.inner) U ok).1 d hi;refine⟨go,IN K a e H am.chk g t b I ao (acc++xs) ds,?_,λy H4 yy=>?_⟩
   ·intro l H' h6;exact⟨ds.length,bE _,(congrArg List.length hd).symm,hd.symm ▸ h6⟩
   ·obtain⟨G,s4,q4⟩:=yl y H4 yy;obtain⟨ha4,T⟩:=G.held z A;refine⟨r3,m,S3,d,N,S4,w.ext G,s4,q4,e4,fun σ5 H5 W wq q s5=>?_⟩;obtain⟨X,hn5⟩:=wq.held ha4 T;refine⟨N,W,S4,k5,S5,q,s5,e5,λH6 o u s6=>?_⟩;obtain⟨B,s⟩:=u.held X hn5;have xx:=((L.trans G.aside).trans wq.aside).trans u.aside;have p:d0 K H6 o f vs3:=((C.ext G).ext wq).ext u;cases k5 with
    |true=>
     obtain⟨⟨q1,r7,S7⟩,e7,c⟩:=oB1.mp c;obtain⟨⟨z1,r8,S8⟩,e8,c⟩:=oM1.mp c;cases c;refine hb _ _ _ ⟨N,o,S5,f,vs3,q1,r7,S7,B,s,p,q.ext u,s6,e7,?_,fun σ8 H8 mu8 vs8 x8 R Q F au s8=>⟨r7,mu8,S7,f++q1,vs8,z1,xx.trans x8,R,Q,F,au,s8,e8,?_,?_⟩⟩
     ·rw[lA1]at h;dsimp only at h;lia
     ·rw[<- n,bI]
     ·have:=F.length;have h3:=p.length;rw[lA1]at this h;dsimp only at h;lia
    |false=>exact⟨N,o,S5,f,vs3,xs3,xx,B,s,p,q.ext u,s6,c,n,h⟩
  ·cases c
theorem sU{K:Fg1}{k:Nat}{keep:List Nat}{m:FI}{g:FG}{t:FT}{b:FV}{tb:dE->TS}(hb:∀ a E σ H,FP K a b E σ H->tb a E σ H){σ:L2.St}{H:Hp}{Q:VK}(h:tM K (e6 k keep m g t b) σ H Q):
  uZ k keep (HU K m) (Dm K g) (yg K t) tb σ H Q:=by
 obtain⟨r,mu,S,d,aq,I,X,f,hc⟩:=h;obtain⟨⟨am,P⟩,W,f⟩:=oB1.mp f;obtain⟨⟨xs,r2,ao⟩,V,f⟩:=oB1.mp f;dsimp only at f;split at f
 ·rename_i R;cases f;refine ⟨r,mu,S,am,P,I,X,W,fun j H1 mu1 N T L p i=>?_⟩;have w:Ext mu1 mu1 H1 (upd H1 p (.lst [])):=Ext.fresh i;refine sj (hb p) T w.w d4 (L.notin i) .nil ((CQ k keep (I.ext N)).ext w) (L.fresh i) V (by simpa using R) fun U H' mu' v l B x C au s'=>?_;have y:Ext mu1 (mu'++[p]) H1 H':=by
   refine⟨((bY.mp l.pre).2).trans (bw _ _),λb o e n=>?_,λb ys e=>l.tup b ys (w.tup b ys e),λb o u e=>l.frz b o u (w.frz b o u e),λb A=>?_⟩
   ·have F:b≠p:=eD e i;exact l.old b o (by rw [dY F];exact e) fun z=>by
     rcases aF.mp z with z|z
     ·exact F z
     ·exact n z
   ·rcases aG.mp A with z|z
    ·rcases l.new b (mC1 _ z)with q|q
     ·rcases aF.mp q with q|q
      ·exact .inr (by rw[q];exact i)
      ·exact .inl q
     ·by_cases s:b=p
      ·exact .inr (by rw[s];exact i)
      ·rw[dY s]at q;exact .inr q
    ·have:b=p:=by simpa using z
     exact .inr (by rw[this];exact i)
  refine hc _ H' (mu'++[p]) (N.trans y) (.ref (fZ s'.len p)) ⟨by rw[lA1,lA1,s'.len];rfl,?_,λn o b h1 h2=>?_⟩
  ·rw[bB];refine⟨s'.nd,by simp,λb hb c hc e=>?_⟩;have:c=p:=by simpa using hc
   subst this;subst e;exact x hb
  ·by_cases G:n<ao.length
   ·rw[gL1 G]at h1;rw[gL1 (by rw[s'.len];exact G)]at h2;exact(s'.ob n o b h1 h2).mor [p]
   ·have D:n=ao.length:=by
     have:=(gE1.mp h1).1;rw[lA1]at this;simp at this;lia
    subst D;rw[gR1 (nR1 _)]at h1;rw[<- s'.len,gR1 (nR1 _)]at h2;simp at h1 h2;subst h1;subst h2;exact⟨v,B,(by simpa using C:d0 K H' mu' xs v).mor [p]⟩
 ·cases f
section
variable{X:Cx}
theorem qZ{elt tg iter:Expr}{ifs:List Expr}{scope:dR}{pos:Pos}{T:List Str}{keep:List Nat}{i:List (Str×dE)}{m:FI}{g:FG}{t:FT}{e:FE}(hc:X.calm=M)(C:Fv X scope T keep)(c:i6 X.env.cells scope.names []=Z i)(hi:XI X tg iter m)(hb:∀s H b,HH (cxC X scope i T keep s H b) X.K tg ifs elt g t e)(hs:∀x,foldedSetIterable iter X.env x=pure x:=by intro _;rfl):XE X (.ListComp elt [⟨tg,iter,ifs,0⟩] scope pos) (e6 T.length keep m g t (eI e)):=
 ⟨eU (vh (emit:=o4 elt) (tb:=λp=>ro p (tM X.K e)) hc (λit d f=>tV elt tg iter ifs scope pos it d f) C c hi.h (λs H b p=>⟨(hb s H b).g.h,(hb s H b).t.h,pY (hb s H b).e.h p⟩) hs)
  fun σ H Q h=>sU (λa E σ H q=>nA q) h⟩
theorem gE{elt tg iter:Expr}{ifs:List Expr}{scope:dR}{pos b l:Pos}{y:Str}(i:Nat){T:List Str}{keep:List Nat}{n:List (Str×dE)}{m:FI}{g:FG}{t:FT}{e:FE}(hc:X.calm=M)(C:Fv X scope T keep)(f:i6 X.env.cells scope.names []=Z n)(hi:XI X tg iter m)(hb:∀s H c,HH (cxC X scope n T keep s H c) X.K tg ifs elt g t e)(hN:X.N.Nodup)(hy:X.N[i]?=Z y)(hx:uO X.env.scope y)(d:swapsWith (.ListComp elt [⟨tg,iter,ifs,0⟩] scope pos) (Z (.Name y l)) b.line X.env=pure M:=by rfl)(hf:X.fn y=M\/X.env.scope.names.lookup y=Z .local:=by first|exact .inl rfl|exact .inr rfl|assumption)(hs:∀x,foldedSetIterable iter X.env x=pure x:=by intro _;rfl):XS X (.Assign [.Name y l] (.ListComp elt [⟨tg,iter,ifs,0⟩] scope pos) b) (eh (e6 T.length keep m g t (eI e)) (gN i)):=
 ⟨hI (Bb (emit:=o4 elt) (tb:=λp=>ro p (tM X.K e)) hc d (λit j k=>tV elt tg iter ifs scope pos it j k) C f hi.h (λs H c p=>⟨(hb s H c).g.h,(hb s H c).t.h,pY (hb s H c).e.h p⟩) hN hy hx hf hs)
  λE σ H h=>Fc (fun σ H Q q=>sU (λa E σ H q=>nA q) q) h⟩
end
noncomputable def ss:D->Option Key
 | .int i=>Z (.inl i)
 | .str x=>Z (.inr x)
 |_=>Y
noncomputable def d3{κ:Type}[DecidableEq κ](kvs:List (κ×D))(k:κ):Option D:=(kvs.find? λp=>decide (p.1=k)).map (·.2)
noncomputable def e9{κ:Type}[DecidableEq κ](kvs:List (κ×D))(k:κ)(d:D):List (κ×D):=
 if(kvs.any λp=>decide (p.1=k))=M then kvs.map (λp=>if p.1=k then(p.1,d)else p)else kvs++[(k,d)]
section
variable{K:Fg1}{H:Hp}{mu:List dE}
theorem kq{d:D}{v:V}{k:Key}(r:eJ K H mu d v)(h:ss d=Z k):v=kV k:=by
 cases r with
 |int i=>cases h;rfl
 |str x=>cases h;rfl
 |_=>cases h
end
section
variable{κ:Type} [DecidableEq κ] {K:Fg1}{H:Hp}{mu:List dE}
theorem KR.length:∀{ks:List (κ×D)} {ws:List (κ×V)},KR K H mu ks ws->ks.length=ws.length:=λh=>Paired.length h
theorem KR.look{k:κ}:∀ {ks:List (κ×D)} {ws:List (κ×V)},KR K H mu ks ws ->
  (∀d,d3 ks k=Z d -> ∃v,ip ws k=Z v/\eJ K H mu d v)/\(d3 ks k=Y->ip ws k=Y):=by
 intro ks ws h
 induction h with
 |nil=>exact⟨λd h=>by simp[d3]at h,λ_=>rfl⟩
 | @cons p q ks ws r t ih=>
  obtain⟨a,f⟩:=p;obtain⟨j,c⟩:=q;obtain⟨e,r⟩:=r;dsimp only at e r;subst e;obtain⟨h1,h2⟩:=ih;by_cases b:a=k
  ·subst b;refine⟨λd h=>?_,λh=>?_⟩
   ·have:f=d:=by simpa[d3]using h
    subst this;exact⟨c,by simp[ip],r⟩
   ·simp[d3]at h
  ·have i:d3 ((a,f)::ks) k=d3 ks k:=by simp[d3,bc,b]
   have g:ip ((a,c)::ws) k=ip ws k:=by simp[ip,bc,b]
   rw[i,g];exact⟨h1,h2⟩
theorem KR.any{k:κ}:∀{ks:List (κ×D)} {ws:List (κ×V)},KR K H mu ks ws->(ks.any λp=>decide (p.1=k))=ws.any λp=>decide (p.1=k):=by
 intro ks ws h
 induction h with
 |nil=>rfl
 |cons r t ih=>rw[bd,bd,ih,r.1]
theorem KR.repl{k:κ}{d:D}{v:V}(q:eJ K H mu d v):∀ {ks:List (κ×D)} {ws:List (κ×V)},KR K H mu ks ws ->
  KR K H mu (ks.map λp=>if p.1=k then(p.1,d)else p) (ws.map λp=>if p.1=k then(p.1,v)else p):=by
 intro ks ws h
 induction h with
 |nil=>exact .nil
 | @cons a b ks ws r t ih=>
  refine .cons ?_ ih;obtain⟨e,r⟩:=r;dsimp only;by_cases h:a.1=k
  ·rw[ak h,ak (e ▸ h)];exact⟨e,q⟩
  ·rw[aj h,aj (e ▸ h)];exact⟨e,r⟩
theorem KR.snoc{k:κ}{d:D}{v:V}(q:eJ K H mu d v):∀{ks:List (κ×D)} {ws:List (κ×V)},KR K H mu ks ws->KR K H mu (ks++[(k,d)]) (ws++[(k,v)]):=by
 intro ks ws h
 induction h with
 |nil=>exact .cons ⟨O,q⟩ .nil
 |cons r t ih=>exact .cons r ih
theorem KR.put{k:κ}{d:D}{v:V}(q:eJ K H mu d v){ks:List (κ×D)}{ws:List (κ×V)}(h:KR K H mu ks ws):KR K H mu (e9 ks k d) (ii ws k v):=by
 unfold e9 ii;rw[h.any];split
 ·exact h.repl q
 ·exact h.snoc q
end
noncomputable def uA:G2:=λd e S=>match e with
 | .ref n=>match S[n]? with
  |some (.dct kvs)=>(ss d).map λk=>(.bl (d3 kvs k).isSome,S)
  |_=>Ft d e S
 |_=>Ft d e S
noncomputable def iE:G2:=λd e S=>match e with
 | .ref n=>match S[n]? with
  |some (.dct kvs)=>(ss d).map λk=>(.bl (!(d3 kvs k).isSome),S)
  |_=>lg d e S
 |_=>lg d e S
noncomputable def lh:G2:=λd e S=>match d with
 | .ref n=>match S[n]? with
  |some (.dct kvs)=>(ss e).bind λk=>(d3 kvs k).map λx=>(x,S)
  |_=>zS d e S
 |_=>zS d e S
noncomputable def lK:G3:=λo i v S=>match o with
 | .ref n=>match S[n]? with
  |some (.dct kvs)=>(ss i).bind λk=>if kvs.length<dL then Z (.non,S.set n (.dct (e9 kvs k v)))else Y
  |_=>jG o i v S
 |_=>jG o i v S
section
variable{X:Cx}
theorem m4{K:Fg1}{H:Hp}{mu:List dE}{S:Sto}(hs:Sim K H mu S){n:Nat}{a:dE}{kvs:List (Key×D)}{k:Key}{y:V}(hn:mu[n]? = some a)(he:S[n]? = some (.dct kvs))(hy:y=kV k):
  ∃o:Option V,n6 H a y o/\(∀d,d3 kvs k=Z d -> ∃v,o=Z v/\eJ K H mu d v)/\(d3 kvs k=Y->o=Y)/\o.isSome=(d3 kvs k).isSome:=by
 obtain⟨ws,f,b⟩:=hs.dct he hn;subst hy;obtain⟨h1,h2⟩:=b.look (k:=k);refine⟨ip ws k,n6.k f,h1,h2,?_⟩;cases e:d3 kvs k with
 |none=>rw[h2 e];rfl
 |some d=>obtain⟨v,c,_⟩:=h1 d e;rw[c];rfl
theorem Gk(t:X.A.units+64<cLine):gn X (compareOp .In) (r2 X.K (b2 uA)):=by
 intro ag s σ H x y u w Q I j f h;obtain⟨mu,S,d,e,r,i,l,b,c,a,hc⟩:=ou h;have back:Ft d e S=Z (r,i)->dM (model X.prog X.w) X.A (compareOp .In u w) (EP X ag σ Q) X.xe s:=λa=>Im t ag s σ H x y u w Q I j f ⟨mu,S,[d,e],r,i,.cons l (.cons b .nil),c,a,hc⟩;unfold uA at a;split at a
 ·rename_i n;split at a
  ·rename_i kvs q;obtain⟨k,v,a⟩:=oM1.mp a;cases a;cases b with
   |ref m=>
    cases f;obtain⟨o,g,_,_,hi⟩:=m4 c m q (kq l v);exact IB (by lia) I g j λs' p=>⟨.bl o.isSome,H,p,O,by rw[hi];exact hc.now (.bl _) c⟩
  ·exact back a
 ·exact back a
theorem zb(t:X.A.units+64<cLine):gn X (compareOp .NotIn) (r2 X.K (b2 iE)):=by
 intro ag s σ H x y u w Q I j f h;obtain⟨mu,S,d,e,r,i,l,b,c,a,hc⟩:=ou h;have back:lg d e S=Z (r,i)->dM (model X.prog X.w) X.A (compareOp .NotIn u w) (EP X ag σ Q) X.xe s:=λa=>Bu t ag s σ H x y u w Q I j f ⟨mu,S,[d,e],r,i,.cons l (.cons b .nil),c,a,hc⟩;unfold iE at a;split at a
 ·rename_i n;split at a
  ·rename_i kvs q;obtain⟨k,v,a⟩:=oM1.mp a;cases a;cases b with
   |ref m=>
    cases f;obtain⟨o,g,_,_,hi⟩:=m4 c m q (kq l v);exact Cj (by lia) I g j λs' p=>⟨.bl (!o.isSome),H,p,O,by rw[hi];exact hc.now (.bl _) c⟩
  ·exact back a
 ·exact back a
theorem Fw(P:X.A.units+64<cLine):C3 X (r2 X.K (b2 lh)):=by
 intro value b ag s σ H x y v u Q I w A h m;obtain⟨mu,S,d,e,r,C,B,j,q,c,hc⟩:=ou h;have back:zS d e S=Z (r,C)->dM (model X.prog X.w) X.A (subscriptTail value b v u) (EP X ag σ Q) X.xe s:=λc=>HK value b ag s σ H x y v u Q I w A ⟨mu,S,[d,e],r,C,.cons B (.cons j .nil),q,c,hc⟩ m;unfold lh at c;split at c
 ·rename_i n;split at c
  ·rename_i kvs G;obtain⟨k,D,c⟩:=oB1.mp c;obtain⟨z,au,c⟩:=oM1.mp c;cases c;cases B with
   | @ref _ a K=>
    cases w;obtain⟨o,g,h1,_,_⟩:=m4 q K G (kq j D);obtain⟨E,am,F⟩:=h1 _ au;subst am;have t:=sP I g;unfold subscriptTail;refine wB1 ?_;rw[getitemInPython_of_ne t.not_modules];refine wB1 (wpAny_specialOf t PySem.F.slot_dict_getitem.lookup ?_);have i:dM (model X.prog X.w) X.A (subscripted b J (.ref a) u) (λr f=>dM (model X.prog X.w) X.A (letTemporaryGo value (.ref a) r >>= λ_=>pure r) (EP X ag σ Q) X.xe f) X.xe s:=by
     rw[m];exact wpAny_operating (wpAny_mono (xj (by lia) I g A λao L N p=>(⟨E,H,N,p,hc.now F q⟩:EP X ag σ Q ao L)) (λr f l=>wB1 (wpAny_letTemporaryGo (wP1 l))) λ_ _ x=>x)
    first
     |exact wP1 (wB1 i)
     |exact wB1 i
     |exact i
  ·exact back c
 ·exact back c
theorem Dx(L:X.A.units+64<cLine):uN X (rU X.K (b3 lK)):=by
 intro ag s σ H o i v r l u Q I z x g h;obtain⟨mu,S,ds,d,y,F,e,a,hc⟩:=id h;cases F with
 |cons t am=>cases am with
  |cons j D=>cases D with
   |cons w E=>
    cases E;rename_i p q f;dsimp only[b3]at a;have back:jG p q f S=Z (d,y)->dM (model X.prog X.w) X.A (setItem r l u) (λ_ s'=>∃H',Inv X ag σ H' s'/\Q H') X.xe s:=λa=>F0 ag s σ H o i v r l u Q I z x g ⟨mu,S,[p,q,f],d,y,.cons t (.cons j (.cons w .nil)),e,a,hc⟩;unfold lK at a;split at a
    ·rename_i n;split at a
     ·rename_i kvs C;obtain⟨k,A,a⟩:=oB1.mp a;split at a
      ·rename_i B;cases a;cases t with
       |ref c=>
        cases z;obtain⟨ws,b,m⟩:=e.dct C c;have K:=kq j A;subst K;refine xi (by lia) I (xD.k b (by rw[<- m.length];exact B)) x g λs' G=>⟨_,G,?_⟩;have put:Ext mu mu H (upd H _ (.dK (ii ws k v))):=Ext.put b trivial (gM1 c);exact hc _ mu put (e.put c b trivial ⟨_,d4,(m.put w).ext put⟩)
      ·cases a
     ·exact back a
    ·exact back a
noncomputable def B9:G2:=λd e S=>match e with
 | .non=>Z (.bl (oR d),S)
 | .bl b=>match d with
  | .bl c=>Z (.bl (c == b),S)
  |_=>Y
 |_=>Y
noncomputable def hA:G2:=λd e S=>match e with
 | .non=>Z (.bl (!oR d),S)
 | .bl b=>match d with
  | .bl c=>Z (.bl (!(c == b)),S)
  |_=>Y
 |_=>Y
theorem Gi:gn X (compareOp .Is) (r2 X.K (b2 B9)):=by
 intro ag s σ H x y u w Q I i g h;obtain⟨mu,S,d,e,r,l,j,a,k,f,hc⟩:=ou h;cases e with
 |non=>exact Gj ag s σ H x y u w Q I i g ⟨mu,S,[d,.non],r,l,.cons j (.cons a .nil),k,f,hc⟩
 |bl b=>
  cases d with
  |bl c=>
   cases f;cases j;cases a;cases i;cases g;exact is_bool ⟨.bl (c == b),H,I,O,hc.now (.bl _) k⟩
  |_=>cases f
 |_=>cases f
theorem mX:gn X (compareOp .IsNot) (r2 X.K (b2 hA)):=by
 intro ag s σ H x y u w Q I i g h;obtain⟨mu,S,d,e,r,l,j,a,k,f,hc⟩:=ou h;cases e with
 |non=>exact Eb ag s σ H x y u w Q I i g ⟨mu,S,[d,.non],r,l,.cons j (.cons a .nil),k,f,hc⟩
 |bl b=>
  cases d with
  |bl c=>
   cases f;cases j;cases a;cases i;cases g;exact isnot_bool ⟨.bl (!(c == b)),H,I,O,hc.now (.bl _) k⟩
  |_=>cases f
 |_=>cases f
noncomputable def zv:FE:=λ_ S=>Z (.ref S.length,S++[.dct []])
theorem xT{pos:Pos}:XE X (.Dict [] [] pos) zv:=⟨eU yT <| by
 rintro σ H Q ⟨r,mu,S,d,e,f,b,c,hc⟩ p a;cases c;exact hc _ _ (mu++[p]) (Ext.new_ a) (.ref (fZ b.len p)) (b.new a ⟨[],d4,.nil⟩)⟩
noncomputable def BM:List (FE×FE)->Ev->Sto->Option (List (D×D)×Sto)
 |[],_,S=>Z ([],S)
 |(a,b)::l,r,S=>(a r S).bind λp=>(b r p.2).bind λq=>(BM l r q.2).map λt=>((p.1,q.1)::t.1,t.2)
noncomputable def vA:List (D×D)->Option (List (Key×D))
 |[]=>Z []
 |(k,d)::l=>(ss k).bind λk=>(vA l).map λt=>(k,d)::t
noncomputable def sd(l:List (FE×FE)):FE:=λr S=>(BM l r S).bind λp=>(vA p.1).bind λkvs=>if kvs.length<=15 then Z (.ref p.2.length,p.2++[.dct (kvs.foldl (λacc kv=>e9 acc kv.1 kv.2) [])])else Y
structure XP (X:Cx)(pos:Pos)(ks:List (Option Expr))(vs:List Expr)(l:List (FE×FE)):Prop where
 h:Hk X pos ks vs (l.map λp=>(tM X.K p.1,tM X.K p.2))
theorem uR{pos:Pos}:XP X pos [] [] []:=⟨Bd⟩
theorem gh{pos:Pos}{k v:Expr}{ks:List (Option Expr)}{vs:List Expr}{a b:FE}{l:List (FE×FE)}(hk:XE X k a)(hv:XE X v b)(t:XP X pos ks vs l):XP X pos (Z k::ks) (v::vs) ((a,b)::l):=⟨yJ hk.h hv.h t.h⟩
theorem yI{K:Fg1}{σ:L2.St}:∀ {l:List (FE×FE)} {r:Ev} {mu:List dE} {H:Hp} {S e:Sto} {ps:List (D×D)} {Q:List (V×V)->Hp->Prop},fJ K H mu r σ->Sim K H mu S->BM l r S=some (ps,e) ->
  (∀vs H' mu',Ext mu mu' H H'->Paired (λ(p:D×D) (q:V×V)=>eJ K H' mu' p.1 q.1/\eJ K H' mu' p.2 q.2) ps vs->Sim K H' mu' e->Q vs H')->pM (l.map λp=>(tM K p.1,tM K p.2)) σ H Q
 |[],r,mu,H,S,e,ps,Q,he,hs,c,hc=>by cases c;exact hc [] H mu (.refl _ _) .nil hs
 |(a,b)::l,r,mu,H,S,e,ps,Q,he,hs,c,hc=>by
  obtain⟨⟨d,j⟩,w,c⟩:=oB1.mp c;obtain⟨⟨s,B⟩,o,c⟩:=oB1.mp c;obtain⟨⟨t,E⟩,k,c⟩:=oM1.mp c;cases c;refine⟨r,mu,S,d,j,he,hs,w,λv H1 mu1 i x A=>⟨r,mu1,j,s,B,he.ext i,A,o,λC H2 z g r2 n=>?_⟩⟩;refine yI ((he.ext i).ext g) n k λvs m f h y u=>hc _ m f ((i.trans g).trans h) (.cons ⟨(x.ext g).ext h,r2.ext h⟩ y) u
theorem zD{K:Fg1}{H:Hp}{mu:List dE}:∀ {ps:List (D×D)} {vs:List (V×V)} {kvs:List (Key×D)},Paired (fun (p:D×D) (q:V×V)=>eJ K H mu p.1 q.1/\eJ K H mu p.2 q.2) ps vs->vA ps=some kvs ->
  ∃ws:List (Key×V),vs=ws.map (λc=>(kV c.1,c.2))/\KR K H mu kvs ws:=by
 intro ps vs kvs f h
 induction f generalizing kvs with
 |nil=>cases h;exact⟨[],O,.nil⟩
 | @cons a b ps vs q t ih=>
  obtain⟨k,d⟩:=a;obtain⟨m,j⟩:=b;obtain⟨i,g,h⟩:=oB1.mp h;obtain⟨rest,l,h⟩:=oM1.mp h;cases h;obtain⟨ws,e,r⟩:=ih l;have:=kq q.1 g;dsimp only at this;subst this;exact⟨(i,j)::ws,by rw[mP1,<- e],.cons ⟨O,q.2⟩ r⟩
theorem zn{K:Fg1}{H:Hp}{mu:List dE}:∀{kvs:List (Key×D)} {ws:List (Key×V)} {acc:List (Key×D)} {acw:List (Key×V)},KR K H mu kvs ws->KR K H mu acc acw->KR K H mu (kvs.foldl (λacc c=>e9 acc c.1 c.2) acc) (iB acw ws):=by
 intro kvs ws acc acw f h
 induction f generalizing acc acw with
 |nil=>exact h
 | @cons a b kvs ws r t ih=>
  obtain⟨k,d⟩:=a;obtain⟨g,v⟩:=b;obtain⟨e,r⟩:=r;dsimp only at e r;subst e;show KR K H mu (kvs.foldl _ (e9 acc k d)) (iB (ii acw k v) ws);exact ih (h.put r)
theorem re{pos:Pos}{ks:List (Option Expr)}{vs:List Expr}{l:List (FE×FE)}(h:XP X pos ks vs l)(k:ks.all (·.isSome)=M:=by rfl)(I:ks.length=vs.length:=by rfl)(h0:ks≠[]:=by(intro z;cases z))(B:ks.length<=15:=by decide):XE X (.Dict ks vs pos) (sd l):=
 ⟨eU (Bl h.h k I h0 B) <| by
  rintro σ H Q ⟨r,mu,S,d,R,N,G,f,hc⟩ p j;obtain⟨⟨ps,D⟩,ao,f⟩:=oB1.mp f;obtain⟨kvs,L,f⟩:=oB1.mp f;dsimp only at f;split at f
  ·rename_i t;cases f;have x:Ext mu mu H (upd H p (.dK [])):=Ext.fresh j;refine yI (N.ext x) (G.fresh j) ao fun vs H1 mu1 i au g=>?_;obtain ⟨v,s⟩:=i.held (a:=p) (o:=.dK []) d4 (G.notin j);obtain ⟨ws,P,rk⟩:=zD au L;refine ⟨v,ws,P,by rw [<- rk.length];exact t,?_⟩;have put:Ext (p::mu1) (p::mu1) H1 (upd H1 p (.dK (iB [] ws))):=Ext.put v trivial mS1;have K:=g.aside put.inner s;have y:Ext mu (mu1++[p]) H (upd H1 p (.dK (iB [] ws))):=by
    refine⟨i.pre.trans (bw _ _),λb o e n=>?_,λb ys e=>put.tup b ys (i.tup b ys (x.tup b ys e)),λb o u e=>put.frz b o u (i.frz b o u (x.frz b o u e)),λb A=>?_⟩
    ·have E:b≠p:=eD e j;rw[dY E];exact i.old b o (by rw[dY E];exact e) n
    ·rcases aG.mp A with z|z
     ·rcases i.new b z with q|q
      ·exact .inl q
      ·by_cases m:b=p
       ·exact .inr (by rw[m];exact j)
       ·rw[dY m]at q;exact .inr q
     ·have:b=p:=by simpa using z
      exact .inr (by rw[this];exact j)
   have w:=zn rk (acc:=[]) (acw:=[]) .nil;refine hc _ _ (mu1++[p]) y (.ref (fZ g.len p)) ⟨by rw[lA1,lA1,g.len];rfl,?_,λn o b h1 h2=>?_⟩
   ·rw[bB];refine⟨g.nd,by simp,λb am c hc e=>?_⟩;have:c=p:=by simpa using hc
    subst this;subst e;exact s am
   ·by_cases F:n<D.length
    ·rw[gL1 F]at h1;rw[gL1 (by rw[g.len];exact F)]at h2;exact(K.ob n o b h1 h2).mor [p]
    ·have C:n=D.length:=by
      have:=(gE1.mp h1).1;rw[lA1]at this;simp at this;lia
     subst C;rw[gR1 (nR1 _)]at h1;rw[<- g.len,gR1 (nR1 _)]at h2;simp at h1 h2;subst h1;subst h2;exact⟨_,d4,KR.mor [p] (Paired.mapP w λ_ _ z=>⟨z.1,z.2.exw put.inner⟩)⟩
  ·cases f⟩
end
section
variable{K:Fg1}{H H':Hp}{mu mu':List dE}{S:Sto}
end
theorem l7{X:Cx}(i j:Nat){x y:Str}{a b:Expr}{m:FA}{n l pt pos:Pos}{kt k2 pt2}(hc:X.calm=true)(hN:X.N.Nodup)(hi:X.N[i]? = some x)(s:X.N[j]? = some y)(k:i≠j)(hx:X.env.scope.names.lookup x=some .local)(hy:X.env.scope.names.lookup y=some .local)(ha:XA X [a,b] m)(hw:swappedStores [.Tuple [.Name x n,.Name y l] kt pt] (.Tuple [a,b] k2 pt2) X.env=pure (some [x,y]):=by rfl)(hs:swapsWithSole [.Tuple [.Name x n,.Name y l] kt pt] (.Tuple [a,b] k2 pt2) pos.line X.env=pure false:=by rfl):
  XS X (.Assign [.Tuple [.Name x n,.Name y l] kt pt] (.Tuple [a,b] k2 pt2) pos) (eh (eQ m) (gT 2 (gCs (gN i) (gCs (gN j) gNl)))):=
 ⟨hI (DM hc hN hi s k hx hy ha.h hw hs) <| by
  rintro E σ H ⟨r,mu,S,f,z,B,o,hs,h,hc⟩;obtain⟨⟨d,w⟩,e,h⟩:=oB1.mp h;obtain⟨⟨r2,C⟩,c,h⟩:=oB1.mp h;cases h;obtain⟨⟨ds,A⟩,q,e⟩:=oB1.mp e;dsimp only at e;split at e
  ·cases e;refine⟨r,mu,S,ds,_,o,hs,q,λvs H1 mu1 p g v=>?_⟩;dsimp only at c;rw[gT]at c;split at c
   ·cases g with
    |nil=>cases c
    |cons u g=>cases g with
     |nil=>cases c
     |cons t g=>cases g with
      |nil=>
       cases c;exact⟨_,_,O,hc _ H1 mu1 p (((o.ext p).set u).set t) v⟩
      |cons _ _=>cases c
   ·cases c
  ·cases e⟩
noncomputable def zU:G2:=λd e S=>match d,e with
 | .int i,.int j=>Z (.int (i+j),S)
 |_,_=>Y
theorem BY{X:Cx}:HI X .Add (r2 X.K (b2 zU)):=by
 intro ag s σ H x y v u Q I f c h;obtain⟨mu,S,d,e,r,l,g,b,k,a,hc⟩:=ou h;unfold zU at a;split at a
 ·rename_i i j;cases a;cases g;cases b;exact BZ ag s σ H _ _ v u Q I f c ⟨i,j,O,O,hc.now (.int _) k⟩
 ·cases a
end Mi
namespace HT
open PySem PySem.Spec PyProof.Rows
variable{prog:dF}{w:dH}{A:dG}{E:dB->dD->Prop}{s:dD}
theorem jp{t sl:dE}{items:Array dB}{e vu:dB}{lo hi:Option Int}{Q:dB->dD->Prop}(ht:IsTup s.heap t items)(hs:s.heap.IsSliceOf sl e vu .none)(pl:IsPart e lo)(g:IsPart vu hi)(hw:sIx items.size 0 lo=0/\sIx items.size items.size hi=items.size)(h:Q (.ref t) s):dM (model prog w) A (getItem (.ref t) (.ref sl)) Q E s:=by
 obtain⟨f,c,d,i⟩:=id hs;have b:s.TypeIs (.ref sl) "slice":=⟨f,c,d⟩;unfold getItem
 try with_reducible refine wpAny_holding ?_
 first|refine wB1 (wP1 ?_)|skip
 refine wB1 (wpAny_sequenceKey ht.typeIs (by decide) ?_);refine wB1 (wpAny_callSpecial?_slot (name:=Str.ofString "__getitem__") ht.typeIs PyProof.Rows.slot_tuple_getitem
  (wE1 PyProof.Rows.slot_tuple_getitem ht.typeIs entry_tuple_getitem ?_ (args_tuple_getitem _ _)))
 show dM _ _ (Builtin.Tuple.tupleItemsOf (.ref t) >>= _) _ _ s;refine wB1 (tupleItemsOf_ ht ?_);refine wB1 (wpAny_typeOf b ?_);rw[ak (by decide)];refine wB1 (hW hs pl g ?_);have a:((((sIx items.size 0 lo:Nat):Int) == 0&&(1:Int) == 1&&(sIx items.size items.size hi-sIx items.size 0 lo) == items.size)=M):=by
  rw[hw.1,hw.2];simp
 show dM _ _ (if(((sIx items.size 0 lo:Nat):Int) == 0&&(1:Int) == 1&&(sIx items.size items.size hi-sIx items.size 0 lo) == items.size)=M then _ else _) _ _ s;rw[ak a];refine wB1 ?_;unfold Builtin.Tuple.tupleIsExact;refine wB1 (wpAny_typeOf ht.typeIs (wP1 ?_));rw[ak (by decide)]
 first
  |exact wB1 (wpAny_rule (wP1 ⟨_,rfl,wP1 h⟩))
  |exact wB1 (wpAny_rule (wB1 (wP1 ⟨_,rfl,wP1 h⟩)))
end HT
namespace Mi
open PySem PySem.Spec PyProof.Rows L2
def Ig(K:Fg1):V->Option Int->Option Int->Hp->VK->Prop:=λx lo hi H Q=>∃a xs,x = .ref a/\jn K H a xs/\(HT.sIx xs.length 0 lo=0/\HT.sIx xs.length xs.length hi=xs.length)/\Q (.ref a) H
section
variable{X:Cx}
theorem AX:AH X (Ig X.K):=by
 intro ag s σ H x v k vu lo hi m Q I g j pl f h;obtain⟨a,xs,rfl,i,e,q⟩:=h;cases g;obtain⟨c,r,d,l⟩:=I.tuple i;have b:c.toArray.size=xs.length:=by rw[sT1];exact r.length.symm
 refine⟨"tuple",_,PyProof.Rows.slot_tuple_getitem.lookup,d.typeIs,?_⟩;exact HT.jp d j pl f (by rw[b];exact e) ⟨.ref a,H,I,O,q⟩
noncomputable def yq(S:Sto)(d:D)(lo hi:Option Int):Option (D×Sto):=(d6 S d).map λp=>if p.1=M then(.ref S.length,S++[.lst (Mi.sT p.2 lo hi)])else(.tup (Mi.sT p.2 lo hi),S)
noncomputable def wN(m:FE)(lo hi:FO):FE:=λr S=>(m r S).bind λp=>(lo r p.2).bind λa=>(hi r a.2).bind λb=>yq b.2 p.1 a.1 b.1
theorem xk{xs:List D}{lo hi:Option Int}(h:HT.sIx xs.length 0 lo=0/\HT.sIx xs.length xs.length hi=xs.length):Mi.sT xs lo hi=xs:=by
 unfold Mi.sT;rw[h.1,h.2,bZ,Nat.sub_zero,b4]
theorem tN{e:Expr}{lo hi:Option Expr}{m:FE}{a b:FO}{pos p2:Pos}(h:XE X e m)(D:XO X lo a)(N:XO X hi b):XE X (.Subscript e (.Slice lo hi Y p2) pos) (wN m a b):=
 ⟨eU (yR (AH.or AX (AH.or Dt AY)) h.h D.h N.h) <| by
  rintro σ H Q ⟨r,mu,S,d,R,u,au,f,hc⟩;obtain⟨⟨G,z⟩,K,f⟩:=oB1.mp f;obtain⟨⟨l,B⟩,I,f⟩:=oB1.mp f;obtain⟨⟨n,am⟩,C,f⟩:=oB1.mp f;refine⟨r,mu,S,G,z,u,au,K,λv H1 mu1 y L ao=>?_⟩;refine⟨r,mu1,z,l,B,u.ext y,ao,I,λH2 x w E=>?_⟩;refine⟨r,x,B,n,am,(u.ext y).ext w,E,C,λP g A j=>?_⟩;obtain⟨⟨k,xs⟩,F,f⟩:=oM1.mp f;have o:=(y.trans w).trans A;obtain⟨c,vs,rfl,q,t⟩:=ev ((L.ext w).ext A) j F;cases k with
  |true=>
   cases f;right;right;exact⟨c,vs,O,q,λp i=>hc _ _ (g++[p]) (o.trans (Ext.new_ i)) (.ref (fZ j.len p)) (j.newL (vX t l n) i)⟩
  |false=>
   simp only[bF1,if_false]at f;cases f;by_cases s:HT.sIx xs.length 0 l=0/\HT.sIx xs.length xs.length n=xs.length
   ·left;rw[xk s]at hc;exact⟨c,vs,O,q,by rw[<- t.length];exact s,hc _ _ g o (.tup q t) j⟩
   ·right;left;exact⟨c,vs,O,q,by rw[<- t.length];exact s,λp i=>hc _ _ g (o.trans (Ext.fresh i)) (.tup (jn.of d4) ((vX t l n).ext (Ext.fresh i))) (j.fresh i)⟩⟩
end
mutual
inductive gD (h:dN):TK->dB->Prop
 |non:gD h .non .none
 |int (i t):gD h (.int i) (.int i t)
 |tup {a o items n xs}:h.get? a=some o->o.cls = .type "tuple"->o.data = .seq items n->gP h xs items.toList->gD h (.tup xs) (.ref a)
inductive gP (h:dN):List TK->List dB->Prop
 |nil:gP h [] []
 |cons {k v ks vs}:gD h k v->gP h ks vs->gP h (k::ks) (v::vs)
end
section
variable{prog:dF}{w:dH}{A:dG}{E:dB->dD->Prop}{s:dD}
theorem rH{Q:Int->dD->Prop}(h:Q 0xFCA86420 {s with toks:=s.toks+1}):dM (model prog w) A (pyHash .none) Q E s:=by
 have a:s.TypeIs .none "NoneType":=rfl;unfold pyHash
 first|unfold pyHashByItsType|skip
 have b:[Value.none].any Value.onHeap=J:=rfl;refine wB1 ?_;rw[cRoomFor,aj (by rw[b];exact aK)];refine wP1 ?_;refine wB1 (wpAny_specialOf a F.slot_NoneType_hash.lookup ?_);show dM _ _ (if(Z (Value.builtin "NoneType.__hash__") == Z Value.none)=M then _ else _) Q E s;rw[aj (by rw[beq_builtin_none];exact aK)];refine wB1 (wpAny_specialOf a F.slot_NoneType_hash.lookup ?_);show dM _ _ (callSpecialIfBoundUnlessNone? .none "__hash__" _ >>= _) Q E s;refine wB1 (wpAny_callSpecialIfBoundUnlessNone?_slot a F.slot_NoneType_hash (wE1 F.slot_NoneType_hash a F.entry_NoneType_hash (show dM _ _ (retInt 0xFCA86420) _ _ s from wpAny_ret_mkInt ?_) (F.args_NoneType_hash_1 _)));exact wP1 h
def qS(prog:dF)(w:dH)(k:TK):Prop:=∀{A:dG} {E:dB->dD->Prop} {s:dD} {v:dB} {Q:Int->dD->Prop},A.units+k.dep<cLine->gD s.heap k v->Q k.hash {s with toks:=s.toks+k.draws}->dM (model prog w) A (pyHash v) Q E s
theorem gP.split{h:dN}:∀{ks:List TK} {vs:List dB},gP h ks vs->ks.length=vs.length:=λa=>a.rec (motive_1:=λ_ _ _=>True) (motive_2:=λks vs _=>ks.length=vs.length) trivial (λ_ _=>trivial) (λ_ _ _ _ _=>trivial) O (λ_ _ _ ih=>congrArg (· + 1) ih)
theorem zN{xs:List TK}(all:∀k∈xs,qS prog w k):qS prog w (.tup xs):=by
 intro A E s v Q t r h;cases r with
 | @tup a o l n _ p hc u hi=>
  have j:s.TypeIs (.ref a) "tuple":=⟨o,p,hc⟩;rw[TK.dep]at t;unfold pyHash
  first|unfold pyHashByItsType|skip
  first|refine wB1 (wpAny_cRoomFor_or (.inr (by lia)) ?_)|skip
  refine wB1 (wpAny_specialOf j F.slot_tuple_hash.lookup ?_);show dM _ _ (if(Z (Value.builtin "tuple.__hash__") == Z Value.none)=M then _ else _) Q E s;rw[aj (by rw[beq_builtin_none];exact aK)];refine wB1 (wpAny_specialOf j F.slot_tuple_hash.lookup ?_);show dM _ _ (callSpecialIfBoundUnlessNone? (.ref a) "__hash__" _ >>= _) Q E s;refine wB1 (wpAny_callSpecialIfBoundUnlessNone?_slot j F.slot_tuple_hash (wE1 F.slot_tuple_hash j F.entry_tuple_hash ?_ (F.args_tuple_hash_1 _)));show dM _ _ (Builtin.Tuple.tupleItemsOf (.ref a) >>= _) _ _ s;refine wB1 (wpAny_tupleItemsOf p u ?_);refine wB1 ?_;rw[<- Array.forIn_toList];refine wpAny_forIn_list _
   (λrest (b:Array Int) s'=>∃done c,xs=done++c/\gP s.heap c rest/\b.toList=TK.hashes done/\s'={s with toks:=s.toks+TK.drawsAll done})
   _ ?_ ?_ _ _ ⟨[],xs,O,hi,O,O⟩
  ·rintro x rest b s' ⟨done,c,e,m,i,rfl⟩;cases m with
   | @cons k _ f _ h1 d=>
    have q:k∈xs:=by rw[e];simp
    refine wB1 (all k q (show A.in1.units+k.dep<cLine by have:=TK.dep_mem q;rw[show A.in1.units=A.units+1 from rfl];lia) h1 ?_)
    first
     |exact wP1 ⟨done++[k],f,by simp[e],d,by rw[TK.hashes_app];simp[i,TK.hashes],by rw[TK.draws_app];simp[TK.drawsAll,bm]⟩
     |exact wB1 (wP1 (wP1 ⟨done++[k],f,by simp[e],d,by rw[TK.hashes_app];simp[i,TK.hashes],by rw[TK.draws_app];simp[TK.drawsAll,bm]⟩))
  ·rintro b s' ⟨done,c,e,m,i,rfl⟩;cases m;rw[aM]at e;subst e;show dM _ _ (retInt (Builtin.Tuple.tupleHashOf b.toList)) _ _ _;rw[i];refine wpAny_ret_mkInt ?_;show dM _ _ (if(decide (-(2:Int)^63<=Builtin.Tuple.tupleHashOf (TK.hashes xs))&&decide (Builtin.Tuple.tupleHashOf (TK.hashes xs)<2^63))=M then _ else _) Q E _;rw[TK.hash,TK.draws]at h;unfold reduceHash at h;by_cases g:(decide (-(2:Int)^63<=Builtin.Tuple.tupleHashOf (TK.hashes xs))&&decide (Builtin.Tuple.tupleHashOf (TK.hashes xs)<2^63))=M
   ·rw[ak g];rw[ak g]at h;exact wP1 (by simpa[bm]using h)
   ·rw[aj g];rw[aj g]at h;exact wB1 (wpAny_rule (wP1 (by simpa[bm]using h)))
mutual
theorem vI:∀k:TK,qS prog w k
 | .non=>λb a h=>by cases a;exact rH h
 | .int i=>λb a h=>by cases a;exact wpAny_pyHash_int h
 | .tup xs=>zN (sC xs)
theorem sC:∀ks:List TK,∀k∈ks,qS prog w k
 |[],k,h=>by simp at h
 |x::xs,k,h=>by
  by_cases e:k=x
  ·rw[e];exact vI x
  ·exact sC xs k ((aF.mp h).resolve_left e)
end
end
theorem gD.inj{h:dN}:∀ {k k':TK} {v:dB},gD h k v->gD h k' v->k=k':=fun i=>i.rec (motive_1:=fun k v _=>∀ k',gD h k' v->k=k') (motive_2:=fun k v _=>∀ k',gP h k' v->k=k')
  (λk' g=>by cases g;rfl) (λ_ _ k' g=>by cases g;rfl)
  (λe l j m ih k' g=>by
   cases g with
   |tup c n d f=>
    rw[e]at c;cases c;rw[j]at d;cases d;rw[ih _ f])
  (λk' g=>by cases g;rfl) (λ_ _ a b k' g=>by cases g with|cons r' t'=>rw[a _ r',b _ t']) _
theorem gD.keeps{h h':dN}{d:dE}{o:Obj}{es ep}(ho:h.get? d=some o)(hd:o.data = .dict es ep)(hs:Heap.SameBut d h h'):∀ {k:TK} {v:dB},gD h k v->gD h' k v:=fun f=>f.rec (motive_1:=fun k v _=>gD h' k v) (motive_2:=fun k v _=>gP h' k v) .non .int
  (λ{a} _ _ _ _ e g c _ ih=>.tup ((hs.2 a (λz=>by subst z;rw[e]at ho;cases ho;rw[c]at hd;cases hd)).trans e) g c ih) .nil (λ_ _ a b=>.cons a b)
theorem gP.at{h:dN}:∀{ks:List TK} {vs:List dB} (j:Nat) (h1:j<ks.length) (h2:j<vs.length),gP h ks vs->gD h ks[j] vs[j]
 |_::_,_::_,0,_,_,.cons r _=>r
 |_::ks,_::vs,j+1,h1,h2,.cons _ t=>gP.at j (by simpa using h1) (by simpa using h2) t
theorem Au{xs ys:List TK}(b:xs.length=ys.length):((af (min xs.length ys.length)).all λj=>decide (xs[j]?=ys[j]?))=decide (xs=ys):=by
 by_cases h:xs=ys
 ·subst h;simp
 ·rw[ai h,List.all_eq_false];have:∃j,xs[j]? ≠ ys[j]?:=Classical.byContradiction λz=>h (b5 λj=>Classical.byContradiction λq=>z ⟨j,q⟩);obtain⟨j,a⟩:=this;refine⟨j,?_,by simpa using a⟩;rw[aB,b,Nat.min_self];apply Classical.byContradiction;intro c;exact a (by rw[b6 (by lia),b6 (by lia)])
theorem GV:∀(n:Nat) {k k':TK} {A:dG} {s:dD} {u v:dB},k.dep<=n->A.units+n<cLine->gD s.heap k u->gD s.heap k' v->SeqAt.EqAt A s u v (decide (k=k')):=by
 intro n
 induction n with
 |zero=>
  intro k k' A s u v D S r g;cases r with
  |tup _ _ _ _=>simp[TK.dep]at D
  |non=>
   cases g with
   |non=>simpa using SeqAt.EqAt.same (A:=A) (s:=s) Value.none
   |int i t=>simpa[uD]using jH (A:=A) (s:=s) (y:=.non) (x:=.int i) O ⟨t,O⟩ O O
   |tup e c d t=>simpa using(fh (A:=A) (s:=s) (b:=J) (v:=.non) (u:=.none) ⟨_,e,c,_,d⟩ O O (by lia)).2.1
  |int i t=>
   cases g with
   |non=>simpa[uD]using jH (A:=A) (s:=s) (y:=.int i) (x:=.non) ⟨t,O⟩ O O O
   |int j G=>
    have:=jH (A:=A) (s:=s) (y:=.int i) (x:=.int j) ⟨t,O⟩ ⟨G,O⟩ O O;have e:uD (.int i) (.int j)=decide (TK.int i=TK.int j):=by
     by_cases h:i=j
     ·subst h;simp[uD]
     ·rw[ai (λz=>h (by injection z))];simp[uD,h]
    rw[e]at this;exact this
   |tup e c d q=>simpa using(fh (A:=A) (s:=s) (b:=J) (v:=.int i) (u:=.int i t) ⟨_,e,c,_,d⟩ ⟨t,O⟩ O (by lia)).2.1
 |succ n ih=>
  intro k k' A s u v D S r g;cases r with
  |non=>
   cases g with
   |non=>simpa using SeqAt.EqAt.same (A:=A) (s:=s) Value.none
   |int i t=>simpa[uD]using jH (A:=A) (s:=s) (y:=.non) (x:=.int i) O ⟨t,O⟩ O O
   |tup e c d t=>simpa using(fh (A:=A) (s:=s) (b:=J) (v:=.non) (u:=.none) ⟨_,e,c,_,d⟩ O O (by lia)).2.1
  |int i t=>
   cases g with
   |non=>simpa[uD]using jH (A:=A) (s:=s) (y:=.int i) (x:=.non) ⟨t,O⟩ O O O
   |int j G=>
    have:=jH (A:=A) (s:=s) (y:=.int i) (x:=.int j) ⟨t,O⟩ ⟨G,O⟩ O O;have e:uD (.int i) (.int j)=decide (TK.int i=TK.int j):=by
     by_cases h:i=j
     ·subst h;simp[uD]
     ·rw[ai (λz=>h (by injection z))];simp[uD,h]
    rw[e]at this;exact this
   |tup e c d q=>simpa using(fh (A:=A) (s:=s) (b:=J) (v:=.int i) (u:=.int i t) ⟨_,e,c,_,d⟩ ⟨t,O⟩ O (by lia)).2.1
  | @tup a o f m xs B l w H=>
   cases g with
   |non=>simpa using(fh (A:=A) (s:=s) (b:=J) (v:=.non) (u:=.none) ⟨_,B,l,_,w⟩ O O (by lia)).1
   |int i t=>simpa using(fh (A:=A) (s:=s) (b:=J) (v:=.int i) (u:=.int i t) ⟨_,B,l,_,w⟩ ⟨t,O⟩ O (by lia)).1
   | @tup a2 T items2 m2 ys ao au N C=>
    by_cases P:a=a2
    ·subst P;have:TK.tup xs=TK.tup ys:=gD.inj (.tup B l w H) (.tup ao au N C);rw[ah this];exact .same _
    ·refine .of_refs P ?_;have am:=H.split;have K:=C.split;have I:=SeqAt.RcAt.tuples (A:=A) (s:=s) (e:=fun j=>decide (xs[j]? = ys[j]?)) ⟨o,B,l,m,w⟩ ⟨T,ao,au,m2,N⟩ (by lia) (fun j h1 h2=>by
      have F:j<xs.length:=by rw[am];simpa using h1
      have L:j<ys.length:=by rw[K];simpa using h2
      rw[TK.dep]at D;have V:=TK.dep_mem (bU F);have q:=ih (k:=xs[j]) (k':=ys[j]) (A:=A.in1) (s:=s) (by lia) (by show A.units+1+n<cLine;lia) (H.at j F (by simpa using h1)) (C.at j L (by simpa using h2));have e:decide (xs[j]?=ys[j]?)=decide (xs[j]=ys[j]):=by
       rw[gG1 F,gG1 L];simp
      rw[e];simpa using q)
     have U:f.size=xs.length:=by rw[am];simp
     have R:items2.size=ys.length:=by rw[K];simp
     rw[U,R]at I;have E:((af (min xs.length ys.length)).all (λj=>decide (xs[j]?=ys[j]?))&&xs.length == ys.length)=decide (TK.tup xs=TK.tup ys):=by
      by_cases p:xs.length=ys.length
      ·rw[Au p,p,beq_self_eq_true,bO];by_cases h:xs=ys
       ·subst h;simp
       ·rw[ai h,ai (λz=>h (by injection z))]
      ·have Q:(xs.length == ys.length)=J:=by simpa using p
       rw[Q,Bool.and_false,ai (λz=>p (by injection z with z;rw[z]))]
     rw[E]at I;exact I
theorem yC{prog:dF}{w:dH}:∀(n:Nat) {k:TK} {A:dG} {E:dB->dD->Prop} {s:dD} {v:dB} {Q:Bool->dD->Prop},k.dep<=n->gD s.heap k v->Q M s->dM (model prog w) A (eqIsQuiet n v) Q E s:=by
 intro n
 induction n with
 |zero=>
  intro k A E s v Q c r h;cases r with
  |non=>rw[eqIsQuiet_byValue 0 O];exact wP1 h
  |int i t=>rw[eqIsQuiet_byValue 0 O];exact wP1 h
  |tup _ _ _ _=>simp[TK.dep]at c
 |succ n ih=>
  intro k A E s v Q c r h;cases r with
  |non=>rw[eqIsQuiet_byValue _ O];exact wP1 h
  |int i t=>rw[eqIsQuiet_byValue _ O];exact wP1 h
  | @tup a o b m xs g u y x=>
   have f:s.TypeIs (.ref a) "tuple":=⟨o,g,u⟩;rw[TK.dep]at c;unfold eqIsQuiet;refine wB1 (wpAny_specialOf f F.slot_tuple_eq.lookup ?_);show dM _ _ (isInstance (.ref a) (.type "tuple") >>= _) _ _ s;refine wB1 (wpAny_isInstance f isSubtype_tuple_tuple ?_);simp only[b7,bF1,if_false];refine wB1 (wpAny_seqItems g y ?_);refine wB1 ?_;show dM _ _ (forIn b _ _) _ _ s;rw[<- Array.forIn_toList];refine wpAny_forIn_list _ (λrest r s'=>r.1=Y/\s'=s /\ ∃ks,gP s.heap ks rest/\TK.depAll ks<=n) _ ?_ ?_ _ _ ⟨O,O,xs,x,by lia⟩
   ·rintro v rest r s' ⟨e,rfl,ks,q,l⟩;cases q with
    | @cons p _ d _ j z=>
     rw[TK.depAll]at l;refine wB1 (ih (k:=p) (by lia) j ?_);simp only[b7,bF1,if_false];exact wP1 ⟨O,O,d,z,by lia⟩
   ·rintro⟨B,r2⟩ s' ⟨e,rfl,_⟩;simp only at e;subst e;exact wP1 h
noncomputable def fP(prog:dF)(w:dH):HeapKind prog w TK where
 is:=λh k a=>gD h k (.ref a)/\k.dep<=8
 hash:=TK.hash
 draws:=TK.draws
 room:=λA=>A.units+8<cLine
 inj:=λhx hy=>hx.1.inj hy.1
 keeps:=λx ho hd hs=>⟨x.1.keeps ho hd hs,x.2⟩
 pyHash:=λhu hk h=>vI _ (by have:=hk.2;omega) hk.1 h
 eqBool:=λhu hx hy h=>GV 8 hx.2 hu hx.1 hy.1 _ _ _ _ h
 quiet:=λhk h=>yC 8 hk.2 hk.1 h
noncomputable def JQ:G2:=λo v S=>match o,v with
 | .ref n,.ref b=>match S[n]?,S[b]? with
  |some (.lst xs),Z (.lst ys)=>if xs.length+ys.length<=dL then Z (.non,S.set n (.lst (xs++ys)))else Y
  |_,_=>Y
 |_,_=>Y
noncomputable def qo(n:Nat)(k:Int):Nat:=if k<0 then(k+(n:Int)).toNat else min k.toNat n
noncomputable def w6:G3:=λo i v S=>match o,i with
 | .ref n,.int k=>match S[n]? with
  |some (.lst xs)=>if-(2^63)<=k/\k<2^63/\xs.length<dL then Z (.non,S.set n (.lst (xs.take (qo xs.length k)++v::xs.drop (qo xs.length k))))else Y
  |_=>Y
 |_,_=>Y
noncomputable def xa(f:D->D->Option Bool)(x:D):List D->Option (List Bool)
 |[]=>Z []
 |y::ys=>(f y x).bind λb=>(xa f x ys).map (b :: ·)
noncomputable def zT:G2:=λo x S=>match o with
 | .ref n=>match S[n]? with
  |some (.lst ys)=>(xa (gp S eN) x ys).bind λbs=>if bs.length<2^62 then(bs.findIdx? id).map λj=>(.int (j:Nat),S)else Y
  |_=>Y
 |_=>Y
theorem vQ(f:D->D->Option Bool)(x:D):∀{ys:List D} {bs:List Bool},xa f x ys=Z bs->bs.length=ys.length /\ ∀(j:Nat) (y:D) (k:Bool),ys[j]?=Z y->bs[j]?=Z k->f y x=Z k
 |[],bs,h=>by cases h;exact⟨O,λj y k h=>by simp at h⟩
 |y::ys,bs,h=>by
  rw[xa]at h;obtain⟨b,d,h⟩:=oB1.mp h;obtain⟨g,e,h⟩:=oM1.mp h;obtain⟨c,a1⟩:=vQ f x e;subst h;refine⟨by simp[c],λj=>?_⟩;cases j with
  |zero=>intro a k h1 h2;simp at h1 h2;subst h1;subst h2;exact d
  |succ j=>intro a k h1 h2;exact a1 j a k (by simpa using h1) (by simpa using h2)
section
open PySem.MeetsSeq PySem.MeetsSeq2 PySem.MeetsSeq3 PySem.SeqRoads2
theorem sB{l:dE}{its:Array dB}{n:Nat}{x:dB}{e:Nat->Bool}{top:Int}{j:Nat}(f:j<its.size)(ht:(j:Int)<top)(c:e j=true):∀ (k i:Nat),i+k=j->(∀ m,i<=m->m<j->e m=false) ->
  Meets (Builtin.«list.index.loop» ⟨[.ref l,x,rawInt i,rawInt top],[]⟩)
   (λA R s=>s.heap.get? l=Z {cls:=.type "list",data:=.seq its n}/\(∀m (h:m<its.size),SeqAt.EqAt A.in1 s its[m] x (e m))/\R (.ok (.ret (.int j s.toks))) {s with toks:=s.toks+1})
 |0,i,hk,hno,prog,w,A,R,⟨hp,g,d,tk,os⟩,⟨hl,he,h⟩=>by
  have o:i=j:=by lia
  subst o
  wp_walk using AutoSeq1.wpAny_loadPart' hl
  rw[show(if(i:Int)<top then its[((i:Nat):Int).toNat]? else Y)=Z its[i] by simp[ht,f]];refine wB1 (he i f prog w _ _ ?_);rw[c]
  wp_walk
  exact h
 |k+1,i,hk,hno,prog,w,A,R,⟨hp,g,d,tk,os⟩,⟨hl,he,h⟩=>by
  have h1:i<its.size:=by lia
  have h2:(i:Int)<top:=by lia
  wp_walk using AutoSeq1.wpAny_loadPart' hl
  rw[show(if(i:Int)<top then its[((i:Nat):Int).toNat]? else Y)=Z its[i] by simp[h1,h2]];refine wB1 (he i h1 prog w _ _ ?_);rw[hno i (nR1 i) (by lia)]
  wp_walk
  rw[show((i:Int)+1)=((i+1:Nat):Int) by push_cast;rfl];have z:=sB (l:=l) (n:=n) (x:=x) f ht c k (i+1) (by lia) (λm a b=>hno m (by lia) b) prog w A R _ ⟨hl,he,h⟩;exact⟨plainId_quiet plain_index_loop _,wD1 entry_index_loop (by rw[Around.under_plainId plain_index_loop _];exact z)⟩
theorem zL{l:dE}{its:Array dB}{n:Nat}{x:dB}{e:Nat->Bool}{j:Nat}(k:j<its.size)(ht:(j:Int)<2^63-1)(a:e j=true)(c:∀ m,m<j->e m=false):
  Meets (Builtin.«list.index» ⟨[.ref l,x],[]⟩)
   (λA R s=>s.heap.get? l=Z {cls:=.type "list",data:=.seq its n}/\(∀m (h:m<its.size),SeqAt.EqAt A.in1 s its[m] x (e m))/\R (.ok (.ret (.int j s.toks))) {s with toks:=s.toks+1}):=by
 intro prog w A R ⟨q,g,d,tk,p⟩ ⟨f,o,h⟩
 wp_walk using AutoSeq1.wpAny_loadPart' f
 rw[show((λi:Int=>if i<0 then max 0 (i+(its.size:Int))else i) ((Y:Option Int).getD 0))=((0:Nat):Int) by simp,show((λi:Int=>if i<0 then max 0 (i+(its.size:Int))else i) ((Y:Option Int).getD (2^63-1)))=2^63-1 by simp];have z:=sB (l:=l) (n:=n) (x:=x) k ht a j 0 (by lia) (λm _ b=>c m b) prog w A R _ ⟨f,o,h⟩;exact⟨plainId_quiet plain_index_loop _,wD1 entry_index_loop (by rw[Around.under_plainId plain_index_loop _];exact z)⟩
end
section
variable{X:Cx}
theorem Ie{K:Fg1}{H:Hp}{Q:VK}{f:G3}{xs:List V}(h:rN K (b3 f) xs H Q):∃x y z mu S d e g r b,xs=[x,y,z]/\eJ K H mu d x/\eJ K H mu e y/\eJ K H mu g z/\Sim K H mu S/\f d e g S=Z (r,b)/\n9 K mu H r b Q:=by
 obtain⟨mu,S,ds,r,b,j,i,a,hc⟩:=h;cases j with
 |nil=>cases a
 |cons q t=>cases t with
  |nil=>cases a
  |cons k t=>cases t with
   |nil=>cases a
   |cons c t=>cases t with
    |nil=>exact⟨_,_,_,mu,S,_,_,_,r,b,O,q,k,c,i,a,hc⟩
    |cons l t=>cases a
theorem FB(hu:X.A.units+64<cLine):C2 X "list.index" (λx xs H Q=>rN X.K (b2 zT) (x::xs) H Q):=by
 intro ag s σ H x xs v us Q I D E h;obtain⟨W,y,mu,S,d,e,r',S',P,N,r2,o,a,hc⟩:=yx h;cases P;unfold zT at a;split at a
 ·rename_i n;split at a
  ·rename_i ys am;obtain⟨bs,au,a⟩:=oB1.mp a;split at a
   ·rename_i p;obtain⟨j,q,a⟩:=oM1.mp a;cases a;cases N with
    |ref C=>
     obtain⟨vs,L,t⟩:=o.lst am C;cases D;obtain⟨u,rfl,T⟩:=E.one;obtain⟨z,b,K,c,wq,e⟩:=I.lstM L;obtain⟨V,f⟩:=vQ _ _ au;have l2:=t.length;have aq:=c.length;rw[b8]at q;obtain⟨B,l,g⟩:=q;have k:∀m (a:m<b.toArray.size),SeqAt.EqAt X.A.in1 s b.toArray[m] u (bs[m]?.getD J):=λm a=>by
      have m1:m<b.length:=by simpa using a
      obtain⟨ao,U,R⟩:=t.getV (i:=m) (v:=vs[m]'(by lia)) (gG1 (by lia));obtain⟨w',r,G⟩:=c.get (i:=m) (x:=vs[m]'(by lia)) (gG1 (by lia));have m2:m<bs.length:=by lia
      have w:b.toArray[m]=w':=by
       have:=gG1 m1;rw[this]at r;simpa using r
      rw[w,gG1 m2];exact(ny I o eN (A:=X.A.in1) (by show X.A.units+1+60<cLine;lia) R r2 G T (f m ao bs[m] U (gG1 m2))).1
     refine call_meets F.slot_list_index ⟨_,e,O⟩ F.entry_list_index (F.args_list_index_2 _ _)
      (zL (n:=K) (e:=λm=>bs[m]?.getD J) (j:=j) (by simp;lia) (by lia) ?_ ?_) ⟨e,k,?_⟩
     ·simp only[gG1 B,b9];simpa using l
     ·intro m a;have m2:m<bs.length:=by lia
      have:=g m a;simp only[gG1 m2,b9];simpa using this
     ·exact⟨.int j,H,I.tok _,⟨_,O⟩,hc.now (.int _) o⟩
   ·cases a
  ·cases a
 ·cases a
theorem CH:C2 X "list.insert" (λx xs H Q=>rN X.K (b3 w6) (x::xs) H Q):=by
 intro ag s σ H x xs v ao Q I o p h;obtain⟨E,y,z,mu,S,d,e,g,L,N,D,B,r2,w,m,b,hc⟩:=Ie h;cases D;unfold w6 at b;split at b
 ·rename_i n k;split at b
  ·rename_i ys r;split at b
   ·rename_i j;cases b;cases B with
    |ref i=>
     cases r2;obtain⟨vs,f,t⟩:=m.lst r i;cases o;obtain⟨G,l,rfl,C,q⟩:=p.two;obtain⟨tk,rfl⟩:=C;obtain⟨au,a,A,c,K,e⟩:=I.lstM f;have P:=t.length;have am:=c.length;refine call_meets F.slot_list_insert ⟨_,e,O⟩ F.entry_list_insert (F.args_list_insert_3 _ _ _)
      (AutoSeq1.list_insert_list_int_val_1 _ a.toArray A k tk l (by rw[fitsIndex_both j.1 j.2.1];exact aK) (by rw[sT1];omega)) ⟨e,?_⟩
     have x:=Ext.put (u:=.lst (vs.take (qo ys.length k)++z::vs.drop (qo ys.length k))) f trivial (gM1 i);refine⟨.non,_,I.lset (its':=a.take (qo ys.length k)++l::a.drop (qo ys.length k)) f e ?_ ((c.take _).append (.cons q (c.drop _))) ?_,O,hc _ _ mu x .non (m.putL ((t.take _).append (.cons w (t.drop _))) i f)⟩
     ·rw[show ys.length=a.length by omega];simp[qo];exact ca (by simp)
     ·simp;omega
   ·cases b
  ·cases b
 ·cases b
end
mutual
noncomputable def kD:D->Option TK
 | .non=>Z .non
 | .int i=>Z (.int i)
 | .tup xs=>(GD xs).map .tup
 |_=>Y
noncomputable def GD:List D->Option (List TK)
 |[]=>Z []
 |x::xs=>(kD x).bind λk=>(GD xs).map (k :: ·)
end
noncomputable def keyT:D->Option TK
 | .tup xs=>(GD xs).bind λks=>if(TK.tup ks).dep<=8 then Z (.tup ks)else Y
 |_=>Y
mutual
theorem GE:∀{d:D} {k:TK},kD d=Z k->tkD k=d
 | .non,k,h=>by cases h;rfl
 | .int i,k,h=>by cases h;rfl
 | .tup xs,k,h=>by
  rw[kD]at h;obtain⟨ks,e,h⟩:=oM1.mp h;subst h;rw[tkD,ut e]
 | .bl _,k,h=>by simp[kD]at h
 | .str _,k,h=>by simp[kD]at h
 | .rol _,k,h=>by simp[kD]at h
 | .fn _,k,h=>by simp[kD]at h
 | .ref _,k,h=>by simp[kD]at h
theorem ut:∀{ds:List D} {ks:List TK},GD ds=Z ks->hG ks=ds
 |[],ks,h=>by cases h;rfl
 |x::xs,ks,h=>by
  rw[GD]at h;obtain⟨k,b,h⟩:=oB1.mp h;obtain⟨t,a,h⟩:=oM1.mp h;subst h;rw[hG,GE b,ut a]
end
theorem vB{d:D}{k:TK}(h:keyT d=Z k):tkD k=d/\k.dep<=8 /\ ∃xs,k = .tup xs:=by
 cases d with
 |tup xs=>
  rw[keyT]at h;obtain⟨ks,e,h⟩:=oB1.mp h;split at h
  ·rename_i a;cases h;exact⟨by rw[tkD,ut e],a,ks,O⟩
  ·cases h
 |_=>cases h
section
variable{X:Cx}{ag:List (dE×Obj)}{σ:L2.St}{H:Hp}{s:dD}{mu:List dE}
mutual
theorem uW(I:Inv X ag σ H s):∀(k:TK) {v:V} {u:dB},eJ X.K H mu (tkD k) v->d7 v u->gD s.heap k u
 | .non,v,u,r,q=>by
  rw[tkD]at r;cases r;cases q;exact .non
 | .int i,v,u,r,q=>by
  rw[tkD]at r;cases r;obtain⟨t,rfl⟩:=q;exact .int i t
 | .tup xs,v,u,r,q=>by
  rw[tkD]at r;cases r with
  |tup h t=>
   cases q;obtain⟨b,e,⟨o,d,a,n,c⟩,_⟩:=I.tuple h;exact .tup d a c (by simpa using yc I xs t e)
theorem yc(I:Inv X ag σ H s):∀(ks:List TK) {vs:List V} {a:List dB},d0 X.K H mu (hG ks) vs->ei vs a->gP s.heap ks a
 |[],vs,a,r,q=>by rw[hG]at r;cases r;cases q;exact .nil
 |k::ks,vs,a,r,q=>by
  rw[hG]at r;cases r with
  |cons r t=>cases q with
   |cons q p=>exact .cons (uW I k r q) (yc I ks t p)
end
theorem ue{α β γ δ:Type}{F:α->β->Prop}{G:γ->δ->Prop}{f:α->γ}{g:β->δ}:∀{l₁:List α} {l₂:List β},Paired F l₁ l₂->(∀a b,F a b->G (f a) (g b))->Paired G (l₁.map f) (l₂.map g):=by
 intro a b h g
 induction h with
 |nil=>exact .nil
 |cons r t ih=>exact .cons (g _ _ r) ih
theorem uf{α β:Type}{F:α->β->Prop}:∀{l₁ f:List α} {l₂ e:List β},Paired F l₁ l₂->Paired F f e->Paired F (l₁++f) (l₂++e):=by
 intro a b c d h g
 induction h with
 |nil=>exact g
 |cons r t ih=>exact .cons r ih
theorem KT.length{K:Fg1}:∀{ks:List (TK×D)} {ws:List (TK×dE×dB)},KT K H mu ks ws->ks.length=ws.length:=λh=>Paired.length h
theorem KT.mem{K:Fg1}:∀{ks:List (TK×D)} {ws:List (TK×dE×dB)},KT K H mu ks ws -> ∀x∈ws,x.1.dep<=8/\eJ K H mu (tkD x.1) (.ref x.2.1):=by
 intro ks ws a x h
 induction a with
 |nil=>cases h
 |cons r t ih=>
  rcases aF.mp h with e|e
  ·subst e;rw[<- r.1];exact⟨r.2.1,r.2.2.1⟩
  ·exact ih e
theorem KT.look{K:Fg1}{k:TK}:∀ {ks:List (TK×D)} {ws:List (TK×dE×dB)},KT K H mu ks ws ->
  (∀d,d3 ks k=Z d -> ∃p v,atKey ws k=Z p/\d7 v p.2/\eJ K H mu d v)/\(atKey ws k).isSome=(d3 ks k).isSome:=by
 intro ks ws h
 induction h with
 |nil=>exact⟨λd h=>by simp[d3]at h,O⟩
 | @cons p j ks ws r t ih=>
  obtain⟨a,f⟩:=p;obtain⟨l,a2,e⟩:=j;obtain⟨z,d,q,v,c,r⟩:=r;dsimp only at z q c r;subst z;obtain⟨h1,h2⟩:=ih;by_cases b:a=k
  ·subst b;refine⟨λd h=>?_,by simp[atKey,d3]⟩;have:f=d:=by simpa[d3]using h
   subst this;exact⟨(a2,e),v,by simp[atKey],c,r⟩
  ·have i:d3 ((a,f)::ks) k=d3 ks k:=by simp[d3,bc,b]
   have g:atKey ((a,a2,e)::ws) k=atKey ws k:=by simp[atKey,bc,b]
   rw[i,g];exact⟨h1,h2⟩
theorem KT.put{K:Fg1}{k:TK}{d:D}{v:V}{a:dE}{u:dB}(hk:k.dep<=8)(j:eJ K H mu (tkD k) (.ref a))(g:d7 v u)(q:eJ K H mu d v){ks:List (TK×D)}{ws:List (TK×dE×dB)}(h:KT K H mu ks ws):KT K H mu (e9 ks k d) (storedH ws k a u):=by
 unfold e9 storedH;have e:(ks.any λp=>decide (p.1=k))=(atKey ws k).isSome:=by
  rw[h.look.2];unfold d3;rw[bg,bS,List.find?_isSome,bT]
 rw[e];split
 ·clear e;refine ue h λp w ⟨z,f,i,l,c,m⟩=>?_;unfold putAt;by_cases b:p.1=k
  ·rw[ak b,ak (by rw[<- z];exact b)];exact⟨z,f,i,v,g,q⟩
  ·rw[aj b,aj (by rw[<- z];exact b)];exact⟨z,f,i,l,c,m⟩
 ·exact uf h (.cons ⟨O,hk,j,v,g,q⟩ .nil)
theorem sQ(I:Inv X ag σ H s){a:dE}{xs:List (TK×dE×dB)}{kvs:List (TK×D)}(e:H a=Z (.ext (gr a xs)))(h:KT X.K H mu kvs xs):(a == sysModules)=J/\s.heap.DictOfH (fP X.prog X.w) a xs:=by
 obtain⟨⟨h1,h2,o,es,ep,g,c,f,d⟩,_⟩:=(show eO X.prog X.w H s.heap a (.ext (gr a xs))from I.hok a _ e);exact⟨h1,o,es,ep,g,c,f,d,λx b=>⟨uW I _ (h.mem x b).2 O,(h.mem x b).1⟩,h2⟩
theorem qw{h:dN}{a:dE}{xs:List (TK×dE×dB)}(hd:(a == sysModules)=J)(hm:h.DictOfH (fP X.prog X.w) a xs):eO X.prog X.w H h a (.ext (gr a xs)):=by
 obtain⟨o,es,ep,d,e,l,k,m,j⟩:=hm;refine⟨⟨hd,j,o,es,ep,d,e,l,k⟩,⟨o,d⟩,λp n ⟨a1,a2,o',b,c,b3,f,i,g⟩ st=>⟨a1,a2,o',b,c,st _ b3,f,i,g⟩⟩
end
noncomputable def i5:G2:=λd e S=>match e with
 | .ref n=>match S[n]? with
  |some (.dcT kvs)=>(keyT d).map λk=>(.bl (d3 kvs k).isSome,S)
  |_=>uA d e S
 |_=>uA d e S
noncomputable def fG:G2:=λd e S=>match e with
 | .ref n=>match S[n]? with
  |some (.dcT kvs)=>(keyT d).map λk=>(.bl (!(d3 kvs k).isSome),S)
  |_=>iE d e S
 |_=>iE d e S
noncomputable def dW:G2:=λd e S=>match d with
 | .ref n=>match S[n]? with
  |some (.dcT kvs)=>(keyT e).bind λk=>(d3 kvs k).map λx=>(x,S)
  |some (.dcF kvs)=>(keyT e).bind λk=>(d3 kvs k).map λx=>(x,S)
  |_=>lh d e S
 |_=>lh d e S
noncomputable def i4:G3:=λo i v S=>match o with
 | .ref n=>match S[n]? with
  |some (.dcT kvs)=>(keyT i).bind λk=>if kvs.length<dL then Z (.non,S.set n (.dcT (e9 kvs k v)))else Y
  |some (.dct [])=>match keyT i with
   |some k=>Z (.non,S.set n (.dcT [(k,v)]))
   |none=>lK o i v S
  |_=>lK o i v S
 |_=>lK o i v S
section
variable{X:Cx}
theorem lJ{κ:Type}[DecidableEq κ](kvs:List (κ×D))(k:κ)(d:D):(e9 kvs k d).length<=kvs.length+1:=by
 unfold e9;split
 ·rw[lM1];lia
 ·simp
theorem nz{h:dN}{a:dE}(dd:h.DictOf (eW X.prog X.w) a []):h.DictOfH (fP X.prog X.w) a []:=by
 obtain⟨o,es,ep,h1,h2,c,_,b,_⟩:=dd;have e:es.toList=[]:=by
  generalize es.toList=l at b;cases b;rfl
 exact⟨o,es,ep,h1,h2,c,e,(λx d=>by simp at d),bq⟩
theorem ix{A:dG}(a:A.units+64<cLine):(fP X.prog X.w).room A.in1:=by
 show A.units+1+8<cLine;lia
theorem iZ{ag:List (dE×Obj)}{σ:L2.St}{H:Hp}{s:dD}{mu:List dE}(I:Inv X ag σ H s){d:D}{v:V}{u:dB}{k:TK}(r:eJ X.K H mu d v)(q:d7 v u)(h:keyT d=some k):
  ∃a,u = .ref a/\v = .ref a/\eJ X.K H mu (tkD k) (.ref a)/\k.dep<=8/\(fP X.prog X.w).is s.heap k a:=by
 obtain⟨e,b,xs,ex⟩:=vB h;subst e;have is:=uW I k r q;subst ex;cases id is with
 | @tup a _ _ _ _ _ _ _ _=>
  rw[tkD]at r;cases r with
  |tup h1 h2=>
   cases q;exact⟨a,O,O,by rw[tkD];exact .tup h1 h2,b,is,b⟩
theorem oE(l:X.A.units+64<cLine):gn X (compareOp .In) (r2 X.K (b2 i5)):=by
 intro ag s σ H x y u w Q I m i h;obtain⟨mu,S,d,e,r,j,o,c,f,b,hc⟩:=ou h;have back:uA d e S=Z (r,j)->dM (model X.prog X.w) X.A (compareOp .In u w) (EP X ag σ Q) X.xe s:=λb=>Gk l ag s σ H x y u w Q I m i ⟨mu,S,[d,e],r,j,.cons o (.cons c .nil),f,b,hc⟩;unfold i5 at b;split at b
 ·rename_i n;split at b
  ·rename_i kvs t;obtain⟨k,z,b⟩:=oM1.mp b;cases b;cases c with
   |ref p=>
    cases i;obtain⟨xs,A,g,_⟩:=f.dcT t p;obtain⟨v,q⟩:=sQ I A g;obtain⟨a,rfl,rfl,_,_,hi⟩:=iZ I o m z;refine wpAny_in_heap (ix l) hi v q ?_;exact⟨.bl (atKey xs k).isSome,H,I.tok _,O,by rw[g.look.2];exact hc.now (.bl _) f⟩
  ·exact back b
 ·exact back b
theorem mW(l:X.A.units+64<cLine):gn X (compareOp .NotIn) (r2 X.K (b2 fG)):=by
 intro ag s σ H x y u w Q I m i h;obtain⟨mu,S,d,e,r,j,o,c,f,b,hc⟩:=ou h;have back:iE d e S=Z (r,j)->dM (model X.prog X.w) X.A (compareOp .NotIn u w) (EP X ag σ Q) X.xe s:=λb=>zb l ag s σ H x y u w Q I m i ⟨mu,S,[d,e],r,j,.cons o (.cons c .nil),f,b,hc⟩;unfold fG at b;split at b
 ·rename_i n;split at b
  ·rename_i kvs t;obtain⟨k,z,b⟩:=oM1.mp b;cases b;cases c with
   |ref p=>
    cases i;obtain⟨xs,A,g,_⟩:=f.dcT t p;obtain⟨v,q⟩:=sQ I A g;obtain⟨a,rfl,rfl,_,_,hi⟩:=iZ I o m z;refine wpAny_notIn_heap (ix l) hi v q ?_;exact⟨.bl (!(atKey xs k).isSome),H,I.tok _,O,by rw[g.look.2];exact hc.now (.bl _) f⟩
  ·exact back b
 ·exact back b
theorem E2{ag:List (dE×Obj)}{σ:L2.St}{H:Hp}{s:dD}{mu:List dE}(I:Inv X ag σ H s){a:dE}{xs:List (TK×dE×dB)}{kvs:List (TK×D)}(e:∃o u,H a=Z (.frz o u)/\wh a xs o)(h:KT X.K H mu kvs xs):(a == sysModules)=J/\s.heap.DictOfH (fP X.prog X.w) a xs:=by
 obtain⟨o,u,e,h1,h2,c,es,ep,f,d⟩:=e;obtain⟨g,_⟩:=(show eO X.prog X.w H s.heap a (.frz o u)from I.hok a _ e);exact⟨h1,o,es,ep,g,c,f,d,λx b=>⟨uW I _ (h.mem x b).2 O,(h.mem x b).1⟩,h2⟩
theorem qP(G:X.A.units+64<cLine):C3 X (r2 X.K (b2 dW)):=by
 intro value c ag s σ H x y v u Q I w am h q;obtain⟨mu,S,d,e,r,E,D,m,t,f,hc⟩:=ou h;have back:lh d e S=Z (r,E)->dM (model X.prog X.w) X.A (subscriptTail value c v u) (EP X ag σ Q) X.xe s:=λf=>Fw G value c ag s σ H x y v u Q I w am ⟨mu,S,[d,e],r,E,.cons D (.cons m .nil),t,f,hc⟩ q;have i:∀kvs a xs,v = .ref a->KT X.K H mu kvs xs->s.heap.DictOfH (fP X.prog X.w) a xs->((keyT e).bind λk=>(d3 kvs k).map λx=>(x,S))=Z (r,E)->dM (model X.prog X.w) X.A (subscriptTail value c v u) (EP X ag σ Q) X.xe s:=λkvs a xs P j K f=>by
  obtain⟨k,L,f⟩:=oB1.mp f;obtain⟨z,R,f⟩:=oM1.mp f;cases f;subst P;obtain⟨b,rfl,rfl,_,_,hi⟩:=iZ I m am L;obtain⟨p,ao,ep,N,au⟩:=j.look.1 _ R;have F:=K.typeIs;unfold subscriptTail;refine wB1 ?_;rw[getitemInPython_of_ne F.not_modules];refine wB1 (wpAny_specialOf F PySem.F.slot_dict_getitem.lookup ?_);have l:dM (model X.prog X.w) X.A (subscripted c J (.ref a) (.ref b)) (λr g=>dM (model X.prog X.w) X.A (letTemporaryGo value (.ref a) r >>= λ_=>pure r) (EP X ag σ Q) X.xe g) X.xe s:=by
   rw[q];exact wpAny_operating (wpAny_mono (wpAny_getItem_heap (ix G) hi K ep (show EP X ag σ Q p.2 _ from⟨ao,H,I.tok _,N,hc.now au t⟩)) (λr g o=>wB1 (wpAny_letTemporaryGo (wP1 o))) λ_ _ x=>x)
  first
   |exact wP1 (wB1 l)
   |exact wB1 l
   |exact l
 unfold dW at f;split at f
 ·rename_i n;split at f
  ·rename_i kvs B;cases D with
   | @ref _ a C=>
    cases w;obtain⟨xs,A,j,_⟩:=t.dcT B C;exact i kvs a xs O j (sQ I A j).2 f
  ·rename_i kvs B;cases D with
   | @ref _ a C=>
    cases w;obtain⟨xs,A,j,_⟩:=(show jJ X.K H mu a (.dcF kvs)from t.ob n _ a B C);exact i kvs a xs O j (E2 I A j).2 f
  ·exact back f
 ·exact back f
theorem pU(F:X.A.units+64<cLine):uN X (rU X.K (b3 i4)):=by
 intro ag s σ H o i v R N u Q I ao K r h;obtain⟨mu,S,ds,d,T,aq,m,a,hc⟩:=id h;cases aq with
 |cons am wq=>cases wq with
  |cons C V=>cases V with
   |cons w W=>
    cases W;rename_i au P y;dsimp only[b3]at a;have back:lK au P y S=Z (d,T)->dM (model X.prog X.w) X.A (setItem R N u) (λ_ s'=>∃H',Inv X ag σ H' s'/\Q H') X.xe s:=λa=>Dx F ag s σ H o i v R N u Q I ao K r ⟨mu,S,[au,P,y],d,T,.cons am (.cons C (.cons w .nil)),m,a,hc⟩;unfold i4 at a;split at a
    ·rename_i n;split at a
     ·rename_i kvs D;obtain⟨k,A,a⟩:=oB1.mp a;split at a
      ·rename_i hl;cases a;cases am with
       | @ref _ l f=>
        cases ao;obtain⟨xs,t,j,U⟩:=m.dcT D f;obtain⟨G,L⟩:=sQ I t j;obtain⟨b,rfl,rfl,rk,x,hi⟩:=iZ I C K A;refine wpAny_setItem_heap (hsz:=U) (ix F) hi L λh' e c=>?_;have g:∃q,h'.get? _=Z q:=let ⟨q,_,_,g,_⟩:=e;⟨q,g⟩
        have put:Ext mu mu H (upd H l (.ext (gr l (storedH xs k b u)))):=Ext.put t trivial (gM1 f);refine⟨_,kI I (by rw[t];exact True.intro) c g (qw G e),hc _ mu put (m.put f t trivial ⟨_,d4,((j.put x rk r w).ext put),?_⟩)⟩;rw[<- (j.put x rk r w).length];have:=lJ kvs k y;lia
      ·cases a
     ·rename_i D;split at a
      ·rename_i k A;cases a;cases am with
       | @ref _ l f=>
        cases ao;obtain⟨ws,p,j⟩:=m.dct D f;cases j;obtain⟨z,G,vs,B,L⟩:=vU I.hok p;cases B;obtain⟨b,rfl,rfl,rk,x,hi⟩:=iZ I C K A;have E:s.heap.DictOfH (fP X.prog X.w) _ []:=nz L;refine wpAny_setItem_heap (hsz:=bi _) (ix F) hi E λh' e c=>?_;have g:∃q,h'.get? _=Z q:=let ⟨q,_,_,g,_⟩:=e;⟨q,g⟩
        have put:Ext mu mu H (upd H l (.ext (gr l (storedH [] k b u)))):=Ext.put p trivial (gM1 f);exact⟨_,kI I (by rw[p];exact True.intro) c g (qw G e),hc _ mu put (m.put f p trivial ⟨_,d4,KT.ext put (.cons ⟨O,x,rk,v,r,w⟩ .nil),(show 1<=dL by decide)⟩)⟩
      ·exact back a
     ·exact back a
    ·exact back a
end
noncomputable def tW(S:Sto)(d:D):Option Bool:=match d with
 | .non=>Z J
 | .bl b=>Z b
 | .int i=>Z (i != 0)
 | .str y=>if y.length<=dL then Z ((y.length:Int) != 0)else Y
 | .ref n=>match S[n]? with
  |some (.dct kvs)=>Z (!kvs.isEmpty)
  |_=>(d6 S d).map λp=> !p.2.isEmpty
 |_=>(d6 S d).map λp=> !p.2.isEmpty
noncomputable def Gw (m:FE):FT:=λr S=>(m r S).bind λp=>(tW p.2 p.1).map λb=>(b,p.2)
section
variable{K:Fg1}{H:Hp}{mu:List dE}{S:Sto}
theorem pS{d:D}{v:V}{b:Bool}(r:eJ K H mu d v)(s:Sim K H mu S)(h:((d6 S d).map λp=> !p.2.isEmpty)=Z b):Cz K v H b:=by
 obtain⟨⟨k,xs⟩,e,h⟩:=oM1.mp h;obtain⟨a,vs,rfl,q,t⟩:=ev r s e;have z:(!xs.isEmpty) = !vs.isEmpty:=by cases t<;>rfl
 dsimp only at h;rw[z]at h;cases k
 ·exact .inr (.inl ⟨vs,q,h.symm⟩)
 ·exact .inl ⟨vs,q,h.symm⟩
theorem Di{d:D}{v:V}{b:Bool}(r:eJ K H mu d v)(s:Sim K H mu S)(h:tW S d=Z b):Cz K v H b:=by
 cases d with
 |non=>cases r;cases h;rfl
 |bl k=>cases r;cases h;rfl
 |int i=>cases r;cases h;rfl
 |str y=>
  rw[tW]at h;split at h
  ·rename_i c;cases r;cases h;exact⟨c,O⟩
  ·cases h
 |tup xs=>exact pS r s h
 |rol xs=>exact pS r s h
 |fn x=>cases h
 |ref n=>
  rw[tW]at h;split at h
  ·rename_i kvs g;cases h;cases r with
   |ref a=>
    obtain⟨ws,e,f⟩:=s.dct g a;refine .inr (.inr ⟨ws,e,?_⟩);cases f<;>rfl
  ·exact pS r s h
end
theorem pC{X:Cx}{x:Expr}{f:FE}(h:XE X x f)(he:∀a,isTrue x X.env a=(do let v<-a;standAt x.pos;holding [v] (truthy v)):=by intro _;rfl):XT X x (Gw f):=
 ⟨ua (yF h.h he) <| by
  rintro σ H Q ⟨r,mu,S,b,m,he,k,c,hc⟩;obtain⟨⟨n,l⟩,g,c⟩:=oB1.mp c;obtain⟨b1,e,c⟩:=oM1.mp c;cases c;exact⟨r,mu,S,_,_,he,k,g,λv H1 mu1 i j d=>⟨_,Di j d e,hc H1 mu1 i d⟩⟩⟩
mutual
noncomputable def pyD:D->Option PyData
 | .non=>Z .none
 | .bl b=>Z (.bool b)
 | .int i=>Z (.int i)
 | .str x=>Z (.str x)
 | .tup xs=>(pyDs xs).map .tuple
 | .rol _=>Y
 | .fn _=>Y
 | .ref _=>Y
noncomputable def pyDs:List D->Option (List PyData)
 |[]=>Z []
 |d::ds=>(pyD d).bind λp=>(pyDs ds).map λps=>p::ps
end
mutual
theorem mM:∀{d:D} {p:PyData},pyD d=Z p->p.hasDict=J
 | .non,p,h=>by simp only[pyD]at h;cases h;rfl
 | .bl b,p,h=>by simp only[pyD]at h;cases h;rfl
 | .int i,p,h=>by simp only[pyD]at h;cases h;rfl
 | .str x,p,h=>by simp only[pyD]at h;cases h;rfl
 | .tup xs,p,h=>by
  simp only[pyD]at h;obtain⟨ps,e,h⟩:=oM1.mp h;cases h;simp only[PyData.hasDict];exact lE e
 | .rol _,p,h=>by simp only[pyD]at h;cases h
 | .fn _,p,h=>by simp only[pyD]at h;cases h
 | .ref _,p,h=>by simp only[pyD]at h;cases h
theorem lE:∀{ds:List D} {ps:List PyData},pyDs ds=Z ps->PyData.hasDictAll ps=J
 |[],ps,h=>by simp only[pyDs]at h;cases h;rfl
 |d::ds,ps,h=>by
  simp only[pyDs]at h;obtain⟨p,b,h⟩:=oB1.mp h;obtain⟨c,a,h⟩:=oM1.mp h;cases h;simp only[PyData.hasDictAll,mM b,lE a,Bool.or_self]
end
noncomputable def nl:G1:=λd S=>match d with
 | .tup xs=>(pyDs xs).bind λps=>if(PyData.tuple ps).showable=M/\(PyData.tuple ps).shown.length<=dL/\(PyData.tuple ps).depth<=60 then Z (.str (PyData.tuple ps).shown,S)else Y
 |_=>Y
section
variable{X:Cx}{ag:List (dE×Obj)}{σ:L2.St}{H:Hp}{s:dD}{mu:List dE}
theorem yB(I:Inv X ag σ H s):∀ {d:D} {v:V} {u:dB} {p:PyData},eJ X.K H mu d v->d7 v u->pyD d=some p -> ∃ as,Reads s.heap u p as:=fun m=>m.rec (motive_1:=fun d v _=>∀ u p,d7 v u->pyD d=some p -> ∃ as,Reads s.heap u p as) (motive_2:=fun ds vs _=>∀ f ps,ei vs f->pyDs ds=some ps -> ∃ as,ReadsAll s.heap f ps as)
  (λ_ _ c h=>by simp only[pyD]at h;cases h;cases c;exact⟨[],.none⟩)
  (λb _ _ c h=>by simp only[pyD]at h;cases h;cases c;exact⟨[],.bool b⟩)
  (λi _ _ c h=>by simp only[pyD]at h;cases h;obtain⟨t,rfl⟩:=c;exact⟨[],.int i t⟩)
  (λx _ _ c h=>by simp only[pyD]at h;cases h;obtain⟨t,rfl⟩:=c;exact⟨[],.str x t⟩)
  (λq _ ih _ _ c h=>by
   simp only[pyD]at h;obtain⟨ps,e,h⟩:=oM1.mp h;cases h;cases c;obtain⟨j,z,⟨o,k,hc,n,r⟩,_⟩:=I.tuple q;obtain⟨as,w⟩:=ih _ _ z e;exact⟨as,.tuple k hc r (by simpa using w)⟩)
  (λ_ _ _ _ _ _ h=>by simp only[pyD]at h;cases h) (λ_ _ _ _ h=>by simp only[pyD]at h;cases h) (λ_ _ _ _ h=>by simp only[pyD]at h;cases h)
  (λ_ _ tv h=>by simp only[pyDs]at h;cases h;cases tv;exact⟨[],.nil⟩)
  (λ_ _ a b _ _ tv h=>by
   simp only[pyDs]at h;obtain⟨p,l,h⟩:=oB1.mp h;obtain⟨A,g,h⟩:=oM1.mp h;cases h;cases tv with
   |cons v tv=>
    obtain⟨a1,y⟩:=a _ _ v l;obtain⟨a2,r2⟩:=b _ _ tv g;exact⟨_,.cons y r2⟩) _ _
end
section
variable{X:Cx}
theorem Ao{k:Nat}(hr:fN k X.A):fj X (.builtin "repr") (rN X.K (b1 nl)):=by
 intro ag s σ H xs w Q I r h;obtain⟨x,mu,S,d,n,p,rfl,g,m,a,hc⟩:=DB h;unfold nl at a;split at a
 ·rename_i ds;obtain⟨ps,e,a⟩:=oB1.mp a;split at a
  ·rename_i j;obtain⟨h1,h2,v⟩:=j;cases a;cases r with
   |cons f rt=>
    cases rt;have c:pyD (.tup ds)=Z (.tuple ps):=by simp only[pyD,e,oP1]
    obtain⟨as,l⟩:=yB I g f c;cases g with
    |tup q t=>
     cases f;refine repr_of_reads' l h1 (PyData.noDict_hsm (mM c)) hr.gd (by have:=hr.un;lia) (λb o z=>z) (λh' u tk i=>?_) h2;exact⟨.str _,H,I.kept i,⟨u,O⟩,hc.now (.str _) m⟩
  ·cases a
 ·cases a
noncomputable def m9:List D->Option (List Int)
 |[]=>Z []
 | .int i::ds=>(m9 ds).map λis=>i::is
 |_=>Y
noncomputable def ddI(ns:List Int):List Int:=ns.foldl step_dedup []
theorem sR:∀(ns acc:List Int),acc.Nodup->(ns.foldl step_dedup acc).Nodup
 |[],acc,h=>h
 |n::ns,acc,h=>by
  rw[cb];refine sR ns _ ?_;unfold step_dedup;split
  ·exact h
  ·rename_i f;rw[bB];refine⟨h,by simp,λa d b c e=>?_⟩;simp at c;apply f;rw[bT];exact⟨a,d,by simp[e,c]⟩
theorem wU{K:Fg1}{H:Hp}{mu:List dE}:∀{ds:List D} {vs:List V} {b:List dB} {ns:List Int},d0 K H mu ds vs->ei vs b->m9 ds=Z ns->IntsAre b ns/\ns.length=ds.length:=by
 intro ds vs b ns j a h
 induction j using d0.ind generalizing b ns with
 |hn=>cases h;cases a;exact⟨.nil,O⟩
 | @hc d v ds vs r t ih=>
  cases d with
  |int i=>
   obtain⟨c,e,h⟩:=oM1.mp h;cases h;cases r;cases a with
   |cons r a=>
    obtain⟨g,f⟩:=ih a e;obtain⟨tk,rfl⟩:=r;exact⟨.cons _ _ g,by rw[lC1,lC1,f]⟩
  |_=>cases h
end
@[elab_as_elim] theorem JM {P:List dB->Prop}{us:List dB}(l:us.length=0)(f:P []):P us:=by
 cases us with
 |nil=>exact f
 |cons _ _=>cases l
@[elab_as_elim] theorem I7 {P:List dB->Prop}{us:List dB}(l:us.length=1)(f:∀a,P [a]):P us:=by
 cases us with
 |nil=>cases l
 |cons a us=>exact JM (P:=λus=>P (a::us)) (Nat.succ.inj l) (f a)
@[elab_as_elim] theorem I1 {P:List dB->Prop}{us:List dB}(l:us.length=2)(f:∀a b,P [a,b]):P us:=by
 cases us with
 |nil=>cases l
 |cons a us=>exact I7 (P:=λus=>P (a::us)) (Nat.succ.inj l) (f a)
@[elab_as_elim] theorem I0 {P:List dB->Prop}{us:List dB}(l:us.length=3)(f:∀a b c,P [a,b,c]):P us:=by
 cases us with
 |nil=>cases l
 |cons a us=>exact I1 (P:=λus=>P (a::us)) (Nat.succ.inj l) (f a)
@[elab_as_elim] theorem IZ {P:List dB->Prop}{us:List dB}(l:us.length=4)(f:∀a b c d,P [a,b,c,d]):P us:=by
 cases us with
 |nil=>cases l
 |cons a us=>exact I0 (P:=λus=>P (a::us)) (Nat.succ.inj l) (f a)
@[elab_as_elim] theorem HA {P:List dB->Prop}{us:List dB}(l:us.length=5)(f:∀a b c d e,P [a,b,c,d,e]):P us:=by
 cases us with
 |nil=>cases l
 |cons a us=>exact IZ (P:=λus=>P (a::us)) (Nat.succ.inj l) (f a)
end Mi
namespace HT
open PySem PySem.Spec PyProof.Rows
variable{prog:dF}{w:dH}{A:dG}{E:dB->dD->Prop}{s:dD}
theorem kZ{sl:dE}{t:Tok}{n:Nat}{Q:Int×Int×Nat->dD->Prop}(hs:s.heap.IsSliceOf sl .none .none (.int (-1) t))(h:Q ((n:Int)-1,-1,n) s):dM (model prog w) A (Builtin.Slice.sliceApplied (.ref sl) (pure (n:Int))) Q E s:=by
 obtain⟨d,b,c,a⟩:=id hs;unfold Builtin.Slice.sliceApplied Builtin.Slice.sliceFields;refine wB1 (wB1 (wpAny_field b a (x:=.none) O (wB1 (wpAny_field b a (x:=.none) O (wB1 (wpAny_field b a (x:=.int (-1) t) O (wP1 ?_)))))));refine wB1 (gH (.int (-1) t) ?_);show dM _ _ (if((-1:Int) == 0)=M then _ else _) _ _ s;rw[aj (by decide)];refine wB1 (gH .none (wB1 (gH .none (wB1 (wP1 ?_)))));show dM _ _ (pure ((n:Int)-1,(-1:Int),Builtin.Slice.slicePlaces ((n:Int)-1) (-1) (-1))) _ _ s;have e:Builtin.Slice.slicePlaces ((n:Int)-1) (-1) (-1)=n:=by
  unfold Builtin.Slice.slicePlaces;have h1:¬ (-1:Int)>0:=by lia
  have h2: -(-1:Int)=1:=rfl;simp only[h1,if_false,h2,Int.ediv_one];split<;>lia
 rw[e];exact wP1 h
theorem zX{α β:Type}{f g:α->Option β}:∀l:List α,(∀m,m∈l->f m=g m)->l.filterMap f=l.filterMap g:=by
 intro l
 induction l with
 |nil=>intro _;rfl
 |cons x l ih=>intro h;rw[aE,aE,h x (mS1 ..),ih λm a=>h m (mC1 _ a)]
theorem rJ(xs:Array dB):((af xs.size).filterMap λ(m:Nat)=>xs[(((xs.size:Int)-1)+(m:Int)*(-1)).toNat]?).toArray=xs.toList.reverse.toArray:=by
 congr 1
 have e:((af xs.size).filterMap λ(m:Nat)=>xs[(((xs.size:Int)-1)+(m:Int)*(-1)).toNat]?)=(af xs.size).filterMap λm=>xs.toList.reverse[m]?:=by
  apply zX;intro m a;have a:=aB.mp a;rw[List.getElem?_reverse (by rw[aJ];exact a),aT1,aJ]
  congr 1
  lia
 rw[e];have:=pick_run xs.toList.reverse.toArray 0 xs.size;rw[aU]at this;have b:((λx=>xs.toList.reverse.toArray[x]?)∘λx=>0+x)=λm=>xs.toList.reverse[m]?:=by funext m;simp
 rw[b]at this;rw[this];simp only[bZ];exact ca (by simp)
theorem kw {t sl:dE}{items:Array dB}{tk:Tok}{Q:dB->dD->Prop}(ht:IsTup s.heap t items)(hs:s.heap.IsSliceOf sl .none .none (.int (-1) tk))
  (h:Q (.ref s.heap.objs.size) {s with heap:=s.heap.push {cls:=.type "tuple",data:=.seq items.toList.reverse.toArray}})
  (hsz:items.size<=dL):dM (model prog w) A (getItem (.ref t) (.ref sl)) Q E s:=by
 have a:sizeOk (.seq items.toList.reverse.toArray):=by
  show items.toList.reverse.toArray.size<=dL;rw[sT1,cc,aJ];exact hsz
 obtain⟨f,d,e,g⟩:=id hs;have b:s.TypeIs (.ref sl) "slice":=⟨f,d,e⟩;unfold getItem
 try with_reducible refine wpAny_holding ?_
 first|refine wB1 (wP1 ?_)|skip
 refine wB1 (wpAny_sequenceKey ht.typeIs (by decide) ?_);refine wB1 (wpAny_callSpecial?_slot (name:=Str.ofString "__getitem__") ht.typeIs PyProof.Rows.slot_tuple_getitem
  (wE1 PyProof.Rows.slot_tuple_getitem ht.typeIs entry_tuple_getitem ?_ (args_tuple_getitem _ _)))
 show dM _ _ (Builtin.Tuple.tupleItemsOf (.ref t) >>= _) _ _ s;refine wB1 (tupleItemsOf_ ht ?_);refine wB1 (wpAny_typeOf b ?_);rw[ak (by decide)];refine wB1 (kZ hs ?_);have c:¬ (((items.size:Int)-1 == 0&&(-1:Int) == 1&&items.size == items.size)=M):=by
  intro q;rw[bA1,bA1]at q;exact absurd (eq_of_beq q.1.2) (by decide)
 show dM _ _ (if((items.size:Int)-1 == 0&&(-1:Int) == 1&&items.size == items.size)=M then _ else _) _ _ s;rw[aj c,rJ]
 first
  |exact wB1 (m:=Builtin.Tuple.tupleExact _) (wO1 (wP1 ⟨_,rfl,wP1 h⟩) a)
  |exact wB1 (m:=Builtin.Tuple.tupleExact _) (wO1 (wB1 (wP1 (wP1 ⟨_,rfl,wP1 h⟩))) a)
  |exact wB1 (wB1 (m:=Builtin.Tuple.tupleExact _) (wO1 (wP1 (wP1 ⟨_,rfl,wP1 h⟩)) a))
  |exact wB1 (wB1 (m:=Builtin.Tuple.tupleExact _) (wO1 (wP1 ⟨_,rfl,wP1 h⟩) a))
end HT
namespace Mi
open PySem PySem.Spec PyProof.Rows L2
section
variable{X:Cx}
theorem rg:∀{xs:List V} {a:List dB},ei xs a->ei xs.reverse a.reverse:=by
 intro xs
 induction xs with
 |nil=>intro a r;cases r;exact .nil
 |cons x xs ih=>
  intro a r;cases r with
  |cons b r2=>rw[bo,bo];exact(ih r2).append (.cons b .nil)
end
end Mi
namespace HT
open PySem PySem.Spec PyProof.Rows
section
variable{prog:dF}{w:dH}{A:dG}{R:Result->dD->Prop}{I ax L:dE}{xs:Array dB}
end
section
variable{prog:dF}{w:dH}{A:dG}{E:dB->dD->Prop}{s:dD}
end
end HT
namespace Mi
open PySem PySem.Spec PyProof.Rows L2
section
variable{X:Cx}
end
section
variable{elt tg iter tg2 iter2 tg3 iter3:Expr}{ifs ifs2 ifs3:List Expr}{scope:dR}{pos:Pos}
end
section
variable{X:Cx}
end
noncomputable def wW(a:Int):List Int->List Int
 |[]=>[a]
 |b::l=>if a<=b then a::b::l else b::wW a l
noncomputable def jQ:List Int->List Int
 |[]=>[]
 |a::l=>wW a (jQ l)
theorem lf(a:Int):∀l:List Int,(wW a l).Perm (a::l)
 |[]=>.refl _
 |b::l=>by
  rw[wW];split
  ·exact .refl _
  ·exact((lf a l).cons b).trans (.swap _ _ _)
theorem iu:∀l:List Int,(jQ l).Perm l
 |[]=>.refl _
 |a::l=>(lf a _).trans ((iu l).cons a)
theorem vG{a:Int}:∀{l:List Int},l.Pairwise (· <= ·)->(wW a l).Pairwise (· <= ·)
 |[],_=>List.pairwise_singleton _ _
 |b::l,h=>by
  rw[cf]at h;rw[wW];split
  ·rename_i c;rw [cf,cf];exact ⟨fun x d=>by
    rcases aF.mp d with z|z
    ·lia
    ·have:=h.1 x z;lia,h.1,h.2⟩
  ·rename_i c;rw[cf];refine⟨λx d=>?_,vG h.2⟩;rcases aF.mp ((lf a l).mem_iff.mp d)with z|z
   ·lia
   ·exact h.1 x z
theorem mD:∀l:List Int,(jQ l).Pairwise (· <= ·)
 |[]=>.nil
 |a::l=>vG (mD l)
theorem pX:∀{a b:List Int},a.Perm b->a.Pairwise (· <= ·)->b.Pairwise (· <= ·)->a=b
 |[],b,p,_,_=>(List.nil_perm.mp p).symm
 |x::a,[],p,_,_=>absurd p.length_eq (by simp)
 |x::a,y::b,p,h1,h2=>by
  rw[cf]at h1 h2;have e:x=y:=by
   have d:=p.mem_iff.mp (mS1 (a:=x) (l:=a));have f:=p.mem_iff.mpr (mS1 (a:=y) (l:=b));rcases aF.mp d with z|z
   ·exact z
   ·rcases aF.mp f with c|c
    ·exact c.symm
    ·have:=h2.1 x z;have:=h1.1 y c;lia
  subst e;rw[pX (List.perm_cons x |>.mp p) h1.2 h2.2]
noncomputable def GF:List D->Option (List Int)
 |[]=>Z []
 | .int i::l=>(GF l).map λt=>i::t
 |_=>Y
section
variable{X:Cx}
theorem wT:∀{us:List dB} {ns:List Int},IntsAre us ns->ei (ns.map V.int) us:=by
 intro us ns h
 induction h with
 |nil=>exact .nil
 |cons i t _ ih=>exact .cons ⟨t,O⟩ ih
end
end Mi
namespace Mi
open PySem PySem.Spec PyProof.Rows L2
theorem wC(its:List dB):slicePick its.toArray Y Y (Z (-1))=its.reverse.toArray:=by
 have h:=HT.rJ its.toArray;rw[sT1]at h;unfold slicePick;have a:sliceBounds Y Y (Z (-1)) its.toArray.size=(((its.length:Nat):Int)-1,-1,-1):=by
  rw[sT1];unfold sliceBounds;have h1:¬ ((Z (-1:Int)).getD 1>0):=by decide
  simp only[h1,if_false];rfl
 rw[a];unfold sliceRange;have hc:(if((its.length:Nat):Int)-1 > -1 then(((its.length:Nat):Int)-1 - -1 - -1-1)/(- -1)else 0).toNat=its.length:=by
  have h2: - (-1:Int)=1:=rfl;rw[h2,Int.ediv_one];split<;>lia
 dsimp only;rw[aj (by decide),hc,aU];have e:((λx=>its.toArray[x]?)∘λ(k:Nat)=>((its.length:Int)-1 + -1*(k:Int)).toNat)=λ(m:Nat)=>its.toArray[(((its.length:Int)-1)+(m:Int)*(-1)).toNat]?:=by
  funext m
  have b:((its.length:Int)-1 + -1*(m:Int)).toNat=(((its.length:Int)-1)+(m:Int)*(-1)).toNat:=by rw[Int.mul_comm]
  show its.toArray[((its.length:Int)-1 + -1*(m:Int)).toNat]?=its.toArray[(((its.length:Int)-1)+(m:Int)*(-1)).toNat]?;rw[b]
 rw[e,h]
section
variable{X:Cx}
noncomputable def FH(K:Fg1)(te tk:TE):TE:=fun σ H Q=>te σ H λx H1=>tk σ H1 λk H2=>k = .int (-1)/\((∃a xs,x = .ref a/\jn K H2 a xs /\ ∀p,H2 p=Y->Q (.ref p) (upd H2 p (.tup xs.reverse)))\/(∃a xs,x = .ref a/\lV K H2 a xs /\ ∀p,H2 p=Y->Q (.ref p) (upd H2 p (.lst xs.reverse))))
theorem ud{e l:Expr}{te tk:TE}{pos p2:Pos}(he:PE X e te)(hk:PE X l tk):PE X (.Subscript e (.Slice Y Y (Z l) p2) pos) (FH X.K te tk):=by
 intro ag s σ H Q I h;refine Subscript_ (fg (he ag s σ H _ I h) λv y ⟨x,H1,z,w,A⟩=>?_);refine wpAny_Slice ?_;rw[evalPart_none];refine wP1 ?_;refine wP1 ?_;rw[evalPart_some];refine fg (hk ag y σ H1 _ z A) λu c ⟨k,H2,B,rk,n⟩=>?_;obtain⟨rfl,n⟩:=n;obtain⟨t,rfl⟩:=rk;have f:Inv X ag σ H2 {c with heap:=c.heap.push {cls:=.type "slice",data:=.fields #[.none,.none,.int (-1) t]}}:=B.kept (t':=c.toks) λb p q=>hP1 _ q;rcases n with⟨a,xs,rfl,m,q⟩|⟨a,xs,rfl,m,q⟩
 ·cases w;obtain⟨g,r,i,j⟩:=f.tuple m;have d:g.toArray.size=xs.length:=by rw[sT1];exact r.length.symm
  show dM (model X.prog X.w) X.A (subscriptTail e (.Slice Y Y (Z l) p2) (.ref a) (.ref c.heap.objs.size)) (EP X ag σ Q) X.xe {c with heap:=c.heap.push {cls:=.type "slice",data:=.fields #[.none,.none,.int (-1) t]}};refine tail_any (ops:=[.ref a,.ref c.heap.objs.size]) i.typeIs PyProof.Rows.slot_tuple_getitem.lookup ?_ (by with_unfolding_all rfl);refine HT.kw i (Heap.IsSliceOf.new ..) ?_ (by rw[d];exact j);refine⟨.ref _,_,f.laid (t':=c.toks) (o:=.tup xs.reverse) (λb p q=>hP1 _ q) (nR1 _) ?_,O,q _ (f.hok.fresh (nR1 _))⟩;exact⟨by rw[cc];exact j,_,rg r,IsTup.new _ _⟩
 ·cases w;obtain⟨g,r,i,j⟩:=f.list m;have d:=r.length;show dM (model X.prog X.w) X.A (subscriptTail e (.Slice Y Y (Z l) p2) (.ref a) (.ref c.heap.objs.size)) (EP X ag σ Q) X.xe {c with heap:=c.heap.push {cls:=.type "slice",data:=.fields #[.none,.none,.int (-1) t]}};refine tail_any (ops:=[.ref a,.ref c.heap.objs.size]) i.isList.typeIs slot_list_getitem.lookup ?_ (by with_unfolding_all rfl);refine wpAny_getItem_list_slice i.isList (Heap.IsSliceOf.new ..) .none .none (.int (-1) t) (by decide) ?_ (by rw[sT1];lia);rw[wC];refine⟨.ref _,_,f.laid (t':=c.toks) (o:=.lst xs.reverse) (λb p q=>hP1 _ q) (nR1 _) ?_,O,q _ (f.hok.fresh (nR1 _))⟩;exact⟨by rw[cc];exact j,_,0,rg r,hS1 _ O⟩
noncomputable def DC(S:Sto)(d k:D):Option (D×Sto):=match k with
 | .int i=>if i = -1 then(d6 S d).map λp=>if p.1=M then(.ref S.length,S++[.lst p.2.reverse])else(.tup p.2.reverse,S)else Y
 |_=>Y
noncomputable def oH(m a:FE):FE:=λr S=>(m r S).bind λp=>(a r p.2).bind λb=>DC b.2 p.1 b.1
theorem ra{e x:Expr}{m a:FE}{pos p2:Pos}(h:XE X e m)(y:XE X x a):XE X (.Subscript e (.Slice Y Y (Z x) p2) pos) (oH m a):=
 ⟨eU (ud h.h y.h) <| by
  rintro σ H Q ⟨r,mu,S,d,I,w,G,b,hc⟩;obtain⟨⟨A,o⟩,C,b⟩:=oB1.mp b;obtain⟨⟨s,F⟩,B,b⟩:=oB1.mp b;refine⟨r,mu,S,A,o,w,G,C,λv H1 mu1 n D E=>?_⟩;refine⟨r,mu1,o,s,F,w.ext n,E,B,λu H2 g l r2 j=>?_⟩;cases s with
  |int i=>
   dsimp only[DC]at b;split at b
   ·rename_i hi;subst hi;cases r2;refine⟨O,?_⟩;obtain⟨⟨k,xs⟩,z,b⟩:=oM1.mp b;obtain⟨c,vs,rfl,q,t⟩:=ev (D.ext l) j z;cases k with
    |true=>
     cases b;right;exact⟨c,vs,O,q,λp f=>hc _ _ (g++[p]) ((n.trans l).trans (Ext.new_ f)) (.ref (fZ j.len p)) (j.newL t.reverse f)⟩
    |false=>
     simp only[bF1,if_false]at b;cases b;left;exact⟨c,vs,O,q,λp f=>hc _ _ g ((n.trans l).trans (Ext.fresh f)) (.tup (jn.of d4) (t.reverse.ext (Ext.fresh f))) (j.fresh f)⟩
   ·cases b
  |_=>cases b⟩
end
theorem og(n:Nat):∀ns:List Int,D.unds n (ns.map D.int)=M
 |[]=>rfl
 |_::ns=>by rw[mP1,D.unds,og n ns];rfl
theorem gc_same{n:Nat}{d:D}{S:Sto}(h:S.length=n):gc n (d,S)=(d,S):=by
 unfold gc;split
 ·rw[show(d,S).2=S from rfl,<- h,b4]
 ·rfl
theorem xp{n:Nat}{f:FN}{ds:List D}{S S1:Sto}{d:D}(h:f ds []=Z (d,S1))(hn:ds.length=n)(a:D.unds 0 ds=M)(hd:d.und 0=M):dX n f ds S=Z (d,S):=by
 unfold dX lR;rw[ak hn,ak a,h,oP1,ak hd]
theorem sY{n:Nat}{f:FN}{ds:List D}{S S1:Sto}{d:D}(h:f ds []=Z (d,S1))(hn:ds.length=n)(a:D.unds 0 ds=M)(hd:d.und 0=J):dX n f ds S=Z (d.sh S.length,S++S1.map (Ob.sh S.length)):=by
 unfold dX lR;rw[ak hn,ak a,h,oP1,aj (by dsimp only;rw[hd];decide)]
theorem pf{n:Nat}{f:FN}{ds:List D}{S S1:Sto}{d:D}(h:f ds S=Z (d,S1))(hn:ds.length=n)(a:D.unds 0 ds=J):dX n f ds S=Z (gc S.length (d,S1)):=by
 unfold dX lR;rw[ak hn,aj (by rw[a];decide),h,oP1]
theorem lm{n:Nat}{f:FN}{ds:List D}{S S1:Sto}{d:D}(h:f ds S=Z (d,S1))(hn:ds.length=n)(a:D.unds 0 ds=J)(b:S1.length=S.length):dX n f ds S=Z (d,S1):=by
 rw[pf h hn a,gc_same b]
theorem oF{i j:Int}(h1: -(2^64)<i)(h2:i<2^64):eR i j=M:=by
 unfold eR;simp only[bQ,bA1,al];exact .inl (.inl ⟨h1,h2⟩)
theorem vr{i j:Int}(h1: -(2^64)<j)(h2:j<2^64):eR i j=M:=by
 unfold eR;simp only[bQ,bA1,al];exact .inl (.inr ⟨h1,h2⟩)
theorem gZ{S:Sto}{n:Nat}{xs:List D}(h:S[n]?=Z (.lst xs)):oD S [(n,xs)]=M:=by
 rw[oD,h];simp[D.sames_refl,oD]
noncomputable def jB(n:Nat):Nat->List D
 |0=>[]
 |k+1=>.ref n::jB (n+1) k
theorem r6:∀{n:Nat} {lo:Int} {d:D},d∈gB lo n -> ∃k:Int,d = .int k/\lo<=k/\k<lo+n
 |0,lo,d,h=>by simp[gB]at h
 |n+1,lo,d,h=>by
  rw[gB]at h;rcases aF.mp h with h|h
  ·exact⟨lo,h,Int.le_refl _,by lia⟩
  ·obtain⟨k,e,h1,h2⟩:=r6 h;exact⟨k,e,by lia,by lia⟩
theorem gG{n:Nat}:∀{xs:List D} {x:D},D.unds n xs=M->x∈xs->x.und n=M
 |y::ys,x,h,hx=>by
  rw[D.unds,bA1]at h;rcases aF.mp hx with e|e
  ·rw[e];exact h.1
  ·exact gG h.2 e
theorem jh{S:Sto}{d:D}(h:d.und 0=M):d6 S d=d6 [] d:=by
 cases d with
 |ref n=>simp[D.und]at h
 |_=>rfl
theorem iw{S:Sto}{d:D}(h:d.und 0=M){p:Bool×List D}(e:d6 S d=Z p):D.unds 0 p.2=M:=by
 cases d with
 |ref n=>simp[D.und]at h
 |tup xs=>cases e;simpa[D.und]using h
 |rol xs=>cases e;simpa[D.und]using h
 |_=>cases e
theorem oW{f f':D->D->Option Bool}:∀{xs ys:List D},(∀x∈xs,∀y∈ys,f x y=f' x y)->nL f xs ys=nL f' xs ys
 |[],[],_=>rfl
 |[],_::_,_=>rfl
 |_::_,[],_=>rfl
 |x::xs,y::ys,h=>by
  rw[nL,nL,h x mS1 y mS1,oW λa c b d=>h a (mC1 _ c) b (mC1 _ d)]
theorem vR{S:Sto}:∀{n:Nat} {d e:D},d.und 0=M->e.und 0=M->gp S n d e=gp [] n d e
 |0,_,_,_,_=>rfl
 |n+1,d,e,hd,he=>by
  rw[gp,gp,jh hd,jh he];cases h1:d6 [] d with
  |none=>cases d6 [] e<;>rfl
  |some p=>
   cases h2:d6 [] e with
   |none=>rfl
   |some q=>
    dsimp only;have g:=iw hd h1;have a:=iw he h2;rw[oW (f:=gp S n) (f':=gp [] n) λx c y b=>vR (gG g c) (gG a b)]
theorem oJ{f f' g g':D->D->Option Bool}:∀{xs ys:List D},(∀x∈xs,∀y∈ys,f x y=f' x y)->(∀x∈xs,∀y∈ys,g x y=g' x y)->nS f g xs ys=nS f' g' xs ys
 |[],[],_,_=>rfl
 |[],_::_,_,_=>rfl
 |_::_,[],_,_=>rfl
 |x::xs,y::ys,h,k=>by
  rw[nS,nS,h x mS1 y mS1,k x mS1 y mS1,oJ (λa c b d=>h a (mC1 _ c) b (mC1 _ d)) λa c b d=>k a (mC1 _ c) b (mC1 _ d)]
theorem vx{S:Sto}:∀{n:Nat} {d e:D},d.und 0=M->e.und 0=M->jK S n d e=jK [] n d e
 |0,_,_,_,_=>rfl
 |n + 1,d,e,i,k=>by
  rw[jK,jK,jh i,jh k];cases Hz d e with
  |some b=>rfl
  |none=>
   cases h1:d6 [] d with
   |none=>rfl
   |some p=>
    cases h2:d6 [] e with
    |none=>rfl
    |some q=>
     dsimp only;have j:=iw i h1;have h:=iw k h2;rw[oJ (f:=gp S n) (f':=gp [] n) (g:=jK S n) (g':=jK [] n) (λx c y a=>vR (gG j c) (gG h a)) λx c y a=>vx (gG j c) (gG h a)]
open Classical in
noncomputable def rkV(ws:List dB)(x:dB):Nat:=ws.findIdx λy=>decide (y=x)
theorem yz{ws:List dB}{x:dB}(h:x∈ws):ws[rkV ws x]?=Z x:=by
 have a:rkV ws x<ws.length:=List.findIdx_lt_length_of_exists ⟨x,h,by simp⟩;rw[gG1 a];have:=List.findIdx_getElem (w:=a);have e:ws[rkV ws x]=x:=of_decide_eq_true this;rw[e]
noncomputable def kR(ws:List dB)(xs:Array Keyed)(i:Nat):Nat:=(xs[i]?.map λp=>rkV ws p.1).getD 0
theorem kr{ws:List dB}{xs ys:Array Keyed}{i j:Nat}(h:xs[i]?=ys[j]?):kR ws xs i=kR ws ys j:=by unfold kR;rw[h]
def Up(ws:List dB)(xs:Array Keyed)(k:Nat):Prop:=∀i j,i<j->j<k->kR ws xs i<kR ws xs j
structure ln (prog:dF)(w:dH)(A:dG)(s:dD)(κ:SortKind)(ws:List dB)(a₀:Array Keyed):Prop where
 nd:ws.Nodup
 keys:(a₀.toList.map (·.1)).Perm ws
 lt:∀(x y:dB) (i j:Nat),ws[i]?=some x->ws[j]?=some y->i≠j -> ∀(E:dB->dD->Prop) (Q:Bool->dD->Prop),Q (decide (i<j)) s->dM (model prog w) A (keyLt' κ x y) Q E s
section
variable{prog:dF}{w:dH}{A:dG}{E:dB->dD->Prop}{s:dD}{κ:SortKind}{ws:List dB}{a₀:Array Keyed}
theorem ln.at_(C:ln prog w A s κ ws a₀){xs:Array Keyed}(p:xs.Perm a₀){i:Nat}(hi:i<a₀.size):∃x q,xs[i]?=Z (x,q)/\ws[kR ws xs i]?=Z x:=by
 have a:i<xs.size:=by rw[p.size_eq];exact hi
 refine⟨xs[i].1,xs[i].2,aG1 a,?_⟩;have b:xs[i]∈a₀.toList:=(cg.mp p).mem_iff.mp (by simp);have:=yz (C.keys.mem_iff.mp (ci.mpr ⟨_,b,O⟩));unfold kR;rw[aG1 a];exact this
theorem ln.inj(C:ln prog w A s κ ws a₀){xs:Array Keyed}(p:xs.Perm a₀){i j:Nat}(hi:i<a₀.size)(e:j<a₀.size)(h:kR ws xs i=kR ws xs j):i=j:=by
 obtain⟨x,q,g,a⟩:=C.at_ p hi;obtain⟨y,r,c,f⟩:=C.at_ p e;rw[h,f]at a;cases a;have nd:(xs.toList.map (·.1)).Nodup:=(((cg.mp p).map (·.1)).trans C.keys).nodup_iff.mpr C.nd;have b:(xs.toList.map (·.1))[i]?=Z x:=by rw[gP1,aT1,g];rfl
 have d:(xs.toList.map (·.1))[j]?=Z x:=by rw[gP1,aT1,c];rfl
 exact(List.getElem?_inj (gE1.mp b).1 nd).mp (b.trans d.symm)
theorem Ds(C:ln prog w A s κ ws (pairsOf vs)){xs:Array Keyed}(p:xs.Perm (pairsOf vs))(u:Up ws xs (pairsOf vs).size):xs.map (·.2)=ws.toArray:=by
 have k:ws.length=(pairsOf vs).size:=by rw[<- C.keys.length_eq,lM1];simp
 have a:∀i,i<(pairsOf vs).size->i<=kR ws xs i:=by
  intro i
  induction i with
  |zero=>intro _;lia
  |succ i ih=>intro h;have:=ih (by lia);have:=u i (i+1) (by lia) h;lia
 have b:∀d i,i+d+1=(pairsOf vs).size->kR ws xs i<=i:=by
  intro d
  induction d with
  |zero=>
   intro i h;obtain⟨x,q,_,f⟩:=C.at_ p (i:=i) (by lia);have:=(gE1.mp f).1;lia
  |succ d ih=>
   intro i h;have:=ih (i+1) (by lia);have:=u i (i+1) (by lia) (by lia);lia
 apply Array.ext
 ·rw[Array.size_map,p.size_eq,<- k];simp
 ·intro i h1 h2;rw[Array.size_map,p.size_eq]at h1;have l:kR ws xs i=i:=Nat.le_antisymm (b ((pairsOf vs).size-1-i) i (by lia)) (a i h1);obtain⟨x,q,e,f⟩:=C.at_ p h1;rw[l]at f;have j:(x,q)∈(pairsOf vs).toList:=(cg.mp p).mem_iff.mp (cj.mpr (ck e));rw[pairsOf_toList]at j;have m:x=q:=(mem_zip_self j).1;have g:(xs.map (·.2))[i]?=Z q:=by rw[Array.getElem?_map,e];rfl
  have c:ws.toArray[i]?=Z x:=by rw[cm];exact f
  rw[aG1 (by rw[Array.size_map,p.size_eq];exact h1)]at g;rw[aG1 h2]at c;rw[Option.some.inj g,Option.some.inj c,m]
end
section
variable{prog:dF}{w:dH}{A:dG}{E:dB->dD->Prop}{s:dD}
theorem yW{p q:dB}{b:Bool}{Q:Bool->dD->Prop}(r:Az A.in1 s p q b)(h:Q b s):dM (model prog w) A (oneLt' J p q) Q E s:=by
 rw[oneLt'_eq];simp only[bF1,if_false];exact wB1 (wpAny_of_in1 (r prog w E _ (wpAny_truthy_bool h)))
theorem iD(f:Bool)(x y:dB):keyLt' (tuples' f) x y=(do
  let xs<-Builtin.List.listItems x
  let ys<-Builtin.List.listItems y
  for ((p,q),i) in (xs.toList.zip ys.toList).zipIdx do
   if !(<- eqBool p q)then return<-oneLt' (f&&i == 0) p q
  return decide (xs.size<ys.size)):=rfl
theorem EK{a b:dE}{g zs:List dB}{k:Bool}{Q:Bool->dD->Prop}(ha:IsTup s.heap a g.toArray)(hb:IsTup s.heap b zs.toArray)(L:tu A s g zs k)(h:Q k s):
  dM (model prog w) A (keyLt' (tuples' J) (.ref a) (.ref b)) Q E s:=by
 rw[iD];obtain⟨o,r,y,_,u⟩:=ha;obtain⟨v,m,B,_,n⟩:=hb;refine wB1 (listItems_at r u (wB1 (listItems_at m n ?_)));simp only[Bool.false_and];refine wB1 (wpAny_mono (wpAny_forIn_list _ (λrest c s'=>s'=s/\c=(Y,()) /\ ∃(i:Nat) (vs ws:List dB),rest=(vs.zip ws).zipIdx i/\tu A s vs ws k/\vs.length+zs.length=ws.length+g.length)
  (λc s'=>s'=s/\(c=(Z k,())\/(c=(Y,())/\k=decide (g.length<zs.length)))) ?_ ?_ _ _ ⟨O,O,0,g,zs,O,L,by lia⟩) ?_ λ_ _ e=>e)
 ·rintro x rest c s' ⟨rfl,rfl,i,vs,ws,d,j,f⟩;cases j with
  |nn=>simp at d
  |nc _ _=>simp at d
  |cn _ _=>simp at d
  | @eq p q ps l _ e t=>
   rw[bV,bM]at d;cases d;refine wB1 (e.of_in1 prog w E _ ?_);simp only[b7,bF1,if_false];exact wP1 ⟨O,O,i+1,ps,l,O,t,by simp at f;lia⟩
  | @lt p q ps l _ e t=>
   rw[bV,bM]at d;cases d;refine wB1 (e.of_in1 prog w E _ ?_);simp only[cp,if_true];exact wB1 (yW t (wP1 ⟨O,.inl O⟩))
 ·rintro c s' ⟨rfl,rfl,i,vs,ws,d,j,f⟩;refine⟨O,.inr ⟨O,?_⟩⟩;cases j with
  |nn=>simp at f;rw[ai (by lia)]
  |nc _ _=>simp at f;rw[ah (by lia)]
  |cn _ _=>simp at f;rw[ai (by lia)]
  |eq _ _=>simp at d
  |lt _ _=>simp at d
 ·rintro c s' ⟨rfl,z⟩;rcases z with rfl|⟨rfl,z⟩
  ·exact wP1 h
  ·refine wP1 ?_;rw[sT1,sT1,<- z];exact h
theorem kg{ao:Model}{α β:Type}{f:α->Sem β}{P:α->β->Prop}:∀ {l:List α} {Q:List β->dD->Prop},(∀ v∈l,∃ r,P v r /\ ∀ Q:β->dD->Prop,Q r s->dM ao A (f v) Q E s) ->
  (∀rs,rs.length=l.length->(∀r∈rs,∃v∈l,P v r)->Q rs s)->dM ao A (l.mapM f) Q E s
 |[],Q,_,q=>by rw[List.mapM_nil];exact wP1 (q [] rfl λr a=>by cases a)
 |v::l,Q,h,q=>by
  rw[List.mapM_cons];obtain⟨r,p,a⟩:=h v mS1;refine wB1 (a _ ?_);refine wB1 (kg (λv c=>h v (mC1 _ c)) λrs b g=>?_);refine wP1 (q (r::rs) (by rw[lC1,lC1,b]) λx e=>?_);rcases aF.mp e with z|z
  ·exact⟨v,mS1,by rw[z];exact p⟩
  ·obtain⟨d,h1,h2⟩:=g x z;exact⟨d,mC1 _ h1,h2⟩
theorem sG(v:dB):firstOfTuple' v=(do
  if(<- typeOf v) != .type "tuple" then return Y
  return (<- Builtin.List.listItems v)[0]?):=rfl
theorem EM{vs:List dB}{Q:SortKind->dD->Prop}(l:vs≠[])(h:∀ v∈vs,∃ a p ps b c,v = .ref a/\IsTup s.heap a (p::ps).toArray/\p = .ref b/\IsTup s.heap b c)(q:Q (tuples' false) s):
  dM (model prog w) A (keyKind' vs.toArray) Q E s:=by
 rw[keyKind'_eq,cq,<- bind_pure_comp];refine wB1 (wB1 (kg (P:=λ_ r=>∃b c,r=Z (.ref b)/\IsTup s.heap b c) (λv i=>?_) λrs B n=>wP1 ?_))
 ·obtain⟨a,p,ps,b,c,rfl,⟨o,g,j,_,C⟩,rfl,m⟩:=h v i;refine⟨Z (.ref b),⟨b,c,O,m⟩,λQ q=>?_⟩;rw[sG];refine wB1 (wpAny_typeOf (T:="tuple") ⟨o,g,j⟩ ?_);rw[aj (by decide)];refine wB1 (listItems_at g C (wP1 ?_));simpa using q
 ·have H:rs.toArray.all (·.isSome)=true:=by
   rw[cr,bD];intro r u;obtain⟨v,_,b,c,e,_⟩:=n r u;rw[e];rfl
  rw[ak H];refine wB1 (wpAny_rule ?_);rw[oneTypeOnly'_eq];have y:rs.toArray.filterMap id=(rs.filterMap id).toArray:=by simp
  rw[y,cq,<- bind_pure_comp];refine wB1 (wB1 (wB1 (kg (P:=λ_ t=>t=Value.type "tuple") (λv i=>?_) λd f m=>wP1 ?_)))
  ·obtain⟨r,u,e⟩:=aL.mp i;obtain⟨I,_,b,c,D,⟨o,g,j,_⟩⟩:=n r u;rw[D]at e;cases e;exact⟨_,O,λQ q=>wpAny_typeOf (T:="tuple") ⟨o,g,j⟩ q⟩
  ·cases d with
   |nil=>
    exfalso;cases rs with
    |nil=>exact l (cu.mp B.symm)
    |cons r rs=>
     obtain⟨_,_,b,_,e,_⟩:=n r mS1;rw[e]at f;simp at f
   |cons t d=>
    have all:∀x∈t::d,x=Value.type "tuple":=λx k=>by obtain⟨_,_,z⟩:=m x k;exact z
    have F:=all t mS1;subst F;have G:((Value.type "tuple"::d).toArray.all λx=>x == Value.type "tuple")=M:=by
     rw[cr,bD];intro x k;rw[all x k];rfl
    show dM _ _ (pure (if((Value.type "tuple"::d).toArray.all λx=>x == Value.type "tuple")=M then Z (Value.type "tuple")else Y)) _ _ _;rw[ak G];exact wP1 (wP1 q)
end
section
variable{prog:dF}{w:dH}{A:dG}{E:dB->dD->Prop}{R:Result->dD->Prop}
end
section
variable{prog:dF}{w:dH}{A:dG}{E:dB->dD->Prop}{s:dD}
end
mutual
theorem tS{n:Nat}:∀k:TK,(tkD k).und n=M
 | .non=>rfl
 | .int _=>rfl
 | .tup xs=>by rw[tkD,D.und];exact uU xs
theorem uU{n:Nat}:∀ks:List TK,D.unds n (hG ks)=M
 |[]=>rfl
 |k::ks=>by rw[hG,D.unds,tS k,uU ks];rfl
end
section
variable{X:Cx}
end
def Fo(H:Hp)(a:dE):Prop:=(∃kvs,H a=Z (.dK kvs)) \/ ∃xs,H a=Z (.ext (gr a xs))
section
variable{X:Cx}
theorem BX{ag:List (dE×Obj)}{σ:L2.St}{H:Hp}{s:dD}{a:dE}(I:Inv X ag σ H s)(h:Fo H a):(a == sysModules)=J /\ ∃o,s.heap.get? a=Z o/\o.ExactDict:=by
 rcases h with⟨kvs,e⟩|⟨xs,e⟩
 ·obtain⟨_,b,vs,_,o,es,ep,h1,h2,_⟩:=I.hok a _ e;exact⟨b,o,h1,h2⟩
 ·obtain⟨⟨b,_,o,es,ep,h1,h2,_⟩,_⟩:=(show eO X.prog X.w H s.heap a (.ext (gr a xs))from I.hok a _ e);exact⟨b,o,h1,h2⟩
end
abbrev xB(h:dN)(it d:dE)(i n ep:Nat):Prop:=h.get? it=Z {cls:=.type "dict_keyiterator",dict:=Y,data:=.fields #[.ref d,.int i 0,.int n 0,.int ep 0],slots:= #[]}
section
variable{prog:dF}{w:dH}{A:dG}{E:dB->dD->Prop}{s:dD}
theorem BQ{it d:dE}{i ep:Nat}{es:Array DictEntry}{o:Obj}{Q:Option dB->dD->Prop}(f:xB s.heap it d i es.size ep)(hd:s.heap.get? d=Z o)(j:o.data = .dict es ep)(hi:i<es.size)(q:∀h',xB h' it d (i+1) es.size ep->Heap.SameBut it s.heap h'->Q (Z es[i].key) {s with heap:=h'}):dM (model prog w) A (pyNext (.ref it)) Q E s:=by
 have k:s.TypeIs (.ref it) "dict_keyiterator":=⟨_,f,O⟩;unfold pyNext;refine wB1 (wpAny_attempt (wpAny_callSpecial?_slot (name:=Str.ofString "__next__") k PySem.F.slot_dict_keyiterator_next
  (wE1 PySem.F.slot_dict_keyiterator_next k PySem.F.entry_dict_keyiterator_next ?_ (PySem.F.args_dict_keyiterator_next_1 _))))
 refine wB1 (wP1 (wB1 (wB1 (wB1 (wpAny_typeNameOfWhole_keyiter k (wP1 ?_))))));refine wB1 (wpAny_fieldsOf f O ?_);have h:Builtin.Dict_items.ownsTuple "dict_keyiterator"=J:=by decide
 simp only[h,bF1,if_false];show dM _ _ (if(Value.ref d == Value.none)=M then _ else _) _ _ s;rw[aj (show¬ ((Value.ref d == Value.none)=M)from aK)];refine wB1 (wP1 (wB1 (wpAny_dictEntries hd j ?_)));rw[aj (by simp)];refine wB1 (wP1 (wB1 (wpAny_dictEpoch hd j ?_)));rw[aj (by simp)];refine wP1 ?_;simp only[show¬ ((i:Int)<0)from by lia,if_false,Int.toNat_natCast,aG1 hi];refine wB1 (wB1 (wpAny_typeNameOfWhole_keyiter k (wP1 ?_)));refine wB1 (wpAny_isOneOf_keyiter k ?_);show dM _ _ (setField (.ref it) 1 (rawInt ((i:Int)+1)) >>= _) _ _ s;refine wB1 (wS1 f (by simp) λb a c=>?_);replace a:xB b it d (i+1) es.size ep:=by
  have e:((i+1:Nat):Int)=(i:Int)+1:=by lia
  unfold xB;rw[e];simpa[rawInt]using a
 have g:Shared.TypeIs {s with heap:=b} (.ref it) "dict_keyiterator":=⟨_,a,O⟩;refine wB1 (wpAny_holding (wB1 (wpAny_isOneOf_keyiter g ?_)));show dM _ _ (pure es[i].key) _ _ _;exact wP1 (wP1 ⟨_,O,wP1 (q b a c)⟩)
theorem EJ{it d:dE}{i ep:Nat}{es:Array DictEntry}{o:Obj}{Q:Option dB->dD->Prop}(n:A.handled=Y)(f:xB s.heap it d i es.size ep)(hd:s.heap.get? d=Z o)(h:o.data = .dict es ep)(hi:es.size<=i)(q:∀h',(∀b o,b≠it->s.heap.get? b=Z o->h'.get? b=Z o)->Q Y {s with heap:=h'}):dM (model prog w) A (pyNext (.ref it)) Q E s:=by
 have j:s.TypeIs (.ref it) "dict_keyiterator":=⟨_,f,O⟩;unfold pyNext;refine wB1 (wpAny_attempt (wpAny_callSpecial?_slot (name:=Str.ofString "__next__") j PySem.F.slot_dict_keyiterator_next
  (wE1 PySem.F.slot_dict_keyiterator_next j PySem.F.entry_dict_keyiterator_next ?_ (PySem.F.args_dict_keyiterator_next_1 _))))
 refine wB1 (wP1 (wB1 (wB1 (wB1 (wpAny_typeNameOfWhole_keyiter j (wP1 ?_))))));refine wB1 (wpAny_fieldsOf f O ?_);have g:Builtin.Dict_items.ownsTuple "dict_keyiterator"=J:=by decide
 simp only[g,bF1,if_false];show dM _ _ (if(Value.ref d == Value.none)=M then _ else _) _ _ s;rw[aj (show¬ ((Value.ref d == Value.none)=M)from aK)];refine wB1 (wP1 (wB1 (wpAny_dictEntries hd h ?_)));rw[aj (by simp)];refine wB1 (wP1 (wB1 (wpAny_dictEpoch hd h ?_)));rw[aj (by simp)];refine wP1 ?_;simp only[show¬ ((i:Int)<0)from by lia,if_false,Int.toNat_natCast,cv hi];refine wB1 (wB1 (wpAny_typeNameOfWhole_keyiter j (wP1 ?_)));show dM _ _ (setField (.ref it) 0 .none >>= _) _ _ s;refine wB1 (wS1 f (by simp) λl k c=>?_);show dM _ _ (newExc (.type "StopIteration") [] >>= _) _ _ _;refine wB1 ?_;simp only[newExc,newTuple];refine wB1 (wO1 ?_ (by size_fits));refine wB1 (m:=firstArgMember _ _) (wpAny_of_eq (a:=Value.none) (by first|rfl|(simp only[firstArgMember];rfl)) ?_);refine wO1 ?_ (by size_fits);simp only[raiseNew];refine wB1 (wpAny_handled ?_);rw[show A.in1.handled=Y from n];refine wB1 (wP1 (wpAny_throw ?_));refine wB1 (wpAny_isInstance (T:="StopIteration") (b:=M) ⟨_,hS1 _ O,O⟩ isSubtype_stop ?_);exact wP1 (q _ λb o p e=>hP1 _ (hP1 _ (c.extBut b o p e)))
theorem BR {d:dE}{es:Array DictEntry}{ep:Nat}{o:Obj}{Q:dB->dD->Prop}(hm:(d == sysModules)=false)(hd:s.heap.get? d=some o)(hc:o.cls = .type "dict")(a:o.data = .dict es ep)(hn:es.size<=dL)
  (q:Q (.ref s.heap.objs.size) {s with heap:=s.heap.push {cls:=.type "dict_keyiterator",data:=.fields #[.ref d,.int 0 0,.int es.size 0,.int ep 0]}}):dM (model prog w) A (pyIter (.ref d)) Q E s:=by
 have b:s.TypeIs (.ref d) "dict":=⟨o,hd,hc⟩;refine wpAny_pyIter_slot b PySem.F.slot_dict_iter (wE1 PySem.F.slot_dict_iter b PySem.F.entry_dict_iter ?_ (PySem.F.args_dict_iter_1 _));unfold Builtin.«dict.__iter__»;refine wB1 ?_;unfold Builtin.Dict.dictSlotNone;refine wB1 (wpAny_notOrdered_dict b ?_);show dM _ _ (pure (Value.ref d)) _ _ s;refine wP1 ?_;show dM _ _ (Builtin.Dict.showsAll d >>= _) _ _ s;unfold Builtin.Dict.showsAll;rw[aj (by rw[hm];exact aK)];refine wB1 (wP1 (wB1 (wpAny_dictEntries hd a (wB1 (wpAny_dictEpoch hd a (wB1 ?_))))));refine wO1 (wP1 ⟨_,O,"dict_keyiterator",_,⟨_,hS1 _ O,O⟩,PySem.F.slot_dict_keyiterator_next.lookup,?_⟩);simpa[rawInt]using q
end
section
variable{prog:dF}{w:dH}{A:dG}{E:dB->dD->Prop}{R:Result->dD->Prop}
end
section
variable{X:Cx}
theorem KT.keys{K:Fg1}{H:Hp}{mu:List dE}:∀{ks:List (TK×D)} {ws:List (TK×dE×dB)},KT K H mu ks ws->d0 K H mu (ks.map λp=>tkD p.1) (ws.map λx=>V.ref x.2.1)
 |_,_,.nil=>.nil
 |_,_,.cons ⟨z,d,k,_⟩ t=>.cons k (KT.keys t)
noncomputable def HY(X:Cx)(td ty tx:TE):TE:=fun σ H Q=>td σ H λx H1=>∃a,x = .ref a/\Fo H1 a/\ty σ H1 λy H2=>tx σ H2 λz H3=>
 ∀ag s u r,Inv X ag σ H3 s->d7 y u->d7 z r->dM (model X.prog X.w) X.A (call (.builtin "dict.get") [.ref a,u,r]) (EP X ag σ Q) X.xe s
theorem D1 {o e f:Expr}{apos cpos:Pos}{td ty tx:TE}(ho:PE X o td)(he:PE X e ty)(hf:PE X f tx)(m:M2 X o "get" apos e f cpos):PE X (.Call (.Attribute o "get" apos) [e,f] [] cpos) (HY X td ty tx):=by
 intro ag s σ H Q I h;refine wpAny_Call_method m.base m.few m.line PySem.F.plainAttrs_dict PySem.F.slot_dict_get PySem.F.type_dict_get (fg (ho ag s σ H _ I h) λu n ⟨x,H1,i,v,a,ex,d,B⟩=>?_);subst ex;obtain rfl:u=Value.ref a:=v;obtain⟨_,o',j,c⟩:=BX i d;refine⟨⟨o',j,c.1⟩,λb A=>by cases A;exact⟨o',j,c.2.1⟩,?_⟩;rw[m.trees];refine Calls.callWith_builtin O (Calls.evalArgs_plain (Calls.spliced_cons (fg (he ag n σ H1 _ i B) λl q ⟨y,H2,C,r,D⟩=>
  Calls.spliced_cons (fg (hf ag q σ H2 _ C D) λk p ⟨z,E,t,w,g⟩=>Calls.spliced_nil ?_))))
 exact g ag p l k t r w
noncomputable def xh(S:Sto)(n:Nat):Option (List (TK×D)):=match S[n]? with
 |some (.dcT kvs)=>Z kvs
 |some (.dct [])=>Z []
 |_=>Y
theorem vV{H:Hp}{mu:List dE}{S:Sto}{n:Nat}{a:dE}{kvs:List (TK×D)}(hs:Sim X.K H mu S)(hn:mu[n]? = some a)(h:xh S n=some kvs):
  Fo H a /\ ∃xs,KT X.K H mu kvs xs /\ ∀ag σ s,Inv X ag σ H s->(a == sysModules)=J/\s.heap.DictOfH (fP X.prog X.w) a xs:=by
 unfold xh at h;split at h
 ·rename_i ks c;cases h;obtain⟨xs,h1,h2,l⟩:=hs.dcT c hn;exact⟨.inr ⟨xs,h1⟩,xs,h2,λag σ s I=>sQ I h1 h2⟩
 ·rename_i c;cases h;obtain⟨ws,h1,h2⟩:=hs.dct c hn;cases h2;refine⟨.inl ⟨[],h1⟩,[],.nil,λag σ s I=>?_⟩;obtain⟨_,b,vs,i,o,es,ep,g,e,f,j⟩:=I.hok a _ h1;cases i;have d:es.toList=[]:=cu.mp (by have:=j.2.1.length;simpa using this);exact⟨b,o,es,ep,g,e,f,d,λx k=>(by cases k),bq⟩
 ·cases h
noncomputable def qi(m a b:FE):FE:=λr S=>(m r S).bind λp=>match p.1 with
 | .ref n=>(xh p.2 n).bind λ_=>(a r p.2).bind λq=>(b r q.2).bind λt=>(xh t.2 n).bind λkvs=>(keyT q.1).map λk=>((d3 kvs k).getD t.1,t.2)
 |_=>Y
theorem wm {o e f:Expr}{apos cpos:Pos}{m a b:FE}(V:X.A.units+64<cLine)(ho:XE X o m)(he:XE X e a)(hf:XE X f b)(hm:M2 X o "get" apos e f cpos:=by exact⟨O,O,O,O⟩):XE X (.Call (.Attribute o "get" apos) [e,f] [] cpos) (qi m a b):=
 ⟨eU (D1 ho.h he.h hf.h hm) <| by
  rintro σ H Q ⟨r,mu,S,d,S',he,hs,hm,hc⟩;obtain⟨⟨d1,C⟩,e1,hm⟩:=oB1.mp hm;refine⟨r,mu,S,d1,C,he,hs,e1,λv1 H1 mu1 l r1 G=>?_⟩;dsimp only at hm;split at hm
  ·rename_i n;obtain⟨P,x,hm⟩:=oB1.mp hm;cases r1 with
   | @ref _ E F=>
    refine⟨E,O,(vV G F x).1,?_⟩;obtain⟨⟨d2,K⟩,e2,hm⟩:=oB1.mp hm;obtain⟨⟨L,S3⟩,ao,hm⟩:=oB1.mp hm;refine⟨r,mu1,C,d2,K,he.ext l,G,e2,λv2 H2 B i r2 T=>?_⟩;refine⟨r,B,K,L,S3,(he.ext l).ext i,T,ao,λW h g j aq A=>?_⟩;obtain⟨kvs,U,hm⟩:=oB1.mp hm;obtain⟨k,N,hm⟩:=oM1.mp hm;cases hm;intro ag s u w I ru t;obtain⟨_,xs,D,wq⟩:=vV A (j.at (i.at F)) U;obtain⟨y,am⟩:=wq ag σ s I;obtain⟨b,rfl,rfl,_,_,hi⟩:=iZ I (r2.ext j) ru N;refine call_meetsIn PySem.F.slot_dict_get am.typeIs PySem.F.entry_dict_get (PySem.F.args_dict_get_3 _ _ _) (meetsH_dict_get_default (fP X.prog X.w) E b y w) ⟨ix V,k,xs,hi,am,?_⟩;show EP X ag σ Q (((atKey xs k).map (·.2)).getD w) _;cases ez:d3 kvs k with
    |none=>
     have c:=(D.look (k:=k)).2;rw[ez]at c hc;have q:atKey xs k=Y:=by
      cases q:atKey xs k with
      |none=>rfl
      |some _=>rw[q]at c;cases c
     rw[q];exact⟨W,h,I.tok _,t,hc _ h g ((l.trans i).trans j) aq A⟩
    |some z=>
     obtain⟨p,v,e4,au,R⟩:=D.look.1 z ez;rw[ez]at hc;rw[e4];exact⟨v,h,I.tok _,au,hc _ h g ((l.trans i).trans j) R A⟩
  ·cases hm⟩
end
def NF(X:Cx)(a:dE):Prop:=(∀xs,X.H₀ a≠Z (.tup xs))/\(∀o v,X.H₀ a≠Z (.frz o v)) /\ ∀ps,X.H₀ a≠Z (.tbl ps)
section
variable{X:Cx}{ag:List (dE×Obj)}{σ:L2.St}{H:Hp}{s:dD}{a:dE}{u v:HO}
theorem sv(I:Inv X ag σ H s)(e:H a=Z u)(d:NF X a)(h1:∀c,u ≠ .own c)(h2:∀xs,u ≠ .tup xs)(new:eO X.prog X.w H s.heap a v):Inv X ag σ (upd H a v) s:=by
 have ne:∀{b:dE},H b=Y->b≠a:=λ{b} z=>by rintro rfl;rw[e]at z;cases z
 have f:∀b c,H b=Z (.own c)->upd H a v b=Z (.own c):=λb c z=>by
  rw[dY (by rintro rfl;rw[e]at z;cases z;exact h1 _ O)];exact z
 have h:∀b xs,H b=Z (.tup xs)->upd H a v b=Z (.tup xs):=λb xs z=>by
  rw[dY (by rintro rfl;rw[e]at z;cases z;exact h2 _ O)];exact z
 refine⟨I.ok,I.os,I.bare,⟨I.base.keep,I.base.slot,λb o q n k=>?_,I.base.there,λb xs q=>?_,λb o w q=>?_,λb ps q=>?_⟩,I.loc,I.cell,?_,λx c q=>?_,λp j=>?_,λb w q=>?_,I.len⟩
 ·have z:=I.base.free b o q n k;rw[dY (ne z)];exact z
 ·rw[dY (by rintro rfl;exact d.1 _ q)];exact I.base.tups b xs q
 ·rw[dY (by rintro rfl;exact d.2.1 _ _ q)];exact I.base.frzs b o w q
 ·rw[dY (by rintro rfl;exact d.2.2 _ q)];exact I.base.tbls b ps q
 ·rw[dY (ne I.free)];exact I.free
 ·rw[dY (ne (I.freeC x c q))];exact I.freeC x c q
 ·obtain⟨l,p2,i⟩:=I.pin p j;exact⟨l,by rw[dY (ne p2)];exact p2,i⟩
 ·by_cases g:b=a
  ·subst g;rw[d4]at q;cases q;exact new.stay (λc o _ z=>z) (λc z=>f c _ z) λc xs z=>h c xs z
  ·rw[dY g]at q;exact(I.hok b w q).stay (λc o _ z=>z) (λc z=>f c _ z) λc xs z=>h c xs z
end
inductive xC (a:dE):List (TK×dE×dB)->HO->Prop
 |ext (xs:List (TK×dE×dB)):xC a xs (.ext (gr a xs))
 |dK:xC a [] (.dK [])
noncomputable def ItD(a:dE)(o:Obj)(xs:List (TK×dE×dB)):It:=
 ⟨λi H=>(∃u,H a=Z (.frz o u))/\i<xs.length,λi H x H'=>H'=H /\ ∃q,xs[i]?=Z q/\x = .ref q.2.1,λi H=>(∃u,H a=Z (.frz o u))/\xs.length<=i⟩
theorem wt{P:dF}{w:dH}{K:Fg1}{tg:Expr}{a it:dE}{o:Obj}{xs:List (TK×dE×dB)}{es:Array DictEntry}{ep:Nat}(hd:o.data = .dict es ep)(d:es.toList=xs.map fun x=>(⟨x.1.hash,.ref x.2.1,x.2.2⟩:DictEntry)):
  tq P w K tg (ItD a o xs) [it] it (λi h=>xB h it a i es.size ep) where
 mem:=by simp
 obj:=λi h st b c=>by
  have e:b=it:=by simpa using c
  subst e;exact⟨_,st,λv z=>by cases z⟩
 keep:=λi h h' st k=>k it (by simp) _ st
 item:=by
  intro X q g A hc i ag s σ H E I f st y;subst q g A;obtain⟨⟨u,p⟩,hi⟩:=y;obtain⟨B,_⟩:=(show eO X.prog X.w H s.heap a (.frz o u)from I.hok a _ p);have l:es.size=xs.length:=by rw[<- aJ,d,lM1]
  obtain⟨j,m,D,r,t,n⟩:=f it (by simp);refine BQ st B hd (by omega) λh' st' F=>?_;have G:Inv X ag σ H {s with heap:=h'}:=I.turned (t':=s.toks) (λb o c e=>(F.2 b c).trans e) j m r t n;have C:es[i].key = .ref (xs[i]).2.1:=by
   have:es.toList[i]?=(xs.map λx=>(⟨x.1.hash,.ref x.2.1,x.2.2⟩:DictEntry))[i]?:=by rw[d]
   rw[aT1,aG1 (by omega),gP1,gG1 hi]at this;have:=Option.some.inj this;rw[this]
  refine⟨_,O,vJ (s:={s with heap:=h'}) st' O O (by decide) ⟨.ref (xs[i]).2.1,H,G,C,⟨O,_,gG1 hi,O⟩,st',λb c=>(f b c).1⟩⟩
 done:=by
  intro X q g A hc i ag s σ H E I f st y;subst q g A;obtain⟨⟨u,p⟩,hi⟩:=y;obtain⟨B,_⟩:=(show eO X.prog X.w H s.heap a (.frz o u)from I.hok a _ p);have l:es.size=xs.length:=by rw[<- aJ,d,lM1]
  obtain⟨j,m,D,r,t,n⟩:=f it (by simp);exact EJ (I.ok.hd hc) st B hd (by omega) λh' am=>⟨O,I.turned (t':=s.toks) (λb o c e=>am b o c e) j m r t n⟩
 self:=λ_ _ _ _ _ st h=>wpAny_pyIter_keyiter ⟨_,st,O,O⟩ h
noncomputable def GM(X:Cx)(tl:TE):TI:=fun σ H R=>tl σ H λx H1=>∃a xs u,x = .ref a/\H1 a=Z u/\xC a xs u/\xs.length<=dL /\ ∀o,wh a xs o->NF X a->R (ItD a o xs) (upd H1 a (.frz o u))
theorem E1{X:Cx}{ag:List (dE×Obj)}{σ:L2.St}{H:Hp}{s:dD}{a:dE}{u:HO}{xs:List (TK×dE×dB)}(I:Inv X ag σ H s)(e:H a=Z u)(h:xC a xs u):∃o,s.heap.get? a=Z o/\wh a xs o:=by
 cases h with
 |ext xs=>
  obtain⟨⟨h1,h2,o,es,ep,b,c,f,d⟩,_⟩:=(show eO X.prog X.w H s.heap a (.ext (gr a xs))from I.hok a _ e);exact⟨o,b,h1,h2,c,es,ep,f,d⟩
 |dK=>
  obtain⟨_,h1,vs,h2,b⟩:=(show eO X.prog X.w H s.heap a (.dK [])from I.hok a _ e);cases h2;obtain⟨o,es,ep,b,c,f,d,_⟩:=nz b;exact⟨o,b,h1,bq,c,es,ep,f,d⟩
theorem EZ{X:Cx}{ag:List (dE×Obj)}{σ:L2.St}{H:Hp}{s:dD}{a:dE}{u:HO}{xs:List (TK×dE×dB)}(I:Inv X ag σ H s)(e:H a=Z u)(h:xC a xs u):NF X a:=by
 refine⟨λys q=>?_,λo v q=>?_,λps q=>?_⟩
 ·have:=I.base.tups a ys q;rw[e]at this;cases this;cases h
 ·have:=I.base.frzs a o v q;rw[e]at this;cases this;cases h
 ·obtain⟨m,z⟩:=I.base.tbls a ps q;rw[e]at z;cases z;cases h
theorem DT{X:Cx}{tg l:Expr}{tl:TE}(t:PE X l tl):PI X tg l (GM X tl):=by
 intro ag s σ H R I h;refine fg (t ag s σ H _ I h) λv s1 ⟨x,H1,d,A,r⟩=>?_;obtain⟨a,xs,u,e,f,g,E,q⟩:=r;subst e;cases A;obtain⟨o,k,n⟩:=E1 d f g;have m:=EZ d f g;have q:=q o n m;obtain⟨B,D,w,es,ep,i,j⟩:=n;have C:es.size=xs.length:=by rw[<- aJ,j,lM1]
 refine BR B k w.1 i (by lia) ?_;have p:Inv X ag σ (upd H1 a (.frz o u)) s1:=sv d f m (λc z=>by subst z;cases g) (λc z=>by subst z;cases g) ⟨k,d.hok a _ f⟩;refine⟨s1.heap.objs.size,[s1.heap.objs.size],_,_,_,O,p.kept (t':=s1.toks) λb o e=>hP1 _ e,wt i j,hS1 _ O,λb y=>?_,q⟩;have e:b=s1.heap.objs.size:=by simpa using y
 subst e;exact d.fpOk (nR1 _) (p.hok.fresh (nR1 _))
noncomputable def zC:Ob->Option (List (TK×D))
 | .dcT kvs=>Z kvs
 | .dct []=>Z []
 |_=>Y
noncomputable def lj(k:Nat)(keep:List Nat)(m:FE)(g:FG)(t:FT)(b:FV):FE:=λr S=>(m r S).bind λp=>match p.1 with
 | .ref n=>(p.2[n]?).bind fun ob=>(zC ob).bind fun kvs=>(fM [] g t b (kvs.map fun q=>tkD q.1) (nT k keep r) (p.2.set n (.dcF kvs))).bind fun q=>
   if q.1.length<=dL then Z (.ref q.2.2.length,q.2.2.set n ob++[.lst q.1])else Y
 |_=>Y
section
variable{K:Fg1}{H H':Hp}{mu mu':List dE}{S:Sto}{n:Nat}{a:dE}{o:Obj}{u:HO}
theorem jJ.exv{b:dE}(e:xK mu mu' H H')(h:∀o,H b=Z o->H' b=Z o):∀{o:Ob},jJ K H mu b o->jJ K H' mu' b o
 | .lst _,⟨vs,q,r⟩=>⟨vs,h _ q,r.exv e⟩
 | .dct _,⟨ws,q,r⟩=>⟨ws,h _ q,Paired.mapP r λ_ _ z=>⟨z.1,z.2.exv e⟩⟩
 | .dcT _,⟨ws,q,r,l⟩=>⟨ws,h _ q,Paired.mapP r λ_ _ ⟨z,d,k,v,a,r⟩=>⟨z,d,k.exv e,v,a,r.exv e⟩,l⟩
 | .iset _,q=>⟨h _ q.1,q.2⟩
 | .dcF _,⟨ws,⟨o,u,f,c⟩,r,l⟩=>⟨ws,⟨o,u,h _ f,c⟩,Paired.mapP r λ_ _ ⟨z,d,k,v,a,r⟩=>⟨z,d,k.exv e,v,a,r.exv e⟩,l⟩
 | .tst _,⟨ws,q,r⟩=>⟨ws,h _ q,Paired.mapP r λ_ _ ⟨z,d,k,v,a,r⟩=>⟨z,d,k.exv e,v,a,r.exv e⟩⟩
theorem rn(e:H a=Z (.frz o u))(h1:∀xs,u ≠ .tup xs)(h2:∀xs,u ≠ .lst xs):xK mu mu H (upd H a u) where
 pre:=bn
 tup:=λb xs h=>by
  have ne:b≠a:=by
   rintro rfl;rcases h with h|⟨_,h⟩<;>(rw[e]at h;cases h)
   exact h1 _ O
  rcases h with h|⟨c,h⟩
  ·exact .inl (by rw[dY ne];exact h)
  ·exact .inr ⟨c,by rw[dY ne];exact h⟩
 frl:=λb c xs h=>by
  rw[dY (by rintro rfl;rw[e]at h;cases h;exact h2 _ O)];exact h
theorem Sim.thaw(s:Sim K H mu S){c:Ob}(hn:mu[n]?=Z a)(x:xK mu mu H (upd H a u))(ho:jJ K (upd H a u) mu a c):Sim K (upd H a u) mu (S.set n c):=by
 refine⟨by rw[aW];exact s.len,s.nd,λk o' b h1 h2=>?_⟩;by_cases d:n=k
 ·subst d;have g:n<S.length:=by
   have:=(gE1.mp h1).1
   rwa [aW]at this
  rw[aI g]at h1;cases h1;rw[hn]at h2;cases h2;exact ho
 ·rw [gS1 d] at h1;have ne:b≠a:=fun e=>by
   subst e;obtain⟨i,h⟩:=gE1.mp hn;obtain⟨j,f⟩:=gE1.mp h2;exact d ((List.getElem_inj s.nd).mp (h.trans f.symm))
  exact(s.ob k o' b h1 h2).exv x λc e=>by rw[dY ne];exact e
theorem BU(s:Sim K H mu S){ob:Ob}{kvs:List (TK×D)}(h:S[n]? = some ob)(hk:zC ob=some kvs)(hn:mu[n]? = some a):
  ∃xs u,H a=Z u/\xC a xs u/\KT K H mu kvs xs/\xs.length<=dL /\ ∀H' mu',xK mu mu' H H'->H' a=Z u->jJ K H' mu' a ob:=by
 cases ob with
 |dcT ks=>
  cases hk;obtain⟨xs,e,r,l⟩:=s.dcT h hn;exact⟨xs,_,e,.ext xs,r,l,λH' mu' x b=>⟨xs,b,Paired.mapP r λ_ _ ⟨z,d,k,v,c,r⟩=>⟨z,d,k.exv x,v,c,r.exv x⟩,l⟩⟩
 |dct ks=>
  cases ks with
  |nil=>
   cases hk;obtain⟨ws,e,r⟩:=s.dct h hn;cases r;exact⟨[],_,e,.dK,.nil,bi _,λH' mu' x b=>⟨[],b,.nil⟩⟩
  |cons _ _=>cases hk
 |_=>cases hk
end
theorem KT.keyOf{K:Fg1}{H:Hp}{mu:List dE}{ks:List (TK×D)}{ws:List (TK×dE×dB)}(h:KT K H mu ks ws){i:Nat}{d:D}(e:(ks.map λq=>tkD q.1)[i]?=Z d){q:TK×dE×dB}(c:ws[i]?=Z q):eJ K H mu d (.ref q.2.1):=by
 obtain⟨v,a,b⟩:=h.keys.get e;rw[gP1,c]at a;cases a;exact b
theorem Al{X:Cx}{K:Fg1}{k:Nat}{keep:List Nat}{m:FE}{g:FG}{t:FT}{b:FV}{tb:dE->TS}(hb:∀ a E σ H,FP K a b E σ H->tb a E σ H){σ:L2.St}{H:Hp}{Q:VK}(h:tM K (lj k keep m g t b) σ H Q):
  uZ k keep (GM X (tM K m)) (Dm K g) (yg K t) tb σ H (λv H'=>∃a o u,H' a=Z (.frz o u)/\(∀xs,u ≠ .tup xs)/\NF X a/\Q v (upd H' a u)):=by
 obtain⟨r,mu,S,d,S',he,hs,l,hc⟩:=h;obtain⟨⟨d1,S1⟩,e1,l⟩:=oB1.mp l;cases d1 with
 |ref n=>
  obtain⟨x,eo,l⟩:=oB1.mp l;obtain⟨kvs,ek,l⟩:=oB1.mp l;obtain⟨⟨ys,r2,L⟩,e2,l⟩:=oB1.mp l;dsimp only at l;split at l
  ·rename_i hl;cases l;refine⟨r,mu,S,.ref n,S1,he,hs,e1,λv H1 mu1 x1 r1 s1=>?_⟩;cases r1 with
   | @ref _ a G=>
   obtain⟨xs,u,N,A,B,hz,back⟩:=BU s1 eo ek G;refine⟨a,xs,u,O,N,A,hz,λo hO nf p s=>?_⟩;have mt:Mut (Z u):=by cases A<;>trivial
   have put:Ext mu1 mu1 H1 (upd H1 a (.frz o u)):=Ext.put N mt (gM1 G);have sf:Sim K (upd H1 a (.frz o u)) mu1 (S1.set n (.dcF kvs)):=s1.put G N mt ⟨xs,⟨o,u,d4,hO⟩,KT.ext put B,hz⟩;have f:p≠a:=by rintro rfl;rw[d4]at s;cases s
   have R:Ext mu1 mu1 (upd H1 a (.frz o u)) (upd (upd H1 a (.frz o u)) p (.lst [])):=Ext.fresh s;have hlen:kvs.length=xs.length:=by have:=B.keys.length;simpa using this
   have J1:ItR K (ItD a o xs) ⟨kvs.map λq=>tkD q.1,[]⟩ mu1 (upd H1 a (.frz o u)):=by
    intro i H2 mu2 L x2 s2 _;have hf:=x2.frz a o u d4;refine⟨λd A=>?_,λh=>⟨⟨u,hf⟩,by rw[lM1]at h;lia⟩⟩;have hi:i<xs.length:=by have:=(gE1.mp A).1;rw[lM1]at this;lia
    refine⟨⟨⟨u,hf⟩,hi⟩,?_⟩;rintro y H3 ⟨rfl,q,eq,rfl⟩;exact⟨.refl _ _,s2,((KT.ext put B).keyOf A eq).exw x2⟩
   refine sj (hb p) J1 R.w d4 (sf.notin s) .nil ((CQ k keep (he.ext (x1.trans put))).ext R) (sf.fresh s) e2 (by simpa using hl) fun σ' H' mu' F I W U aq he' s'=>?_;have C:H' a=Z (.frz o u):=I.frz a o u (by rw[dY f.symm];exact d4);have h1:∀xs,u ≠ .tup xs:=λxs z=>by subst z;cases A
   have h2:∀xs,u ≠ .lst xs:=λxs z=>by subst z;cases A
   refine⟨a,o,u,C,h1,nf,?_⟩;have D:=(bY.mp I.pre).2;have na:mu'[n]?=Z a:=by
    obtain⟨t,rfl⟩:=D;rw[gL1 (gE1.mp G).1];exact G
   have ne1:∀{b:dE},H1 b=Y->b≠a:=λ{b} z=>by rintro rfl;rw[N]at z;cases z
   have y:Ext mu1 (mu'++[p]) H1 (upd H' a u):=by
    refine⟨D.trans (bw _ _),λb w e nb=>?_,λb ys e=>?_,λb x w e=>?_,λb V=>?_⟩
    ·have T:b≠a:=λz=>nb (by rw[z];exact gM1 G);have bp:b≠p:=by rintro rfl;rw[dY f,e]at s;cases s
     rw[dY T];exact I.old b w (by rw[dY bp,dY T];exact e) λz=>by
      rcases aF.mp z with z|z
      ·exact bp z
      ·exact nb z
    ·exact(rn (mu:=mu') C h1 h2).tup b ys (I.tup b ys (R.tup b ys (put.tup b ys e)))
    ·have T:b≠a:=by rintro rfl;rw[N]at e;cases e;cases A
     rw[dY T];exact I.frz b x w (R.frz b x w (put.frz b x w e))
    ·rcases aG.mp V with z|z
     ·rcases I.new b (mC1 _ z)with q|q
      ·rcases aF.mp q with q|q
       ·exact .inr (by rw[q];rw[dY f]at s;exact s)
       ·exact .inl q
      ·by_cases ao:b=p
       ·exact .inr (by rw[ao];rw[dY f]at s;exact s)
       ·rw[dY ao]at q;by_cases P:b=a
        ·exact .inl (by rw[P];exact gM1 G)
        ·rw[dY P]at q;exact .inr q
     ·have:b=p:=by simpa using z
      exact .inr (by rw[this];rw[dY f]at s;exact s)
   have tx:=rn (mu:=mu') C h1 h2;have am:Sim K (upd H' a u) mu' (L.set n x):=s'.thaw na tx (back _ _ ⟨D,y.tup,λb x w e=>y.frz b x _ e⟩ d4);have au:upd H' a u p=Z (.lst F):=by rw[dY f];exact W
   refine hc _ _ (mu'++[p]) (x1.trans y) (by rw[show L.length=(L.set n x).length by simp];exact .ref (fZ am.len p)) ⟨by rw[lA1,lA1,am.len];rfl,?_,λj w b h1 h2=>?_⟩
   ·rw[bB];refine⟨am.nd,by simp,λb hb c hc e=>?_⟩;have:c=p:=by simpa using hc
    subst this;subst e;exact U hb
   ·by_cases B:j<(L.set n x).length
    ·rw[gL1 B]at h1;rw[gL1 (by rw[am.len];exact B)]at h2;exact(am.ob j w b h1 h2).mor [p]
    ·have wq:j=(L.set n x).length:=by
      have:=(gE1.mp h1).1;rw[lA1]at this;simp at this B;simp;lia
     subst wq;rw[gR1 (nR1 _)]at h1;rw[<- am.len,gR1 (nR1 _)]at h2;simp at h1 h2;subst h1;subst h2;exact⟨F,au,((by simpa using aq:d0 K H' mu' ys F).exv tx).mor [p]⟩
  ·cases l
 |_=>cases l
theorem oe{X:Cx}{elt tg iter:Expr}{ifs:List Expr}{scope:dR}{pos:Pos}{T:List Str}{keep:List Nat}{k:List (Str×dE)}{m:FE}{g:FG}{t:FT}{e:FE}(hc:X.calm=M)(C:Fv X scope T keep)(f:i6 X.env.cells scope.names []=Z k)(hi:XE X iter m)(hb:∀s H b,HH (cxC X scope k T keep s H b) X.K tg ifs elt g t e)(hs:∀x,foldedSetIterable iter X.env x=pure x:=by intro _;rfl):XE X (.ListComp elt [⟨tg,iter,ifs,0⟩] scope pos) (lj T.length keep m g t (eI e)):=by
 refine⟨λag s σ H Q I h=>?_⟩;have r:=vh (g:=Dm X.K g) (ti:=yg X.K t) (emit:=o4 elt) (tb:=λp=>ro p (tM X.K e)) hc (λit i d=>tV elt tg iter ifs scope pos it i d) C f (DT (tg:=tg) hi.h) (λs H b p=>⟨(hb s H b).g.h,(hb s H b).t.h,pY (hb s H b).e.h p⟩) hs;refine wpAny_mono (r ag s σ H _ I (Al (λa E σ H q=>nA q) h)) ?_ λ_ _ x=>x;rintro v w ⟨x,H2,l,r2,a,o,u,j,y,n,q⟩;exact⟨x,upd H2 a u,sv l j n (λc z=>by cases z) (λc z=>by cases z) (l.hok a _ j).2,r2,q⟩
theorem uL.lt{xs:Array Nat}(h:uL xs){a b u v:Nat}(e:a<b)(c:xs[a]?=Z u)(d:xs[b]?=Z v):u<v:=by
 rw[<- aT1]at c d;obtain⟨f,c⟩:=gE1.mp c;obtain⟨g,d⟩:=gE1.mp d;have:=cw.mp h a b f g e;rw[c,d]at this;exact this
structure Bs (xs:Array Nat)(j i:Nat):Prop where
 le:i<=xs.size
 lo:∀k v,xs[k]?=some v->k<i->v<j
 hi:∀k v,xs[k]?=some v->i<=k->j<=v
theorem Bs.uniq{xs:Array Nat}{j i i':Nat}(h:Bs xs j i)(h':Bs xs j i'):i=i':=by
 rcases Nat.lt_trichotomy i i' with z|z|z
 ·have a:i<xs.size:=nL1 z h'.le;have e:=aG1 a;have:=h.hi _ _ e (nR1 _);have:=h'.lo _ _ e z;lia
 ·exact z
 ·have a:i'<xs.size:=nL1 z h.le;have e:=aG1 a;have:=h'.hi _ _ e (nR1 _);have:=h.lo _ _ e z;lia
theorem Aq{xs:Array Nat}{j:Nat}(hr:uL xs):∀n lo hi:Nat,lo<=hi->hi<=xs.size->hi-lo<=n->(∀k v,xs[k]?=Z v->k<lo->v<j)->(∀k v,xs[k]?=Z v->hi<=k->j<=v)->Bs xs j (SetTable.below.go xs j n lo hi)
 |0,lo,hi,h1,h2,i,a,c=>by
  have:lo=hi:=by lia
  subst this;exact⟨h2,a,c⟩
 |n + 1,lo,hi,h1,h2,i,a,c=>by
  rw[SetTable.below.go];by_cases d:lo<hi
  ·rw[ak d];have f:(lo+hi)/2<xs.size:=by lia
   have b:=aG1 f;have h:xs.getD ((lo+hi)/2) j=xs[(lo+hi)/2]:=by simp[Array.getD,f]
   dsimp only;rw[h];by_cases hc:xs[(lo+hi)/2]<j
   ·rw[ak hc];refine Aq hr n _ _ (by lia) h2 (by lia) (λk v e g=>?_) c;rcases bX k ((lo+hi)/2)with z|z
    ·have:=hr.lt z e b;lia
    ·have:k=(lo+hi)/2:=by lia
     subst this;rw[b]at e;cases e;exact hc
   ·rw[aj hc];refine Aq hr n _ _ (by lia) (by lia) (by lia) a λk v e g=>?_;rcases bX ((lo+hi)/2) k with z|z
    ·have:=hr.lt z b e;lia
    ·have:k=(lo+hi)/2:=by lia
     subst this;rw[b]at e;cases e;lia
  ·rw[aj d];have:lo=hi:=by lia
   subst this;exact⟨h2,a,c⟩
theorem nD{xs:Array Nat}(hr:uL xs)(j:Nat):Bs xs j (SetTable.below xs j):=
 Aq hr _ 0 _ (bi _) (nR1 _) (by lia) (λ_ _ _ h=>absurd h (bA _)) λk v e h=>by
  have:=(Array.getElem?_eq_some_iff.mp e).1;lia
theorem sy{α:Type}(xs:Array α)(p:Nat)(x:α):(SetTable.insertAt xs p x).toList=xs.toList.take p++x::xs.toList.drop p:=by
 unfold SetTable.insertAt;rw[cy,cA,cB,cB];simp[List.extract_eq_drop_take];rw[ca (by simp)]
theorem A1{xs:Array Nat}(hr:uL xs){j:Nat}(hn:xs[SetTable.below xs j]? ≠ Z j):uL (SetTable.insertAt xs (SetTable.below xs j) j):=by
 have b:=nD hr j;unfold uL;rw[sy,cC,cf];have lo:∀v∈xs.toList.take (SetTable.below xs j),v<j:=λv g=>by
  obtain⟨k,d⟩:=br g;rw[List.getElem?_take]at d;split at d
  ·rename_i h;exact b.lo k v (by rw[<- aT1];exact d) h
  ·cases d
 have hi:∀v∈xs.toList.drop (SetTable.below xs j),j<v:=λv g=>by
  obtain⟨k,d⟩:=br g;rw[cD,aT1]at d;have h1:=b.hi _ v d (bt _ _);rcases bX j v with z|z
  ·exact z
  ·exfalso;have f:v=j:=by lia
   subst f;cases k with
   |zero=>exact hn d
   |succ k=>
    have l:SetTable.below xs v<xs.size:=by have:=(Array.getElem?_eq_some_iff.mp d).1;lia
    have e:=aG1 l;have:=b.hi _ _ e (nR1 _);have:=hr.lt (by lia) e d;lia
 refine⟨hr.sublist (aT _ _),⟨hi,hr.sublist (cE _ _)⟩,λa i c hc=>?_⟩;rcases aF.mp hc with z|z
 ·rw[z];exact lo a i
 ·exact bh (lo a i) (hi c z)
structure TS (l:Bool)(t:SetTable):Prop where
 up:uL t.place
 du:t.dummies = #[]
 ld:t.led=l
theorem rX{t:SetTable}(hd:t.dummies = #[])(j:Nat):SetTable.has t.dummies j=J:=by rw[hd];rfl
theorem oi{t:SetTable}(hd:t.dummies = #[]){f:Nat->Int}{h:Int}:∀(n:Nat) (p:SetTable.Probe) (j:Nat) (d:Option Nat),p.dummy=Y->SetTable.probe.go t f h n p=Z (.empty j d)->d=Y/\t.place[SetTable.below t.place j]? ≠ Z j
 |0,p,j,d,_,e=>by rw[SetTable.probe.go]at e;cases e
 |n+1,p,j,d,hp,e=>by
  have a:(t.advance p).dummy=Y:=by
   unfold SetTable.advance;split
   ·exact hp
   ·dsimp only;exact hp
  rw[SetTable.probe.go]at e;unfold SetTable.slot at e;dsimp only at e;rw[rX hd]at e;by_cases hc:(t.place[SetTable.below t.place p.j]? == Z p.j)=M
  ·rw[ak hc]at e;dsimp only at e;split at e
   ·cases e
   ·exact oi hd n _ j d a e
  ·rw[aj hc,aj (by decide)]at e;dsimp only at e;cases e;refine⟨hp,λz=>hc ?_⟩;rw[z];simp
theorem Cd{t:SetTable}(hd:t.dummies = #[]){h:Int}{j:Nat}{b:Bool}(e:t.freeSlot h=Z (j,b)):t.place[SetTable.below t.place j]? ≠ Z j:=by
 unfold SetTable.freeSlot at e;split at e
 ·rename_i c d ep;obtain⟨rfl,a⟩:=oi hd _ _ _ _ O ep;cases e;exact a
 ·cases e
theorem jP{l:Bool}{t:SetTable}(h:TS l t)(n:Nat):TS l (t.standIn n):=by
 refine⟨?_,O,h.ld⟩;show(Array.range n).toList.Pairwise (· < ·);rw[Array.toList_range];exact cF
theorem Fy{l:Bool}{t:SetTable}(h:TS l t)(n:Nat):TS l (t.orStandIn n):=by
 unfold SetTable.orStandIn;split
 ·exact h
 ·exact jP h n
theorem Df{l:Bool}{t:SetTable}(ht:TS l t)(es:Array (Int×dB))(h:Int)(x:dB):TS l (layNew t es h x).2.1:=by
 unfold layNew;split
 ·rename_i j b e;show TS l ((t.put j).1.orStandIn _);refine Fy (t:=(t.put j).1) ⟨?_,?_,ht.ld⟩ _
  ·exact A1 ht.up (Cd ht.du e)
  ·show(if SetTable.has t.dummies j=M then _ else t.dummies) = #[];rw[rX ht.du,aj (by decide)];exact ht.du
 ·exact jP ht _
theorem qu{α:Type}(f:Nat->Option α):∀l:List Nat,((l.filterMap λj=>(f j).map (j,·)).map (·.1)).Sublist l
 |[]=>.slnil
 |a::l=>by
  rw[aE];cases f a with
  |none=>exact(qu f l).cons a
  |some x=>exact(qu f l).cons₂ a
theorem AU{l p:Bool}{m d c:Nat}{hs:Array Int}{t:SetTable}{a:Array Nat}(e:SetTable.laid m d c l p hs=Z (t,a)):TS l t:=by
 unfold SetTable.laid at e;obtain⟨b,_,e⟩:=oB1.mp e;cases e;refine⟨?_,O,O⟩;unfold uL;dsimp only;exact List.pairwise_lt_range.sublist (by simpa using qu (λj=>b.getD j Y) (af (m+1)))
theorem x4{l:Bool}{t:SetTable}(ht:TS l t)(es:Array (Int×dB))(n:Nat):TS l (relayAll t es n).2.1:=by
 unfold relayAll;split
 ·rename_i b a e;dsimp only;split
  ·have:=AU e;rw[ht.ld]at this;exact this
  ·exact jP ht _
 ·exact jP ht _
theorem x5(l:Bool):TS l (SetTable.fresh 0 0 l):=⟨List.Pairwise.nil,O,O⟩
theorem Cq{xs:Array Nat}(hr:uL xs){i:Nat}(hi:i<xs.size):SetTable.below xs (xs[i]+1)=i+1:=by
 refine(nD hr _).uniq ⟨hi,λk v e a=>?_,λk v e a=>?_⟩
 ·rcases bX k i with z|z
  ·have:=hr.lt z e (aG1 hi);lia
  ·have:k=i:=by lia
   subst this;rw[aG1 hi]at e;cases e;lia
 ·have:=hr.lt (show i<k by lia) (aG1 hi) e;lia
theorem Ap{xs:Array Nat}(hr:uL xs):SetTable.below xs 0=0:=
 (nD hr _).uniq ⟨bi _,λk v e a=>absurd a (bA _),λk v e a=>bi _⟩
noncomputable def Iu(e:Int×dB):Int:=match e.2 with
 | .int k _=>k
 |_=>0
structure Els (es:Array (Int×dB))(ns:List Int):Prop where
 el:∀e∈es.toList,∃k t,e=(hashInt k,Value.int k t)
 pm:(es.toList.map Iu).Perm ns
theorem Els.of{P:dF}{w:dH}{es:Array (Int×dB)}{ns:List Int}(h:Els es ns):ElemsOf (intKind P w) es.toList:=λe a=>by
 obtain⟨k,t,rfl⟩:=h.el e a;exact⟨⟨k,intKind_is _ _ _ _,O⟩,O⟩
theorem Els.size{es:Array (Int×dB)}{ns:List Int}(h:Els es ns):es.size=ns.length:=by
 have:=h.pm.length_eq;rw[lM1,aJ]at this;exact this
theorem Els.perm{es fs:Array (Int×dB)}{ns:List Int}(h:Els es ns)(p:fs.toList.Perm es.toList):Els fs ns:=
 ⟨λe a=>h.el e (p.mem_iff.mp a),(p.map _).trans h.pm⟩
theorem Els.add{es fs:Array (Int×dB)}{ns:List Int}(h:Els es ns){k:Int}{t:Tok}(p:fs.toList.Perm (es.push (hashInt k,.int k t)).toList):Els fs (ns++[k]):=by
 rw[cA]at p;refine⟨λe a=>?_,?_⟩
 ·rcases aG.mp (p.mem_iff.mp a)with z|z
  ·exact h.el e z
  ·simp at z;exact⟨k,t,z⟩
 ·refine(p.map _).trans ?_;rw[cG];exact h.pm.append (.refl _)
def jf(b:Bool)(p:dE)(ns:List Int)(h:dN):Prop:=∃es ep t l,h.get? p=Z (stO es ep t)/\Els es ns/\es.size<scanBound/\t.fits es.size=M/\TS l t/\(b=J->l=M)
section
variable{P:dF}{w:dH}{A:dG}{E:dB->dD->Prop}{s:dD}{b:Bool}{p:dE}{ns:List Int}
theorem yE{es fs:Array (Int×dB)}{ep:Nat}{t u:SetTable}{h:dN}(e:h.get? p=Z (stO es ep t)):(h.update p (Obj.putSet fs u)).get? p=Z (stO fs (ep+1) u):=by
 have:=hW1 (Obj.putSet fs u) e (by rw[putSet_of fs u O];rfl);rw[putSet_of fs u O]at this;exact this
theorem gw{c:Bool}{Q:Unit->dD->Prop}(q:Q () s):dM (model P w) A (match c with
  |true=>rule "set.scan.the-table-gave-way"
  |false=>pure ()) Q E s:=by cases c<;>first|exact wP1 q|exact wpAny_rule q
theorem IF{k:Int}{tk:Tok}{Q:Bool->dD->Prop}(X:jf b p ns s.heap)(hr:ns.length+1<scanBound)(q:∀c h',Heap.SameBut p s.heap h'->jf b p (step_dedup ns k) h'->Q c {s with heap:=h'}):dM (model P w) A (setAddHashed p (.int k tk) (hashInt k)) Q E s:=by
 obtain⟨es,ep,t,l,i,a,R,C,au,D⟩:=X;have hz:=a.size;have V:ElemsOf (intKind P w) es.toList:=a.of;unfold setAddHashed setAddHashedIn;refine wpAny_holding (wB1 (wpAny_setState_of i O C ?_));dsimp only;rw[byScan_of (knd:=intKind P w) O R V,ak O];unfold setAddByScan;refine wB1 (wB1 (wpAny_rule (wB1 (wpAny_setScan_of (knd:=intKind P w) (k:=k) (intKind_is _ _ _ _) i O C V ?_))));cases hx:List.findIdx? (λe=>(intKind P w).is k e.2) es.toList with
 |some j=>
  obtain⟨ao,g,_⟩:=b8.mp hx;have G:k∈ns:=by
   refine a.pm.mem_iff.mp (ci.mpr ⟨_,bU ao,?_⟩);obtain⟨k',aq,e⟩:=a.el _ (bU ao);rw[e]at g ⊢;exact((intKind P w).inj _ _ _ g (intKind_is P w k' aq)).symm
  have I:step_dedup ns k=ns:=by unfold step_dedup;rw[ak (bT.mpr ⟨k,G,by simp⟩)]
  rw[I]at q;exact wP1 (wP1 (q _ s.heap (Heap.SameBut.refl p s.heap) ⟨es,ep,t,l,i,a,R,C,au,D⟩))
 |none=>
  have I:step_dedup ns k=ns++[k]:=by
   unfold step_dedup;rw[aj λz=>?_];obtain⟨k',G,e⟩:=bT.mp z;have e:=beq_iff_eq.mp e;subst e;obtain⟨x,m,d⟩:=ci.mp (a.pm.mem_iff.mpr G);obtain⟨o,h,rfl⟩:=a.el x m;have d:o=k':=d;subst d;have:=List.findIdx?_eq_none_iff.mp hx _ m;rw[show(intKind P w).is o (hashInt o,Value.int o h).2=M from intKind_is _ _ _ _]at this;cases this
  rw[I]at q;have am:=layNew_perm t es (hashInt k) (.int k tk);have F:=layNew_fits t es (hashInt k) (.int k tk);have y:=Df au es (hashInt k) (.int k tk);dsimp only;generalize layNew t es (hashInt k) (.int k tk)=L at am F y ⊢;obtain⟨fs,u,wq,gv⟩:=L;dsimp only at am F y ⊢;have n:Els fs (ns++[k]):=a.add am;have K:fs.size<scanBound:=by rw[n.size,lA1];exact hr
  refine wB1 (gw ?_);have tail:∀ (c:Bool),dM (model P w) A (do
    storeSet p fs u
    if (!wq&&u.tooFull)=true then do
      (match (relayAll u fs (SetTable.grown fs.size)).2.2 with
       |true=>rule "set.scan.the-table-gave-way"
       |false=>pure ())
      storeSet p (relayAll u fs (SetTable.grown fs.size)).1 (relayAll u fs (SetTable.grown fs.size)).2.1
      pure (Z M)
     else pure (Z M)) (λr s'=>dM (model P w) A (match r with
      |some f=>pure f
      |none=>setAddHashedIn p (.int k tk) (hashInt k) 99999) Q E s') E s:=λ_=>by
   refine wB1 (wpAny_storeSet_of i O ?_ (fits_of_scanBound K));have B:=yE (fs:=fs) (u:=u) i;have T:=Heap.SameBut.update s.heap p (Obj.putSet fs u);split
   ·have p2:=relayAll_perm u fs (SetTable.grown fs.size);have H:=relayAll_fits u fs (SetTable.grown fs.size);have h:=x4 y fs (SetTable.grown fs.size);generalize relayAll u fs (SetTable.grown fs.size)=L2 at p2 H h ⊢;obtain⟨N,v,W⟩:=L2;dsimp only at p2 H h ⊢;have U:=n.perm p2;have S:N.size<scanBound:=by rw[U.size,<- n.size];exact K
    refine wB1 (gw (wB1 (wpAny_storeSet_of B O ?_ (fits_of_scanBound S))));exact wP1 (wP1 (q _ _ (T.trans (Heap.SameBut.update _ p _)) ⟨N,_,v,l,yE B,U,S,H,h,D⟩))
   ·exact wP1 (wP1 (q _ _ T ⟨fs,_,u,l,B,n,K,F,y,D⟩))
  split
  ·refine wB1 (wP1 ?_);exact tail M
  ·refine wB1 (wP1 ?_);exact tail M
end
section
variable{P:dF}{w:dH}{A:dG}{E:dB->dD->Prop}{s:dD}
noncomputable def byT(w:dH):Bool:=w.params.followText "set-order"
theorem Bv(x:dB){G:dB->dD->Prop}(q:G (.ref s.heap.objs.size) {s with heap:=s.heap.push (stO #[] 0 (.fresh 0 0 (!byT w)))}):
  codeAny (model P w) A (.call (.builtin "set.__new__") ⟨[.type "set",x],[]⟩) (wants G E) s:=by
 refine codeAny_of_tree (?_:dM _ A.in1 (do checkBuiltinCall "set.__new__" ⟨[.type "set",x],[]⟩;again (.builtin "set.__new__" ⟨[.type "set",x],[]⟩)) _ _ s);refine wB1 (wpAny_of_eq (PySem.F.newCall_set_1 x) (wP1 ⟨plainId_quiet PySem.F.plain_set_new _,wD1 PySem.F.entry_set_new (?_:_)⟩));rw[Around.under_plainId PySem.F.plain_set_new _];unfold Builtin.«set.__new__» Builtin.Frozenset.newClass;have a:=sub_set_self;obtain⟨c,g,d,tk,b⟩:=s;dsimp only
 wp_walk
 refine wpAny_askSetting (wP1 (?_:_));dsimp only;simp only[newObj];exact wB1 (wpAny_alloc (wP1 (wP1 q)))
set_option maxHeartbeats 3200000 in
theorem uH {l:dE}{its:Array dB}{Q:dB->dD->Prop}(z:s.heap.IsList l its)
  (g:∀h:dG,h.handled=A.handled->h.units<=A.units+2 -> ∀R:Result->dD->Prop,(∀s',Q (.ref s.heap.objs.size) s'->R (.ok (.ret .none)) s') ->
   codeAny (model P w) h (.builtin "set.update.loop" ⟨[.ref s.heap.objs.size,.ref (s.heap.objs.size+1)],[]⟩) R {s with heap:=(s.heap.push (stO #[] 0 (.fresh 0 0 (!byT w)))).push {cls:=.type "list_iterator",data:=.fields #[.ref l,.int 0 0]}}):
  dM (model P w) A (call (.type "set") [.ref l]) Q E s:=by
 obtain⟨T,W,m⟩:=PySem.F.called_set.mro;have j:=PySem.F.called_set.made;have o:=PySem.F.called_set.sub
 refine wpAny_call (codeAny_of_tree (?_:dM _ _ (callAny (.type "set") _) _ _ _));refine wP1 ⟨Code.quiet_builtin _ (by decide+kernel),wD1 PySem.F.entry_type_call (?_:_)⟩;rw[Around.under_plain (weight_type_call_type "set" [.ref l] []) O];have X:=PySem.F.called_set.notType;have L:=PySem.F.called_set.canCreate;have K:=PySem.F.typeCall_set_1 (.ref l)
 repeat(any_goals (first|wp_step|assumption))
 refine codeAny_mono (Bv (.ref l) (E:=E) (G:=λx p=>x = .ref s.heap.objs.size/\p={s with heap:=s.heap.push (stO #[] 0 (.fresh 0 0 (!byT w)))}) ⟨O,O⟩) λr p i=>?_;cases r with
 |error e=>exact i
 |ok I=>
  cases I with
  |ret x=>
   obtain⟨rfl,rfl⟩:=i;have n:(s.heap.push (stO #[] 0 (.fresh 0 0 (!byT w)))).get? s.heap.objs.size=Z (stO #[] 0 (.fresh 0 0 (!byT w))):=hS1 _ O;have u:Shared.TypeIs {s with heap:=s.heap.push (stO #[] 0 (.fresh 0 0 (!byT w)))} (.ref s.heap.objs.size) "set":=⟨_,n,O⟩;have S:=PySem.F.called_set.init.lookup;have au:=PySem.F.called_set.init.bind (.ref s.heap.objs.size)
   repeat(any_goals (first|wp_step|assumption))
   refine codeAny_mono (codeAny_call_builtin (R:=wants (λr k=>r = .none/\Q (.ref s.heap.objs.size) k) E) PySem.F.called_set.init.plain PySem.F.entry_set_init (check_set_init_1 u (?_:_))) λr2 k a=>?_
   ·obtain⟨B,f,b,t,c⟩:=z;obtain⟨V,v,am,F⟩:=B;simp only at b c;subst b;subst c;have H:(s.heap.push (stO #[] 0 (.fresh 0 0 (!byT w)))).get? l=Z {cls:=.type "list",dict:=v,data:=.seq its t,slots:=F}:=hP1 _ f;have U:=PySem.F.sub_list_set;have N:=PySem.F.sub_list_frozenset;have ao:(Value.type "list" == Value.type "dict")=J:=by decide
    have y:(s.heap.push (stO #[] 0 (.fresh 0 0 (!byT w)))).IsList l its:=⟨_,H,O,t,O⟩;have D:(s.heap.push (stO #[] 0 (.fresh 0 0 (!byT w)))).get? s.heap.objs.size=Z {cls:=.type "set",dict:=Y,data:=.set #[] 0 (.fresh 0 0 (!byT w)),slots:= #[]}:=n;unfold Builtin.«set.__init__» noKeywords Builtin.Frozenset.updateFrom;generalize d:pyIter=PI
    wp_walk
    subst d;refine wpAny_pyIter_list y (wB1 (wpAny_runValue (?_:_)));dsimp only;rw[show(s.heap.push (stO #[] 0 (.fresh 0 0 (!byT w)))).objs.size=s.heap.objs.size+1 from by rw[hZ1]];refine g A.in1.in1 (by simp) (nR1 _) _ λs' q=>?_;exact wP1 (wP1 ⟨O,q⟩)
   ·cases r2 with
    |error e=>exact a
    |ok C=>
     cases C with
     |ret r=>
      obtain⟨rfl,q⟩:=a
      repeat(any_goals (first|wp_step|assumption))
     |_=>exact a.elim
  |_=>exact i.elim
theorem xr {l:dE}{its:Array dB}{Q:dB->dD->Prop}(c:s.heap.IsList l its)
  (b:∀a:dG,a.handled=A.handled -> ∀R:Result->dD->Prop,(∀s',Q (.ref s.heap.objs.size) s'->R (.ok (.ret .none)) s') ->
   codeAny (model P w) a (.builtin "set.update.loop" ⟨[.ref s.heap.objs.size,.ref (s.heap.objs.size+1)],[]⟩) R {s with heap:=(s.heap.push (stO #[] 0 (.fresh 0 0 (!byT w)))).push {cls:=.type "list_iterator",data:=.fields #[.ref l,.int 0 0]}}):
  dM (model P w) A (call (.type "set") [.ref l]) Q E s:=uH c λa h _=>b a h
end
section
variable{P:dF}{w:dH}{A:dG}{E:dB->dD->Prop}{b:Bool}
theorem jf.old{p:dE}{ns:List Int}{h h':dN}(x:jf b p ns h)(k:∀o,h.get? p=Z o->h'.get? p=Z o):jf b p ns h':=by
 obtain⟨es,ep,t,l,e,r⟩:=x;exact⟨es,ep,t,l,k _ e,r⟩
theorem nq:∀(ns acc:List Int),(ns.foldl step_dedup acc).length<=acc.length+ns.length
 |[],acc=>by simp
 |n::ns,acc=>by
  rw[cb];have h1:=nq ns (step_dedup acc n);have h2:(step_dedup acc n).length<=acc.length+1:=by unfold step_dedup;split<;>simp
  rw[lC1];lia
theorem yr{p l it:dE}{its:Array dB}{ns:List Int}{R:Result->dD->Prop}(L:A.handled=none)(x:IntsAre its.toList ns)(hb:ns.length+1<scanBound)(ao:p≠l)(m:p≠it)(E:it≠l):
  ∀(k i:Nat) (s:dD),its.size-i=k->i<=its.size->s.heap.IsListIter it l i->s.heap.IsList l its->jf b p ((ns.take i).foldl step_dedup []) s.heap ->
  (∀h' tk,(∀c o,c≠p->c≠it->s.heap.get? c=Z o->h'.get? c=Z o)->jf b p (ddI ns) h'->R (.ok (.ret .none)) {s with heap:=h',toks:=tk})->codeAny (model P w) A (.builtin "set.update.loop" ⟨[.ref p,.ref it],[]⟩) R s:=by
 have a:its.size=ns.length:=by rw[<- aJ];exact x.length
 intro k
 induction k with
 |zero=>
  intro i s H hi st h u q;have e:i=its.size:=by lia
  subst e;refine wD1 PyProof.Rows.F.entry_set_update_loop (?_:_);rw[Around.under_plainId PyProof.Rows.F.plain_set_update_loop _];show dM _ A.in1 (pyNext (.ref it) >>= _) _ _ s;refine wB1 (wpAny_pyNext_list_end (by simpa using L) st h (by simp) λh' D=>wP1 ?_);refine q h' s.toks (λc o _ hc e=>D c o hc e) ?_;have:=u.old (h':=h') λo e=>D p o m e;rw[a,b4]at this;exact this
 |succ k ih=>
  intro i s H hi st h u q;have g:i<its.size:=by lia
  have y:=aG1 g;obtain⟨t,G⟩:=PyProof.Rows.IntsAre.int_at x i its[i] (by rw[aT1];exact y);refine wD1 PyProof.Rows.F.entry_set_update_loop (?_:_);rw[Around.under_plainId PyProof.Rows.F.plain_set_update_loop _];show dM _ A.in1 (pyNext (.ref it) >>= _) _ _ s;refine wB1 (wpAny_pyNext_list_item st h y λh' st' z=>?_);rw[G];show dM _ A.in1 (holding [Value.int (ns.getD i 0) t] (setAdd p (.int (ns.getD i 0) t)) >>= _) _ _ _;refine wB1 (wpAny_holding ?_);unfold setAdd;refine wpAny_holding (wB1 (wpAny_pyHash_int ?_));have v:jf b p ((ns.take i).foldl step_dedup []) h':=u.old λo e=>by rw[z.2 p m];exact e
  have j:=nq (ns.take i) [];refine IF (s:={s with heap:=h',toks:=s.toks+1}) (k:=ns.getD i 0) v (by rw[aQ,bf]at j;lia) λc h2 f d=>?_;have I:ns[i]?=Z (ns.getD i 0):=by rw[gG1 (by lia)];simp[List.getD,show i<ns.length by lia]
  have am:step_dedup ((ns.take i).foldl step_dedup []) (ns.getD i 0)=(ns.take (i+1)).foldl step_dedup []:=by
   rw[cH,I,List.foldl_append];rfl
  rw[am]at d;have C:∀c o,c≠p->c≠it->s.heap.get? c=Z o->h2.get? c=Z o:=λc o h1 n e=>by rw[f.2 c h1];show h'.get? c=_;rw[z.2 c n];exact e
  have keepIt:∀o,h'.get? it=Z o->h2.get? it=Z o:=λo e=>by rw[f.2 it (Ne.symm m)];exact e
  refine wP1 ⟨plainId_quiet PyProof.Rows.F.plain_set_update_loop _,ih (i+1) {s with heap:=h2,toks:=s.toks+1} (by lia) g (st'.at keepIt) ?_ d λn tk F K=>?_⟩
  ·obtain⟨o,e,r⟩:=h;exact⟨o,C l o (Ne.symm ao) (Ne.symm E) e,r⟩
  ·exact q n tk (λc o h1 B e=>F c o h1 B (C c o h1 B e)) K
theorem xt{s:dD}{l:dE}{its:Array dB}{ns:List Int}{Q:dB->dD->Prop}(i:A.handled=Y)(d:s.heap.IsList l its)(j:IntsAre its.toList ns)(hb:ns.length+1<scanBound)(q:∀h' tk,(∀c o,s.heap.get? c=Z o->h'.get? c=Z o)->jf (byT w) s.heap.objs.size (ddI ns) h'->Q (.ref s.heap.objs.size) {s with heap:=h',toks:=tk}):dM (model P w) A (call (.type "set") [.ref l]) Q E s:=by
 have a:l<s.heap.objs.size:=by obtain⟨o,e,_⟩:=d;exact hL1 e
 refine xr d λt m R f=>?_;have g:(s.heap.push (stO #[] 0 (.fresh 0 0 (!byT w)))).objs.size=s.heap.objs.size+1:=by rw[hZ1]
 have p:(s.heap.push (stO #[] 0 (.fresh 0 0 (!byT w)))).get? s.heap.objs.size=Z (stO #[] 0 (.fresh 0 0 (!byT w))):=hS1 _ O;refine yr (its:=its) (ns:=ns) (b:=byT w) (m.trans i) j hb (nG1 a) (nN1 (bE _)) (nG1 (cI a)) _ 0 _ O (bi _) ?_ ?_ ?_ λh' tk k x=>f _ (q h' tk (λc o e=>k c o (nN1 (hL1 e)) (nN1 (cI (hL1 e))) (hP1 _ (hP1 _ e))) x)
 ·refine⟨{cls:=.type "list_iterator",data:=.fields #[.ref l,.int 0 0]},?_,O,O⟩;have this:((s.heap.push (stO #[] 0 (.fresh 0 0 (!byT w)))).push {cls:=.type "list_iterator",data:=.fields #[.ref l,.int 0 0]}).get? (s.heap.push (stO #[] 0 (.fresh 0 0 (!byT w)))).objs.size=Z {cls:=.type "list_iterator",data:=.fields #[.ref l,.int 0 0]}:=hS1 _ O;rw[g]at this;exact this
 ·obtain⟨o,e,r⟩:=d;exact⟨o,hP1 _ (hP1 _ e),r⟩
 ·refine⟨#[],0,_,!byT w,hP1 _ p,⟨λe n=>by simp at n,.refl _⟩,by decide,O,x5 _,λh=>by rw[h];rfl⟩
end
theorem iP:Slot "set_iterator" "__next__" "set_iterator.__next__":=
 .of (owner:="set_iterator") (n:="__next__") (by rw[typeLookup_type,builtinLookup_eq_fast];kernel_rfl) (by decide+kernel) (by decide+kernel) (by decide+kernel) (by first|exact .inl (by decide+kernel)|exact .inr (by decide+kernel)) (by rw[isSubtype_type];kernel_rfl)
theorem oY:entryFor table "set_iterator.__next__"=Z Builtin.«set_iterator.__next__» :=entryFor_of_tree (by kernel_rfl)
theorem s9(x:dB):argsOk "set_iterator.__next__" ⟨[x],[]⟩:=by unfold argsOk;kernel_rfl
theorem sK:entryFor table "set.__iter__"=Z Builtin.«frozenset.__iter__» :=entryFor_alias (id':="frozenset.__iter__") (by kernel_rfl) O (by decide+kernel) (by kernel_rfl)
abbrev Fm(h:dN)(it a:dE)(f:dB)(i n ep:Nat):Prop:=h.get? it=Z {cls:=.type "set_iterator",dict:=Y,data:=.fields #[f,.int i 0,.ref a,.int n 0,.int ep 0],slots:= #[]}
noncomputable def kY(t:SetTable)(i:Nat):Nat:=match i with
 |0=>0
 |i+1=>t.place.getD i 0+1
inductive tf (w:dH)(h:dN)(a:dE)(es:Array (Int×dB))(ep:Nat)(t:SetTable):dB->Nat->List dB->Prop
 |txt (b:byT w=true) (i:Nat) (sl:Nat):tf w h a es ep t (.int sl 0) i ((pickOrder (w.params.setOrder a ep) es).toList.map (·.2))
 |drw (b:byT w=false) (d:(!t.plain&&decide (es.size>1))=true) (i:Nat) (tp:dE) (ps:List Nat) (e:h.get? tp=some {cls:=.type "tuple",data:=.seq (ps.map λj=>Value.int (j:Nat) 0).toArray}) (pm:ps.Perm (af es.size)):tf w h a es ep t (.ref tp) i (ps.map λj=>(es[j]?.map (·.2)).getD .none)
 |plc (b:byT w=false) (d:(!t.plain&&decide (es.size>1))=false) (ld:t.led=true) (up:uL t.place) (i:Nat):tf w h a es ep t (.int (kY t i) 0) i (es.toList.map (·.2))
theorem ox{α:Type}(f:Nat->Nat):∀(n k:Nat) (l:List α) (out:Array α),l.length=n->(pickOrder.go f n k l out).toList.Perm (out.toList++l)
 |0,k,l,out,h=>by
  rw[pickOrder.go,cu.mp h,aM]
 |n+1,k,l,out,h=>by
  have b:f k%l.length<l.length:=Nat.mod_lt _ (by lia);rw[pickOrder.go,gG1 b];refine(ox f n (k+1) _ _ (by rw[cJ b];lia)).trans ?_;rw[cA,bI];refine List.Perm.append_left _ ?_;have c:l=l.take (f k%l.length)++l[f k%l.length]::l.drop (f k%l.length+1):=by rw[List.getElem_cons_drop,cK]
  rw[cM];refine List.Perm.trans ?_ (List.Perm.of_eq c.symm);exact(List.perm_middle (l₁:=l.take (f k%l.length)) (l₂:=l.drop (f k%l.length+1)) (a:=l[f k%l.length])).symm
theorem tf.perm{w:dH}{h:dN}{a:dE}{es:Array (Int×dB)}{ep:Nat}{t:SetTable}{f:dB}{i:Nat}{pl:List dB}(y:tf w h a es ep t f i pl):pl.Perm (es.toList.map (·.2)):=by
 cases y with
 |txt=>exact(ox _ _ _ _ _ O).map _
 |drw _ _ _ d ps e c=>
  refine(c.map _).trans ?_;have:(af es.size).map (λj=>(es[j]?.map (·.2)).getD .none)=es.toList.map (·.2):=by
   apply b5;intro j;rw[gP1,gP1,aT1 (xs:=es)];by_cases b:j<es.size
   ·rw[cN b,oP1,aG1 b];rfl
   ·rw[b6 (by simpa using b),cv (by lia)];rfl
  rw[this]
 |plc=>exact .refl _
theorem tf.len{w:dH}{h:dN}{a:dE}{es:Array (Int×dB)}{ep:Nat}{t:SetTable}{f:dB}{i:Nat}{pl:List dB}(y:tf w h a es ep t f i pl):pl.length=es.size:=by
 rw[y.perm.length_eq,lM1,aJ]
section
variable{P:dF}{w:dH}{A:dG}{E:dB->dD->Prop}{s:dD}{it a:dE}{f:dB}{i ep:Nat}{es:Array (Int×dB)}{t:SetTable}{pl:List dB}
theorem pG{Q:Bool->dD->Prop}(q:Q (byT w) s):dM (model P w) A setsByText Q E s:=by unfold setsByText;exact wB1 (wpAny_askSetting (wP1 q))
theorem yo{sl:Nat}{Q:Option (dB×Nat)->dD->Prop}(b:byT w=M)(ho:s.heap.get? a=Z (stO es ep t))(hf:t.fits es.size=M)(q:Q (((pickOrder (w.params.setOrder a ep) es)[i]?).map λe=>(e.2,sl)) s):dM (model P w) A (setNext a sl i ep) Q E s:=by
 unfold setNext;refine wB1 (wpAny_setState_of ho O hf (wB1 (pG ?_)));rw[b,ak O,aj (by simp)];refine wB1 ?_;unfold setWalk;refine wB1 (wpAny_setState_of ho O hf (wB1 (pG ?_)));rw[b,ak O];exact wB1 (wpAny_askSetting (wP1 (wP1 q)))
theorem Cr(b:uL t.place)(hi:i<=t.place.size):SetTable.below t.place (kY t i)=i:=by
 cases i with
 |zero=>exact Ap b
 |succ j=>
  have a:j<t.place.size:=hi;show SetTable.below t.place (t.place.getD j 0+1)=j+1;rw[show t.place.getD j 0=t.place[j]from by simp[Array.getD,a]];exact Cq b a
theorem yp{Q:Option (dB×Nat)->dD->Prop}(b:byT w=J)(d:(!t.plain&&decide (es.size>1))=J)(g:t.led=M)(h:uL t.place)(ho:s.heap.get? a=Z (stO es ep t))(hf:t.fits es.size=M)(hi:i<=es.size)(q:Q ((es[i]?).map λe=>(e.2,kY t (i+1))) s):dM (model P w) A (setNext a (kY t i) i ep) Q E s:=by
 have k:t.place.size=es.size:=by
  unfold SetTable.fits at hf;rw[bA1,beq_iff_eq]at hf;exact hf.1
 unfold setNext;refine wB1 (wpAny_setState_of ho O hf (wB1 (pG ?_)));rw[b,aj (by decide)];rw[aj (λz=>by have f:(!t.plain&&decide (es.size>1))=M:=z;rw[d]at f;cases f)];refine wB1 ?_;show dM _ _ (if(!t.led && !es.isEmpty)=M then _ else _) _ _ _;rw[aj (by rw[g];simp)];refine wP1 ?_;dsimp only;rw[Cr h (by omega)];by_cases c:i<es.size
 ·rw [aG1 c] at q ⊢;rw [aG1 (show i<t.place.size by omega)];have j:kY t (i+1)=t.place[i]+1:=by
   show t.place.getD i 0+1=_;rw[show t.place.getD i 0=t.place[i]from by simp[Array.getD,show i<t.place.size by omega]]
  rw[j]at q;exact wP1 q
 ·rw[cv (by omega)]at q ⊢;exact wP1 q
theorem AN{Q:Option dB->dD->Prop}(k:Fm s.heap it a f i es.size ep)(ho:s.heap.get? a=Z (stO es ep t))(hf:t.fits es.size=M)(y:tf w s.heap a es ep t f i pl){x:dB}(hx:pl[i]? = Z x)(N:∀ g,f = .ref g->g≠it)(q:∀h' h,Fm h' it a h (i+1) es.size ep->(∀c o,c≠it->s.heap.get? c=Z o->h'.get? c=Z o)->tf w h' a es ep t h (i+1) pl->(∀g,h = .ref g->f = .ref g)->Q (Z x) {s with heap:=h'}):dM (model P w) A (pyNext (.ref it)) Q E s:=by
 have H:s.TypeIs (.ref it) "set_iterator":=⟨_,k,O⟩;unfold pyNext;refine wB1 (wpAny_attempt (wpAny_callSpecial?_slot (name:=Str.ofString "__next__") H iP (wE1 iP H oY ?_ (s9 _))));refine wB1 (wP1 (wB1 (wpAny_fieldsOf k O ?_)));dsimp only;refine wB1 (wpAny_setEntries_of ho O hf ?_);rw[aj (by simp)];have R:i<es.size:=by have:=(gE1.mp hx).1;rw[y.len]at this;exact this
 have two:∀ (h:dB),(∀ g,h = .ref g->f = .ref g)->(∀ h',(∀ c o,c≠it->s.heap.get? c=some o->h'.get? c=some o)->tf w h' a es ep t h (i+1) pl) ->
   dM (model P w) A.in1 (setField (.ref it) 0 h >>= fun _=>setField (.ref it) 1 (rawInt ((i:Int)+1)) >>= fun _=>ret x) (fun B s'=>∃ v,B=Fin.done (Flow.ret v)/\dM (model P w) A (pure (some v)) Q E s') (fun e s'=>dM (model P w) A (do
     let y<-isInstance e (.type "StopIteration")
     if y=M then pure Y else throw e) Q E s') s:=λh ao L=>by
  refine wB1 (wS1 k (by simp) λh1 au p=>wB1 (wS1 (s:={s with heap:=h1}) au (by simp) λh2 r l=>wP1 ⟨_,O,wP1 ?_⟩));have m:∀c o,c≠it->s.heap.get? c=Z o->h2.get? c=Z o:=λc o hc e=>l.extBut c o hc (p.extBut c o hc e);refine q h2 h ?_ m (L h2 m) ao;have e:((i+1:Nat):Int)=(i:Int)+1:=by lia
  unfold Fm;rw[e];simpa[rawInt]using r
 cases y with
 |txt b _ D=>
  refine wB1 (yo (i:=i) (sl:=D) (ep:=ep) b ho hf ?_);rw[gP1,aT1]at hx;obtain⟨e,C,rfl⟩:=oM1.mp hx;rw[C];exact two (.int D 0) (λg z=>by cases z) λh' _=>.txt b _ D
 |plc b d G am _=>
  refine wB1 (yp (i:=i) b d G am ho hf (by lia) ?_);rw[gP1,aT1]at hx;obtain⟨e,C,rfl⟩:=oM1.mp hx;rw[C];exact two (.int (kY t (i+1)) 0) (λg z=>by cases z) λh' _=>.plc b d G am _
 |drw b d _ g ps e K=>
  rw[gP1]at hx;obtain⟨j,F,rfl⟩:=oM1.mp hx;have n:j<es.size:=by have:=K.mem_iff.mp (gM1 F);simpa using this
  refine wB1 (wpAny_seqItems e O ?_);have u:((ps.map λj=>Value.int (j:Nat) 0).toArray)[((i:Int)).toNat]?=Z (.int (j:Nat) 0):=by
   rw[Int.toNat_natCast,cm,gP1,F];rfl
  dsimp only;rw[u];dsimp only;refine wB1 ?_;unfold setNextDrawn;refine wB1 (wpAny_setState_of ho O hf ?_);dsimp only;rw[aj (by simp),Int.toNat_natCast,aG1 n];refine wP1 (wB1 (wS1 k (by simp) λh2 r l=>wP1 ⟨_,O,wP1 ?_⟩));have m:∀c o,c≠it->s.heap.get? c=Z o->h2.get? c=Z o:=λc o hc e=>l.extBut c o hc e;have I:=q h2 (.ref g) ?_ m (.drw b d _ g ps (m g _ (N g O) e) K) λ_ z=>z
  ·rw[aG1 n]at I;exact I
  ·have e:((i+1:Nat):Int)=(i:Int)+1:=by lia
   unfold Fm;rw[e];simpa[rawInt]using r
theorem tX{Q:Option dB->dD->Prop}{G:Fin->dD->Prop}(d:A.handled=none)(q:∀ h',(∀ c o,s.heap.get? c=some o->h'.get? c=some o)->Q none {s with heap:=h'}):
  dM (model P w) A.in1 (newExc (.type "StopIteration") [] >>= fun e=>raiseNew e) G (fun e s'=>dM (model P w) A (do
     let y<-isInstance e (.type "StopIteration")
     if y=M then pure Y else throw e) Q E s') s:=by
 refine wB1 ?_;simp only[newExc,newTuple];refine wB1 (wO1 ?_ (by size_fits));refine wB1 (m:=firstArgMember _ _) (wpAny_of_eq (a:=Value.none) (by first|rfl|(simp only[firstArgMember];rfl)) ?_);refine wO1 ?_ (by size_fits);simp only[raiseNew];refine wB1 (wpAny_handled ?_);rw[show A.in1.handled=Y from d];refine wB1 (wP1 (wpAny_throw (?_:_)));refine wB1 (wpAny_isInstance (b:=M) (T:="StopIteration") ⟨_,hS1 _ O,O⟩ isSubtype_stop (?_:_));exact wP1 (q _ λb o e=>hP1 _ (hP1 _ e))
theorem C6{Q:Option dB->dD->Prop}(n:A.handled=Y)(h:Fm s.heap it a f es.size es.size ep)(ho:s.heap.get? a=Z (stO es ep t))(hf:t.fits es.size=M)(y:tf w s.heap a es ep t f es.size pl)(q:∀h',(∀c o,c≠it->s.heap.get? c=Z o->h'.get? c=Z o)->Q Y {s with heap:=h'}):dM (model P w) A (pyNext (.ref it)) Q E s:=by
 have u:s.TypeIs (.ref it) "set_iterator":=⟨_,h,O⟩;unfold pyNext;refine wB1 (wpAny_attempt (wpAny_callSpecial?_slot (name:=Str.ofString "__next__") u iP (wE1 iP u oY ?_ (s9 _))));refine wB1 (wP1 (wB1 (wpAny_fieldsOf h O ?_)));dsimp only;refine wB1 (wpAny_setEntries_of ho O hf ?_);rw[aj (by simp)];have l:=y.len;cases y with
 |txt b _ z=>
  refine wB1 (yo (i:=es.size) (sl:=z) (ep:=ep) b ho hf ?_);rw[cv (by rw[lM1,aJ]at l;lia)];refine wB1 (wS1 h (by simp) λh1 r g=>?_);exact tX (s:={s with heap:=h1}) n λh' k=>q h' λc o hc e=>k c o (g.extBut c o hc e)
 |plc b d v x _=>
  refine wB1 (yp (i:=es.size) (ep:=ep) b d v x ho hf (nR1 _) ?_);rw[cv (nR1 _)];refine wB1 (wS1 h (by simp) λh1 r g=>?_);exact tX (s:={s with heap:=h1}) n λh' k=>q h' λc o hc e=>k c o (g.extBut c o hc e)
 |drw b d _ C ps e D=>
  refine wB1 (wpAny_seqItems e O ?_);have p:((ps.map λj=>Value.int (j:Nat) 0).toArray)[((es.size:Int)).toNat]?=Y:=by
   rw[Int.toNat_natCast,cm,b6 (by rw[lM1]at l ⊢;lia)]
  dsimp only;rw[p];dsimp only;refine wB1 (wS1 h (by simp) λh1 r g=>?_);refine wB1 (wS1 (s:={s with heap:=h1}) r (by simp) λh2 B m=>?_);exact tX (s:={s with heap:=h2}) n λh' k=>q h' λc o hc e=>k c o (m.extBut c o hc (g.extBut c o hc e))
theorem An{a:Source}{n:Nat}{Q:Nat->dD->Prop}(hn:n≠0)(q:∀i c,i<n->Q i {s with drawn:=c}):dM (model P w) A (choose a n) Q E s:=fun Γ p b=>by
 unfold choose;rw[Sem.wp_choose];refine⟨hn,?_⟩;exact wP1 (A:=A) (E:=E) (q _ _ (Nat.mod_lt _ (Nat.pos_of_ne_zero hn))) Γ p b
theorem Ai{α:Type}:∀(n:Nat) (xs:List α) (s:dD) (Q:List α->dD->Prop),xs.length=n->(∀ys b,ys.Perm xs->Q ys {s with drawn:=b})->dM (model P w) A (drawOrder n xs) Q E s
 |0,xs,s,Q,h,q=>by
  have:=cu.mp h;subst this;exact wP1 (q [] s.drawn (.refl _))
 |n+1,[],s,Q,h,q=>by simp at h
 |n+1,x::xs,s,Q,h,q=>by
  rw[drawOrder];refine wB1 (An (by simp) λi b hi=>?_);rw[gG1 hi];dsimp only;refine wB1 (Ai n _ _ _ (by rw[cJ hi];lia) λys a d=>wP1 (q _ a ?_));refine(d.cons _).trans ?_;have c:x::xs=(x::xs).take i++(x::xs)[i]::(x::xs).drop (i+1):=by rw[List.getElem_cons_drop,cK]
  rw[cM];refine List.Perm.trans ?_ (List.Perm.of_eq c.symm);exact List.perm_middle.symm
  all_goals simp
theorem AQ{l:Bool}{Q:dB->dD->Prop}(ho:s.heap.get? a=some (stO es ep t))(hf:t.fits es.size=true)(H:es.size<scanBound)(B:TS l t)(G:byT w=false->l=true)(q:∀it h' h f pl,(∀c o,s.heap.get? c=some o->h'.get? c=some o)->s.heap.objs.size<=it->Fm h' it a f 0 es.size ep->tf w h' a es ep t f 0 pl->(∀b,f = .ref b->b≠it/\s.heap.objs.size<=b)->Q (.ref it) {s with heap:=h',drawn:=h}):
  dM (model P w) A (pyIter (.ref a)) Q E s:=by
 have C:s.TypeIs (.ref a) "set":=⟨_,ho,rfl⟩;refine wpAny_pyIter_slot C PySem.F.slot_set_iter (wE1 PySem.F.slot_set_iter C sK ?_ (PySem.F.args_set_iter_1 _));unfold Builtin.«frozenset.__iter__»;refine wB1 (m:=Builtin.Frozenset.slot0 _ _) (wP1 ?_);unfold Builtin.Frozenset.sizeOf;refine wB1 (wB1 (wpAny_setEntries_of ho rfl hf (wP1 ?_)));unfold setDrawn;refine wB1 (wB1 (wpAny_setState_of ho rfl hf (wB1 (pG (wP1 ?_)))));show dM _ _ (if (!byT w&&(!t.plain&&decide (es.size>1)))=true then _ else _) _ _ _;have d:∀ (h1:dN) (h:Drawn) (f:dB) (pl:List dB),(∀ c o,s.heap.get? c=some o->h1.get? c=some o)->s.heap.objs.size<=h1.objs.size->(∀ b,f = .ref b->b<h1.objs.size/\s.heap.objs.size<=b)->(∀ h',(∀ c o,h1.get? c=some o->h'.get? c=some o)->tf w h' a es ep t f 0 pl) ->
   dM (model P w) A.in1 (setEpoch a >>= λe=>newFields "set_iterator" [f,rawInt 0,.ref a,rawInt es.size,rawInt e] >>= λr=>ret r) (λd s'=>∃r,d=Fin.done (Flow.ret r) /\ ∃T g,s'.TypeIs r T/\typeLookup (.type T) "__next__"=pure (Z g)/\Q r s') E {s with heap:=h1,drawn:=h}:=by
  intro h1 h f pl y v u F;refine wB1 (wpAny_setEpoch_of (y a _ ho) O hf (wB1 (wO1 (wP1 ⟨_,O,"set_iterator",_,⟨_,hS1 _ O,O⟩,iP.lookup,?_⟩) (by size_fits))));refine q h1.objs.size _ h f pl (λc o e=>hP1 _ (y c o e)) v ?_ (F _ λc o e=>hP1 _ e) λb e=>⟨nN1 (u b e).1,(u b e).2⟩;have:=hS1 h1 (o:={cls:=.type "set_iterator",data:=.fields #[f,.int 0 0,.ref a,.int es.size 0,.int ep 0]}) O;exact this
 by_cases n:byT w=M
 ·rw[aj (by rw[n];simp)];refine wB1 (wP1 ?_);exact d s.heap s.drawn _ _ (λ_ _ e=>e) (nR1 _) (λb z=>by cases z) λh' _=>.txt n 0 0
 ·have n:byT w=J:=by simpa using n
  by_cases p:(!t.plain&&decide (es.size>1))=M
  ·rw[ak (by rw[n,p];rfl)];refine wB1 (Ai es.size (af es.size) s _ (by simp) λys h D=>?_);refine wB1 (m:=newTuple _) (wO1 (s:={s with drawn:=h}) ?_ ?_)
   ·refine d (s.heap.push {cls:=.type "tuple",data:=.seq (ys.map λ(i:Nat)=>rawInt i).toArray}) h (.ref s.heap.objs.size) (ys.map λj=>(es[j]?.map (·.2)).getD .none) (λc o e=>hP1 _ e) (by rw[hZ1];exact aX _) (λb z=>by cases z;exact⟨by rw[hZ1];exact bE _,nR1 _⟩) λh' k=>?_;exact .drw n p 0 _ ys (k _ _ (hS1 _ O)) D
   ·have:=D.length_eq;have x:=fits_of_scanBound H;simp[sizeOk,this,x]
  ·have p:(!t.plain&&decide (es.size>1))=J:=by simpa using p
   rw[aj (by rw[p];simp)];refine wB1 (wP1 ?_);exact d s.heap s.drawn _ _ (λ_ _ e=>e) (nR1 _) (λb z=>by cases z) λh' _=>.plc n p (by rw[B.ld];exact G n) B.up 0
end
theorem tf.keep{w:dH}{h h':dN}{a:dE}{es:Array (Int×dB)}{ep:Nat}{t:SetTable}{f:dB}{i:Nat}{pl:List dB}(y:tf w h a es ep t f i pl)(k:∀c o,f = .ref c->h.get? c=Z o->h'.get? c=Z o):tf w h' a es ep t f i pl:=by
 cases y with
 |txt b _ l=>exact .txt b _ l
 |drw b d _ c ps e m=>exact .drw b d _ c ps (k c _ O e) m
 |plc b d g j _=>exact .plc b d g j _
section
variable{P:dF}{w:dH}{A:dG}{E:dB->dD->Prop}
theorem AO{it a S:dE}{ep:Nat}{es:Array (Int×dB)}{t:SetTable}{pl:List dB}{r:dB}{R:Result->dD->Prop}(V:A.handled=none)(hf:t.fits es.size=true)(h1:it≠a)(h2:S≠a)(F:S≠it)(hn:es.size<=dL):
  ∀(k i:Nat) (s:dD) (f:dB) (acc:Array dB) (c:Nat),es.size-i=k->i<=es.size->Fm s.heap it a f i es.size ep->s.heap.get? a=Z (stO es ep t)->tf w s.heap a es ep t f i pl->(∀g,f = .ref g->g≠it/\g≠S) ->
  s.heap.get? S=Z {cls:=.type "list",dict:=Y,data:=.seq acc c,slots:= #[]}->acc.toList=pl.take i ->
  (∀h' d I,(∀b u,b≠it->b≠S->s.heap.get? b=Z u->h'.get? b=Z u)->h'.get? S=Z {cls:=.type "list",dict:=Y,data:=.seq d I,slots:= #[]}->d.toList=pl->R (.ok (.ret r)) {s with heap:=h'}) ->
  codeAny (model P w) A (.builtin "list.extend.loop" ⟨[.ref S,.ref it,r],[]⟩) R s:=by
 intro k
 induction k with
 |zero=>
  intro i s f acc c Q hi m D y C K E am;have e:i=es.size:=by lia
  subst e;have j:=y.len;refine wD1 PySem.F.entry_extend_loop (?_:_);rw[Around.under_plainId PySem.F.plain_extend_loop _];show dM _ A.in1 (pyNext (.ref it) >>= _) _ _ s;refine wB1 (C6 V m D hf y λh' keep=>wP1 ?_);exact am h' acc c (λb u n _ e=>keep b u n e) (keep S _ F K) (by rw[E,<- j,b4])
 |succ k ih=>
  intro i s f acc c Q hi m D y C K E am;have ao:i<es.size:=by lia
  have j:=y.len;obtain⟨x,au⟩:∃x,pl[i]?=some x:=⟨_,gG1 (by lia)⟩;have B:acc.size=i:=by rw[<- aJ,E,aQ];lia
  refine wD1 PySem.F.entry_extend_loop (?_:_);rw[Around.under_plainId PySem.F.plain_extend_loop _];show dM _ A.in1 (pyNext (.ref it) >>= _) _ _ s;refine wB1 (AN m D hf y au (λg e=>(C g e).1) λh' U p keep T N=>?_);have z:=keep S _ F K;show dM _ A.in1 (updateSeq S (·.push x) >>= _) _ _ _;refine wB1 (wpAny_updateSeq (s:={s with heap:=h'}) z O ?_ (by rw[B];lia) (by show(acc.push _).size<=dL+1;rw[Array.size_push,B];lia));have h:∀b u,b≠S->h'.get? b=Z u->(h'.update S (Obj.mapSeq (·.push x))).get? b=Z u:=λb u n e=>by rw[hU1 _ _ _ _ n];exact e
  refine wP1 ⟨plainId_quiet PySem.F.plain_extend_loop _,ih (i+1) {s with heap:=h'.update S (Obj.mapSeq (·.push x))} U (acc.push x) _ (by lia) ao (h it _ (Ne.symm F) p) (h a _ (Ne.symm h2) (keep a _ (Ne.symm h1) D)) (T.keep λg o e q=>h g o (C g (N g e)).2 q) (λg e=>C g (N g e)) (hW1 _ z O) ?_ ?_⟩
  ·rw[cA,E,cH,au];rfl
  ·intro G d I l H L;exact am G d I (λb u n v e=>l b u n v (h b u v (keep b u n e))) H L
theorem yu:typeLookup (.type "set") "__len__"=pure (Z (.builtin "set.__len__")):=by rw[typeLookup_type,builtinLookup_eq_fast];kernel_rfl
theorem AR {s:dD}{v:dE}{Q:Bool->dD->Prop}(c:s.TypeIs (.ref v) "set")(q:Q J s):dM (model P w) A (Builtin.List.listLengthHint (.ref v)) Q E s:=by
 unfold Builtin.List.listLengthHint;refine wB1 (wpAny_specialOf c yu (?_:_));generalize a:("set.__len__":String)=id0
 wp_delta
 rw[show splitId id0=Z ("set","__len__")from by subst a;decide+kernel];subst a;refine wB1 (wpAny_isInstance (b:=M) c (by rw[isSubtype_type];kernel_rfl) (?_:_));rw[aj (by decide)];dsimp only;rw[ak (by decide+kernel)];exact wB1 (wpAny_typeOf c (wP1 q))
theorem tQ{s:dD}{a:dE}{ns:List Int}{Q:List dB->dD->Prop}(wq:A.handled=Y)(hx:jf (byT w) a ns s.heap)(q:∀h' p vs S,(∀b u,s.heap.get? b=Z u->h'.get? b=Z u)->s.heap.objs.size<=h'.objs.size->IntsAre vs S->S.Perm ns->Q vs {s with heap:=h',drawn:=p}):dM (model P w) A (collect (.ref a)) Q E s:=by
 obtain⟨es,ep,t,l,I,R,ao,N,W,V⟩:=hx;have n:a<s.heap.objs.size:=hL1 I;unfold collect;refine wB1 (wpAny_runValue (wD1 PySem.F.entry_proto_collect (?_:_)));rw[Around.under_plainId PySem.F.plain_proto_collect _];show dM _ A.in1 (newList [] >>= λl=>again (.builtin "list.__iadd__" ⟨[l,.ref a],[]⟩)) _ _ s;refine wB1 (wO1 (?_:_));refine wP1 ⟨plainId_quiet PySem.F.plain_list_iadd _,wD1 PySem.F.entry_list_iadd (?_:_)⟩;rw[Around.under_plainId PySem.F.plain_list_iadd _];have B:(s.heap.push {cls:=.type "list",data:=.seq ([]:List dB).toArray}).get? s.heap.objs.size=Z {cls:=.type "list",data:=.seq ([]:List dB).toArray}:=hS1 _ O;have g:∀b u,s.heap.get? b=Z u->(s.heap.push {cls:=.type "list",data:=.seq ([]:List dB).toArray}).get? b=Z u:=λb u e=>hP1 _ e;have x:(s.heap.push {cls:=.type "list",data:=.seq ([]:List dB).toArray}).objs.size=s.heap.objs.size+1:=by rw[hZ1]
 have K:s.heap.objs.size≠a:=nG1 n;have h1:Builtin.List.listSameRef (.ref s.heap.objs.size) (.ref a)=J:=by simp[Builtin.List.listSameRef,K]
 show dM _ A.in1 (Builtin.List.listExtendWith (.ref s.heap.objs.size) (.ref a) (.ref s.heap.objs.size)) _ _ {s with heap:=s.heap.push {cls:=.type "list",data:=.seq ([]:List dB).toArray}};generalize s.heap.push {cls:=.type "list",data:=.seq ([]:List dB).toArray}=h₁ at *
 unfold Builtin.List.listExtendWith;refine wB1 (wpAny_typeOf (T:="set") ⟨_,g a _ I,O⟩ ?_);rw[aj (by rw[h1];decide)];refine wB1 (AQ (s:={s with heap:=h₁}) (g a _ I) N ao W V λit d p f pl h c L y G=>?_);dsimp only at h c G;have i:=h _ _ B;have z:Shared.TypeIs {s with heap:=d,drawn:=p} (.ref a) "set":=⟨_,h _ _ (g a _ I),O⟩;refine wB1 (wpAny_holding (AR z ?_));rw[ak (by decide+kernel)];refine wB1 (wpAny_rule (wB1 ?_));show dM _ A.in1 (updateSeq s.heap.objs.size (·.push .none) >>= λ_=>updateSeq s.heap.objs.size (·.pop)) _ _ _;refine wB1 (wpAny_updateSeq (s:={s with heap:=d,drawn:=p}) i O ?_);have j:=hW1 (Obj.mapSeq (·.push Value.none)) i O;refine wpAny_updateSeq (s:={s with heap:=d.update s.heap.objs.size (Obj.mapSeq (·.push Value.none)),drawn:=p}) j O ?_;have r:=hW1 (Obj.mapSeq (·.pop)) j O;have m:∀b u,b≠s.heap.objs.size->d.get? b=Z u->((d.update s.heap.objs.size (Obj.mapSeq (·.push Value.none))).update s.heap.objs.size (Obj.mapSeq (·.pop))).get? b=Z u:=λb u C e=>by
  rw[hU1 _ _ _ _ C,hU1 _ _ _ _ C];exact e
 rw[x]at c G;have au:=y.perm;refine wP1 ⟨plainId_quiet PySem.F.plain_extend_loop _,AO (it:=it) (pl:=pl) wq N (nG1 (bh n c)) (nG1 n) (nN1 c) (fits_of_scanBound ao) es.size 0
  {s with heap:=(d.update s.heap.objs.size (Obj.mapSeq (·.push Value.none))).update s.heap.objs.size (Obj.mapSeq (·.pop)),drawn:=p} f _ _ O (bi _) (m _ _ (nG1 c) L) (m a _ (nN1 n) (h _ _ (g a _ I))) (y.keep λD o e q=>m D o (nG1 (G D e).2) q) (λD e=>⟨(G D e).1,nG1 (G D e).2⟩) r O λh' F c' keep H hp=>?_⟩
 show dM _ A (load s.heap.objs.size >>= _) _ _ {s with heap:=h',drawn:=p};refine wB1 (wpAny_load H ?_);have U:∀v∈pl,∃k t,v=Value.int k t:=λv am=>by
  obtain⟨e,aq,rfl⟩:=ci.mp (au.mem_iff.mp am);obtain⟨k,t,rfl⟩:=R.el e aq;exact⟨k,t,O⟩
 have all:∀vs:List dB,(∀v∈vs,∃k t,v=Value.int k t)->IntsAre vs (vs.map λv=>Iu (0,v)):=by
  intro vs
  induction vs with
  |nil=>intro _;exact .nil
  |cons v vs ih=>
   intro am;obtain⟨k,t,rfl⟩:=am v mS1;exact .cons k t (ih λu X=>am u (mC1 _ X))
 refine wP1 (q h' p F.toList (pl.map λv=>Iu (0,v)) (λb u e=>?_) (aD (hL1 H)) (by rw[hp];exact all pl U) ?_)
 ·have C:=hL1 e;exact keep b u (nN1 (bh C c)) (nN1 C) (m b u (nN1 C) (h _ _ (g b u e)))
 ·refine(au.map _).trans ?_;rw[bv];exact R.pm
theorem rq {s:dD}{a:dE}{ns:List Int}{Q:dB->dD->Prop}(o:A.handled=none)(hx:jf (byT w) a ns s.heap)(i:ns.length<64)
  (q:∀h' d L n out,(∀b u,s.heap.get? b=Z u->h'.get? b=Z u)->s.heap.objs.size<=L->h'.get? L=Z (seqObj "list" out n)->IntsAre out.toList (jQ ns)->Q (.ref L) {s with heap:=h',drawn:=d}):
  dM (model P w) A (call (.builtin "sorted") [.ref a]) Q E s:=by
 refine Calls.call_function_entry kind_sorted plain_sorted entry_sorted (args_sorted1 _) (?_:_);unfold Builtin.«sorted»;refine wB1 (m:=checkCount "sorted" 1 1 _) (wP1 (wB1 (tQ o hx λh' d vs t keep p k l=>?_)));have f:vs.length<64:=by rw[k.length,l.length_eq];exact i
 refine wB1 (wpAny_newList (hsz:=by rw[sizeLine_eq];lia) ?_);have c:(h'.push (seqObj "list" vs.toArray 0)).get? h'.objs.size=Z (seqObj "list" vs.toArray 0):=hS1 _ O;show dM _ _ _ _ _ {s with heap:=h'.push (seqObj "list" vs.toArray 0),drawn:=d};refine wB1 (wpAny_holding (wE1 slot_list_sort ⟨_,c,O⟩ entry_list_sort (list_sort_tree (s:={s with heap:=h'.push (seqObj "list" vs.toArray 0),drawn:=d}) c k f λout g a1 a2 a3=>⟨_,O,?_⟩) (args_list_sort _)));have r:g=jQ ns:=pX (a2.trans (l.trans (iu ns).symm)) a3 (mD ns);subst r;obtain⟨n,j⟩:=sortedHeap_at (out:=out) c;refine wP1 ⟨_,O,q _ d h'.objs.size n out (λb u e=>?_) p j a1⟩;have h:=keep b u e;show(sortedHeap (h'.push (seqObj "list" vs.toArray 0)) h'.objs.size vs out).get? b=Z u;rw[sortedHeap_old (nN1 (hL1 h)) (by rw[hZ1];exact cI (hL1 h))];exact hP1 _ h
end
noncomputable def i3:G1:=λd S=>match d6 S d with
 |some (M,xs)=>(m9 xs).bind λns=>if ns.length<64 then Z (.ref S.length,S++[.lst ((jQ (ddI ns)).map D.int)])else Y
 |_=>Y
section
variable{X:Cx}
def F3(X:Cx)(vs:List V)(H:Hp)(Q:VK):Prop:=∃a xs ns,vs=[.ref a]/\lV X.K H a xs/\(∀us,ei xs us->IntsAre us ns)/\ns.length+1<scanBound /\ ∀p,H p=Y->Q (.ref p) (upd H p (.ext (jf (byT X.w) p (ddI ns))))
def DD(X:Cx)(vs:List V)(H:Hp)(Q:VK):Prop:=∃a ns,vs=[.ref a]/\H a=Z (.ext (jf (byT X.w) a ns))/\ns.length<64 /\ ∀p,H p=Y->Q (.ref p) (upd H p (.lst ((jQ ns).map V.int)))
theorem wS{ag:List (dE×Obj)}{σ:L2.St}{H:Hp}{s:dD}(I:Inv X ag σ H s)(d:Drawn):Inv X ag σ H {s with drawn:=d}:=⟨I.ok,I.os,I.bare,I.base,I.loc,I.cell,I.free,I.freeC,I.pin,I.hok,I.len⟩
theorem E8(hc:X.calm=M):fj X (.type "set") (F3 X):=by
 intro ag s σ H xs n Q I r h;obtain⟨a,vs,ns,rfl,f,hi,g,q⟩:=h;obtain⟨u,rfl,r2⟩:=iM r;cases r2;obtain⟨b,j,p,m⟩:=I.list f;have i:=hi b j;refine xt (I.ok.hd hc) p.isList (by simpa using i) g λh' tk keep d=>?_;have c:=I.hok.fresh (nR1 s.heap.objs.size);refine⟨.ref s.heap.objs.size,_,I.laid (t':=tk) (o:=.ext (jf (byT X.w) s.heap.objs.size (ddI ns))) keep (nR1 _) ⟨d,?_,λh1 h2 x k=>x.old k⟩,O,q _ c⟩;obtain⟨es,ep,t,l,e,_⟩:=d;exact⟨_,e⟩
theorem Cm(hc:X.calm=M):fj X (.builtin "sorted") (DD X):=by
 intro ag s σ H xs k Q I r h;obtain⟨a,ns,rfl,g,f,q⟩:=h;obtain⟨u,rfl,r2⟩:=iM r;cases r2;obtain⟨j,_⟩:=(show eO X.prog X.w H s.heap a (.ext (jf (byT X.w) a ns))from I.hok a _ g);refine rq (I.ok.hd hc) j f λh' e L n out keep d c i=>?_;have b:=I.hok.fresh d;refine⟨.ref L,_,wS (I.laid (t':=s.toks) (o:=.lst ((jQ ns).map V.int)) keep d ⟨?_,out.toList,n,wT i,by rw[Array.toArray_toList];exact c⟩) e,O,q _ b⟩;rw[lM1,(iu ns).length_eq,sizeLine_eq];lia
theorem G0(ns:List Int):(ddI ns).length<=ns.length:=by
 have:=nq ns [];unfold ddI;simpa using this
theorem wl (hc:X.calm=true){o:Expr}{m:FE}{p p2 pos b:Pos}(hg:Gl X "sorted")(hm:X.mg "sorted"=none)(hg2:Gl X "set")(hm2:X.mg "set"=none)(ho:XE X o m)
  (he:dJ [.Call (.Name "set" p2) [o] [] b] X.env=[(J,eval (.Call (.Name "set" p2) [o] [] b) X.env)]:=by rfl) (c:dJ [o] X.env=[(J,eval o X.env)]:=by rfl):XE X (.Call (.Name "sorted" p) [.Call (.Name "set" p2) [o] [] b] [] pos) (mN (b1 i3) (dS m dU)):=
 ⟨eU (rL (Cm hc) hg hm (by decide+kernel) (j8 (jj (E8 hc) hg2 hm2 (by decide+kernel) (j8 ho.h mS c) (he:=c)) mS he) (he:=he)) <| by
  rintro σ H Q ⟨r,mu,S,d,D,he,B,hm,f⟩;obtain⟨⟨ds,C⟩,g,hm⟩:=oB1.mp hm;obtain⟨⟨x,E⟩,y,g⟩:=oB1.mp g;cases g;dsimp only[b1,i3]at hm;split at hm
  ·rename_i xs w;obtain⟨ns,n,hm⟩:=oB1.mp hm;split at hm
   ·rename_i h;cases hm;refine⟨r,mu,S,x,_,he,B,y,λv H1 mu1 A z k=>?_⟩;obtain⟨a,vs,rfl,q,t⟩:=ev z k w;refine⟨a,vs,ns,O,q,λF l=>(wU t l n).1,bh (Nat.succ_lt_succ h) (by decide),λp j=>?_⟩;refine⟨p,ddI ns,O,d4,bJ (G0 ns) h,λp2 e=>?_⟩;have s:Ext mu1 mu1 H1 (upd H1 p (.ext (jf (byT X.w) p (ddI ns)))):=Ext.fresh j;have i:=k.fresh (u:=.ext (jf (byT X.w) p (ddI ns))) j;exact f _ _ (mu1++[p2]) (A.trans (s.trans (Ext.new_ e))) (.ref (fZ i.len _)) (i.newL (k3 _) e)
   ·cases hm
  ·cases hm⟩
end
section
variable{X:Cx}{ag:List (dE×Obj)}{σ:L2.St}{H:Hp}{s:dD}{a:dE}{kvs:List (Key×V)}{k:Key}{v:V}{u r:dB}{A:dG}{E:dB->dD->Prop}
end
section
variable{X:Cx}
end
open AutoSeq1 (wpAny_loadPart')
section
variable{prog:dF}{w:dH}{A:dG}{E:dB->dD->Prop}{s:dD}
theorem sV{Q:List dB->dD->Prop}{r:dE}{a b c:Int}{t u v:Tok}{n:Nat}(B:A.handled=none)(hr:IsRange s.heap r a b c t u v)(hsmall:Builtin.Range.small a b c=true)(hn:Builtin.Range.rangeSize a b c=n)(m:n<=2^24)(z:∀h' tk d,(∀b o',s.heap.get? b=some o'->h'.get? b=some o')->ItemsOf (fun i v=>∃t,v = .int (a+i*c) t) d n->Q d.toList {s with heap:=h',toks:=tk}):
  dM (model prog w) A (collect (.ref r)) Q E s:=by
 unfold collect;refine wB1 (wpAny_runValue (wD1 F.entry_proto_collect (?_:_)));rw [Around.under_plainId F.plain_proto_collect _];show dM _ A.in1 (newList [] >>= fun l=>again (.builtin "list.__iadd__" ⟨[l,.ref r],[]⟩)) _ _ s;refine wB1 (wO1 (?_:_));refine wP1 ⟨plainId_quiet F.plain_list_iadd _,wD1 F.entry_list_iadd (?_:_)⟩;rw [Around.under_plainId F.plain_list_iadd _];show dM _ A.in1 (Builtin.List.listExtendWith (.ref s.heap.objs.size) (.ref r) (.ref s.heap.objs.size)) _ _ _;have C:(s.heap.push {cls:=.type "list",data:=.seq ([]:List dB).toArray}).get? s.heap.objs.size=some {cls:=.type "list",data:=.seq #[] 0}:=hS1 _ rfl;have j:∀ h' tk d g,(∀ b o',s.heap.get? b=some o'->h'.get? b=some o')->h'.get? s.heap.objs.size=some {cls:=.type "list",dict:=none,data:=.seq d g,slots:= #[]}->ItemsOf (fun i v=>∃ t,v = .int (a+i*c) t) d n ->
   dM (model prog w) A (match Value.ref s.heap.objs.size with
   |Value.ref a=>do
    match (<- load a).data with
     |Data.seq xs _=>pure xs.toList
     |_=>unsupported "internal:collect"
   |_=>unsupported "internal:collect") Q E {s with heap:=h',toks:=tk}:=by
  intro h' tk d g p k x;show dM _ A (load s.heap.objs.size >>= _) _ _ _;refine wB1 (wpAny_load k (?_:_));refine wP1 (?_:_);exact z h' tk d p x
 refine wpAny_mono (wpAny_extend_range (A:=A) (R:=λG s'=>∃h' tk d g,G = .ok (.ret (.ref s.heap.objs.size))/\s'={s with heap:=h',toks:=tk}/\(∀b o',s.heap.get? b=Z o'->h'.get? b=Z o')/\h'.get? s.heap.objs.size=Z {cls:=.type "list",dict:=Y,data:=.seq d g,slots:= #[]}/\ItemsOf (λi v=>∃t,v = .int (a+i*c) t) d n)
  (s:={s with heap:=s.heap.push {cls:=.type "list",data:=.seq ([]:List dB).toArray}}) B (hP1 _ hr) hsmall hn m _ _ 0 C λh' tk d g p k x=>
   ⟨h',tk,d,g,O,O,λb o e=>p b o (nN1 (hL1 e)) (hP1 _ e),k,x⟩) (λy s' h=>?_) (λe s' h=>?_)
 ·cases y with
  |done f=>
   obtain⟨h',tk,d,g,e,rfl,q⟩:=h;cases e;exact j h' tk d g q.1 q.2.1 q.2.2
  |again g=>exact⟨h.1,codeAny_mono h.2 λr D hr=>by obtain⟨h',tk,d,g,rfl,rfl,q⟩:=hr;exact j h' tk d g q.1 q.2.1 q.2.2⟩
 ·obtain⟨_,_,_,_,e,_⟩:=h;cases e
end
theorem um(r:dE)(a b c:Int)(t u v:Tok)(n:Nat)(hsmall:Builtin.Range.small a b c=true)(hn:Builtin.Range.rangeSize a b c=n)(f:n<=2^20):
  Meets (Builtin.«tuple.__new__» ⟨[.type "tuple",.ref r],[]⟩)
   (λA R s=>A.handled=Y/\IsRange s.heap r a b c t u v /\ ∀(h':dN) (tk:Nat) (acc:Array dB),(∀b o',s.heap.get? b=Z o'->h'.get? b=Z o')->ItemsOf (λi v=>∃t,v = .int (a+i*c) t) acc n ->
    R (.ok (.ret (.ref h'.objs.size))) {s with heap:=h'.push {cls:=.type "tuple",data:=.seq acc},toks:=tk}):=
 .of_wp λprog w A R s h=>by
  obtain⟨D,g,d,j,q⟩:=s;obtain⟨y,l,h⟩:=h;have p:=sub_tuple_self;have m:=init_tuple_lookup;have C:=madeHere_tuple;have B:Shared.TypeIs ⟨D,g,d,j,q⟩ (.ref r) "range":=⟨_,l,O⟩;have k:A.in1.handled=Y:=y
  wp_walk using wpAny_loadPart' l,wpAny_typeOf B,sV k l hsmall hn (aC f (by decide))
  intro h' tk acc x o;show dM _ _ (Builtin.Tuple.tupleExact acc.toList.toArray >>= λv=>ret v) _ _ _;unfold Builtin.Tuple.tupleExact;have z:n<=dL:=aC f (by decide);refine wB1 (wO1 (?_:_) (show acc.toList.toArray.size<=dL by simp only[Array.toArray_toList];rw[o.1];exact z));refine wP1 ⟨_,O,(?_:_)⟩;have e:acc.toList.toArray=acc:=by simp
  rw[e];exact h h' tk acc x o
section
variable{X:Cx}
theorem E7(hc:X.calm=M):fj X (.type "tuple") (λxs H Q=>∃p i j,xs=[.ref p]/\H p=Z (.rng i j)/\(-(2^62)<=i/\i<2^62 /\ -(2^62)<=j/\j<2^62)/\(j-i).toNat<=2^20 /\ ∀l,H l=Y->Q (.ref l) (upd H l (.tup (jo i (j-i).toNat)))):=by
 intro ag s σ H xs K Q I r h;obtain⟨p,i,j,rfl,A,⟨h1,h2,E,w⟩,m,q⟩:=h;obtain⟨u,rfl,D⟩:=iM r;cases D;obtain⟨t,u,v,e⟩:=I.hok p _ A;have B:(((j-i).toNat:Nat):Int)=Builtin.Range.rangeSize i j 1:=by rw[rangeSize_one];split<;>lia
 refine callType_new F.called_tuple (by decide) (F.typeCall_tuple_1 _) (F.newCall_tuple_1 _) (λf=>F.args_object_init_2 f _) F.entry_tuple_new
  (um p i j 1 t u v (j-i).toNat (small_one h1 h2 E w) B.symm m) ⟨I.ok.hd hc,e,λh' tk a z hi=>⟨⟨_,hS1 _ O,O⟩,(?_:_)⟩⟩
 obtain⟨g,d⟩:=hi;have c:ei (jo i (j-i).toNat) a.toList:=pJ (by rw[iS];simpa using g.symm) λk x u G C=>by
  rw[mL _ _ _ _ G];obtain⟨y,rfl⟩:=d k u (by simpa using C);exact⟨y,by rw[Int.mul_one]⟩
 have n:Inv X ag σ H {s with heap:=h',toks:=tk}:=I.kept (t':=tk) z;have am:Inv X ag σ (upd H h'.objs.size (.tup (jo i (j-i).toNat))) {s with heap:=h'.push {cls:=.type "tuple",data:=.seq a},toks:=tk}:=
  n.laid (t':=tk) (λb o e=>hP1 _ e) (nR1 _) (show eO X.prog X.w _ _ _ (.tup _)from⟨by rw[iS];exact aC m (by decide),a.toList,c,by simpa using IsTup.new _ _⟩)
 exact⟨.ref h'.objs.size,_,am,O,q _ (n.hok.fresh (nR1 _))⟩
noncomputable def zr(m:FA):FE:=λr S=>(m r S).bind λp=>match p.1 with
 |[.int j]=>if ot 0 j=M then Z (.tup (gB 0 j.toNat),p.2)else Y
 |_=>Y
theorem xR {a:Expr}{m:FA}{f p2 b c:Pos}(hc:X.calm=true)(hg:Gl X "range")(hm:X.mg "range"=none)(hg2:Gl X "tuple")(hm2:X.mg "tuple"=none)(ha:XA X [a] m)(hs:dJ [a] X.env=[(false,eval a X.env)]:=by rfl)
  (hs2:dJ [.Call (.Name "range" f) [a] [] b] X.env=[(J,eval (.Call (.Name "range" f) [a] [] b) X.env)]:=by rfl):XE X (.Call (.Name "tuple" p2) [.Call (.Name "range" f) [a] [] b] [] c) (zr m):=
 ⟨eU (jj (E7 hc) hg2 hm2 (by decide+kernel) (j8 (oA hg hm ha.h hs) mS hs2) (by decide) (by decide) hs2) <| by
  rintro σ H Q ⟨r,mu,S,d,y,t,hs,hm,e⟩;obtain⟨⟨ds,x⟩,o,hm⟩:=oB1.mp hm;dsimp only at hm;split at hm
  ·rename_i j;split at hm
   ·rename_i i;cases hm;refine⟨r,mu,S,_,_,t,hs,o,λvs H1 mu1 q w k=>?_⟩;obtain⟨v,rfl,s⟩:=j6 w;cases s;refine⟨j,O,λp h=>⟨p,0,j,O,d4,(jZ i).1,(jZ i).2,λl g=>?_⟩⟩;have n:=(q.trans (Ext.fresh (u:=.rng 0 j) h)).trans (Ext.fresh (u:=.tup (jo 0 (j-0).toNat)) g);exact e _ _ mu1 n (.tup (jn.of d4) (by rw[Int.sub_zero];exact mK _ _)) ((k.fresh h).fresh g)
   ·cases hm
  ·cases hm⟩
end
section
variable{P:dF}{w:dH}{A:dG}{E:dB->dD->Prop}{s:dD}
end
section
variable{X:Cx}
end
section
variable{X:Cx}{a b:Expr}{rest:List Expr}{pos:Pos}{ta tb:TE}{f g:FE}
end
section
variable{X:Cx}
noncomputable def CS:G1:=λd S=>match d with
 | .ref n=>match S[n]? with
  |some (.dct kvs)=>Z (.int kvs.length,S)
  |_=>eS d S
 |_=>eS d S
end
section
variable{P:dF}{w:dH}{A:dG}{E:dB->dD->Prop}{b:Bool}
end
section
variable{X:Cx}
end
section
variable{prog:dF}{w:dH}{A:dG}{E:dB->dD->Prop}{s:dD}
theorem EL{a b:dE}{k l:Int}{t u:Tok}{i zs:List dB}{Q:Bool->dD->Prop}(ha:IsTup s.heap a (Value.int k t::i).toArray)(hb:IsTup s.heap b (Value.int l u::zs).toArray)(c:k≠l)(h:Q (decide (k<l)) s):
  dM (model prog w) A (keyLt' (tuples' M) (.ref a) (.ref b)) Q E s:=by
 rw[iD];obtain⟨o,f,m,_,g⟩:=ha;obtain⟨j,d,n,_,e⟩:=hb;refine wB1 (listItems_at f g (wB1 (listItems_at d e ?_)));rw[bV,bM,bG];refine wB1 (wB1 ?_);dsimp only;refine wB1 (wpAny_eqBool_int ?_);rw[beq_false_of_ne c];simp only[cp,if_true];exact wB1 (oneLt_int (wP1 (wP1 (wP1 h))))
theorem EN{vs:List dB}{Q:SortKind->dD->Prop}(f:vs≠[])(h:∀ v∈vs,∃ a k t ps,v = .ref a/\IsTup s.heap a (Value.int k t::ps).toArray)(q:Q (tuples' true) s):
  dM (model prog w) A (keyKind' vs.toArray) Q E s:=by
 rw[keyKind'_eq,cq,<- bind_pure_comp];refine wB1 (wB1 (kg (P:=λ_ r=>∃k t,r=Z (Value.int k t)) (λv d=>?_) λrs m i=>wP1 ?_))
 ·obtain⟨a,k,t,ps,rfl,⟨o,l,y,_,D⟩⟩:=h v d;refine⟨Z (.int k t),⟨k,t,O⟩,λQ q=>?_⟩;rw[sG];refine wB1 (wpAny_typeOf (T:="tuple") ⟨o,l,y⟩ ?_);rw[aj (by decide)];refine wB1 (listItems_at l D (wP1 ?_));simpa using q
 ·have F:rs.toArray.all (·.isSome)=true:=by
   rw[cr,bD];intro r j;obtain⟨v,_,k,t,e⟩:=i r j;rw[e];rfl
  rw[ak F];refine wB1 (wpAny_rule ?_);rw[oneTypeOnly'_eq];have B:rs.toArray.filterMap id=(rs.filterMap id).toArray:=by simp
  rw[B,cq,<- bind_pure_comp];refine wB1 (wB1 (wB1 (kg (P:=λ_ t=>t=Value.type "int") (λv d=>?_) λb c C=>wP1 ?_)))
  ·obtain⟨r,j,e⟩:=aL.mp d;obtain⟨G,_,k,t,p⟩:=i r j;rw[p]at e;cases e;exact⟨_,O,λQ q=>wpAny_typeOf (T:="int") (typeIs_int s k t) q⟩
  ·cases b with
   |nil=>
    exfalso;cases rs with
    |nil=>exact f (cu.mp m.symm)
    |cons r rs=>
     obtain⟨_,_,k,t,e⟩:=i r mS1;rw[e]at c;simp at c
   |cons t b=>
    have all:∀x∈t::b,x=Value.type "int":=λx g=>by obtain⟨_,_,z⟩:=C x g;exact z
    have u:=all t mS1;subst u;have n:((Value.type "int"::b).toArray.all λx=>x == Value.type "int")=M:=by
     rw[cr,bD];intro x g;rw[all x g];rfl
    show dM _ _ (pure (if((Value.type "int"::b).toArray.all λx=>x == Value.type "int")=M then Z (Value.type "int")else Y)) _ _ _;rw[ak n];exact wP1 (wP1 q)
end
section
variable{X:Cx}{ag:List (dE×Obj)}{σ:L2.St}{H:Hp}{s:dD}{mu:List dE}
end
section
variable{X:Cx}
end
section
variable{X:Cx}{f:dE}{fd:dP}{ps:List Str}{k n:Nat}{sp:Sp}{dvs:List V}{ds:List dB}{CX:xE}{E:XK}{t:TA}{e:Expr}{es:List Expr}{p pos:Pos}{i:Nat}{v x:Str}
end
section
variable{prog:dF}{w:dH}{K:Type} [DecidableEq K] {knd:HeapKind prog w K}{A:dG}{E:dB->dD->Prop}{s:dD}
end
section
variable{X:Cx}
noncomputable def Jb:G1:=λd S=>match d with
 | .ref n=>match S[n]? with
  |some (.dcT kvs)=>Z (.int kvs.length,S)
  |_=>CS d S
 |_=>CS d S
noncomputable def jl:G2:=λd e S=>match e with
 | .ref n=>match S[n]? with
  |some (.dct [])=>match keyT d with
   |some _=>Z (.bl M,S)
   |none=>fG d e S
  |_=>fG d e S
 |_=>fG d e S
theorem za(m:X.A.units+64<cLine):gn X (compareOp .NotIn) (r2 X.K (b2 jl)):=by
 intro ag s σ H x y u w Q I o j h;obtain⟨mu,S,d,e,r,l,p,c,i,a,hc⟩:=ou h;have back:fG d e S=Z (r,l)->dM (model X.prog X.w) X.A (compareOp .NotIn u w) (EP X ag σ Q) X.xe s:=λa=>mW m ag s σ H x y u w Q I o j ⟨mu,S,[d,e],r,l,.cons p (.cons c .nil),i,a,hc⟩;unfold jl at a;split at a
 ·rename_i n;split at a
  ·rename_i B;split at a
   ·rename_i k D;cases a;cases c with
    |ref q=>
     cases j;obtain⟨ws,v,A⟩:=i.dct B q;cases A;obtain⟨z,C,vs,g,t⟩:=vU I.hok v;cases g;obtain⟨b,rfl,rfl,rk,E,hi⟩:=iZ I p o D;have f:s.heap.DictOfH (fP X.prog X.w) _ []:=nz t;refine wpAny_notIn_heap (ix m) hi C f ?_;exact⟨.bl M,H,I.tok _,O,hc.now (.bl _) i⟩
   ·exact back a
  ·exact back a
 ·exact back a
end
theorem Ia.fits{es:Array (Int×dB)}{t:SetTable}(h:Ia es t):t.fits es.size=M:=by
 unfold SetTable.fits SetTable.fill;rw[h.du,h.sz];have:=h.fl;simp;exact this
theorem mem_ins{α:Type}(a:Array α)(p:Nat)(x y:α):y∈(SetTable.insertAt a p x).toList↔y=x\/y∈a.toList:=by
 rw[sy,aG,aF];have:=cK p a.toList;constructor
 ·rintro(h|h|h)
  ·exact .inr (cO h)
  ·exact .inl h
  ·exact .inr (cP h)
 ·rintro(h|h)
  ·exact .inr (.inl h)
  ·rw[<- this,aG]at h;rcases h with h|h
   ·exact .inl h
   ·exact .inr (.inr h)
theorem nt{α β:Type}{f g:α->Option β}:∀l:List α,(∀a∈l,f a=g a)->l.filterMap f=l.filterMap g
 |[],_=>rfl
 |a::l,h=>by rw[aE,aE,h a mS1,nt l λb c=>h b (mC1 _ c)]
theorem live_len:∀(l:List (Option Nat)) (s:Nat),((List.range' s l.length).filterMap λj=>(l.getD (j-s) Y).map (j,·)).length=l.countP (·.isSome)
 |[],s=>rfl
 |x::l,s=>by
  rw[lC1,List.range'_succ,aE,List.countP_cons];have ih:=live_len l (s+1);have e:(List.filterMap (λj=>Option.map (λx=>(j,x)) ((x::l).getD (j-s) Y)) (List.range' (s+1) l.length))=List.filterMap (λj=>(l.getD (j-(s+1)) Y).map (j,·)) (List.range' (s+1) l.length):=by
   refine nt _ λj a=>?_;rw[List.mem_range'_1]at a;rw[show j-s=(j-(s+1))+1 by lia];rfl
  rw[e,cQ];cases x with
  |none=>simpa using ih
  |some q=>simpa using ih
section
variable{prog:dF}{w:dH}{A:dG}{E:dB->dD->Prop}{s:dD}
end
theorem gD.grows{h h':dN}(hs:∀ a o,h.get? a=some o->h'.get? a=some o):∀ {k:TK} {v:dB},gD h k v->gD h' k v:=fun c=>c.rec (motive_1:=fun k v _=>gD h' k v) (motive_2:=fun k v _=>gP h' k v) .non .int
  (λ{a} _ _ _ _ f d e _ ih=>.tup (hs a _ f) d e ih) .nil (λ_ _ a b=>.cons a b)
section
variable{P:dF}{w:dH}{A:dG}{E:dB->dD->Prop}{s:dD}{p:dE}{xs:List (TK×dE×dB)}
end
section
variable{P:dF}{w:dH}{A:dG}{E:dB->dD->Prop}
end
section
variable{X:Cx}
end
section
variable{X:Cx}{pos:Pos}
theorem ce{op:CmpOp}{x y:Expr}{f:FN}{a b:FE}(ho:gn X (compareOp op) (r2 X.K f))(hx:XE X x a)(hy:XE X y b)(hm:behindInMarks op y=J:=by exact ze _):XE X (.Compare x [op] [y] pos) (m2 f a b):=AM ho hx hy hm
theorem ct{op:CmpOp}{x y:Expr}{f:FN}{a b:FE}(ho:gn X (compareOp op) (r2 X.K f))(hx:XE X x a)(hy:XE X y b)(hm:behindInMarks op y=J:=by exact ze _):XT X (.Compare x [op] [y] pos) (mB (m2 f a b)):=qX ho hx hy hm
theorem kc{a:dR}{i:Nat}{l:List Nat}(x:Str)(r:∀i∈l,∃x,X.N[i]?=Z x/\a.names.lookup x=Z .free/\(X.env.kindOf x=Z .cell\/X.env.kindOf x=Z .free)/\(x,NameKind.cell)∉a.names)(h1:X.N[i]?=Z x:=by rfl)(h2:a.names.lookup x=Z .free:=by rfl)(c:X.env.kindOf x=Z .cell\/X.env.kindOf x=Z .free:=by first|exact Or.inl rfl|exact Or.inr rfl)(b:(x,NameKind.cell)∉a.names:=by decide+kernel):∀j∈i::l,∃x,X.N[j]?=Z x/\a.names.lookup x=Z .free/\(X.env.kindOf x=Z .cell\/X.env.kindOf x=Z .free)/\(x,NameKind.cell)∉a.names:=List.forall_mem_cons.mpr ⟨⟨x,h1,h2,c,b⟩,r⟩
end
structure eM (K:Fg1)(x:Str)(st:dQ)(f:dE):Prop where
 ns:wN1 K dI x=some (some (.ref f))
 fn:∃fd,xJ K x x st f fd
theorem GU{K:Fg1}{x:Str}{st:dQ}{f:dE}{h:dB}{g i:Option dE}{d:Array (Option dB)}{kV e j b ct:dB}(a:wN1 K dI x=Z (Z (.ref f)))(l:K.lookup f=Z ⟨h,g,.func (wF1 x x (hC st) (fq st) (ec st) .none kV e j i b ct),d⟩)(c:wC1 K b x=M)(k:wK1 K (.ref f)=M):eM K x st f:=⟨a,_,zV l c k⟩
theorem xo{P:dF}{w:dH}{K:Fg1}{mg:Str->Option dB}{base h:dN}{x:Str}{st:dQ}{f:dE}{N ps:List Str}{k n:Nat}{b:FS}(X:K.In h)(G:h.Ns dI mg)(F:eM K x st f)(S:gg N ps (ec st))(hb:∀(kV g l:dB) (j:Option dE) (a ct:dB) (e:List dB),e.length=ps.length->bindArgs (wF1 x x (hC st) (fq st) (ec st) .none kV g l j a ct) ⟨e,[]⟩=pure (ps.zip e))(d:∀(f:dE) (a:dB) (A:dG) (c:List Env) (s:dD) (H:Hp) (E:XK),fN k (A.deeper (envOfC x (ec st) s.heap.objs.size f a)) ->
   xz (lZ tw P w K mg base N x (ec st) f a A c s H E).nox (fq st) b)(hn:ps.length=n:=by rfl):fO P w K mg base (k+1) x n (iF N.length b):=by
 obtain⟨fd,i⟩:=F.fn;exact AK i (i.binds hb) (wM1 X G F.ns) S hn (d f)
section
variable{X:Cx}{ag:List (dE×Obj)}{σ:L2.St}{H:Hp}{s:dD}{mu:List dE}
end
section
variable{P:dF}{w:dH}{A:dG}{E:dB->dD->Prop}{s:dD}{a x:dE}{xs:List (TK×dE×dB)}{k:TK}
end
section
variable{X:Cx}
end
section
variable{X:Cx}{o e:Expr}{es:List Expr}{to:TE}{t:TA}{name:Str}{apos cpos:Pos}{id:String}{r:V->List V->Hp->VK->Prop}
end
section
variable{X:Cx}
end
section
variable{X:Cx}{x y z u:Expr}{pos:Pos}{f g k:FN}{a b c d:FE}{op op' op'':CmpOp}{ta tb tc td:TE}
end
structure Blt (L:List Str)(mg:Str->Option dB):Prop where
 h:∀x∈L,mg x=none
theorem bz{L:List Str}{mg:Str->Option dB}{x:Str}(B:Blt L mg)(h:x∈L:=by decide):mg x=Y:=B.h x h
theorem sk{N P:List Str}{sc:dR}(h1:sc.kind = .function:=by rfl)(h2:sc.isCoroutine=J:=by rfl)(e:sc.isGenerator=J:=by rfl)(a:N.Nodup:=by decide+kernel)(d:N.take P.length=P:=by rfl)(c:∀x∈P,sc.names.lookup x=Z .local\/sc.names.lookup x=Z .cell:=by decide+kernel)(b:∀y∈sc.names,y.2 ≠ .free:=by decide+kernel):gg N P sc:=⟨h1,h2,e,a,d,c,b⟩
def Hl(K:Fg1):List Str->Prop
 |[]=>True
 |x::l=>wN1 K dI x=Z Y/\Hl K l
theorem Hl.blt{K:Fg1}{mg:Str->Option dB}{h:dN}(X:K.In h)(G:h.Ns dI mg):∀{L:List Str},Hl K L->Blt L mg
 |[],_=>⟨λ_ m=>nomatch m⟩
 |_::_,z=>⟨λ_ m=>match m with
  | .head _=>PySem.W.mg_none_of X G z.1
  | .tail _ m=>(Hl.blt X G z.2).h _ m⟩
noncomputable def Hx:List Str->Bool
 |[]=>M
 |x::l=> !l.contains x&&Hx l
theorem g0:∀{l:List Str},Hx l=M->l.Nodup
 |[],_=>bq
 |x::l,h=>by
  obtain⟨a,b⟩:=(bA1 _ _).mp h;exact aN.mpr ⟨λm=>(by rw[cR.mpr m]at a;cases a),g0 b⟩
section
variable{X:Cx}{pos:Pos}{k:Nat}{x:Str}{i:Nat}{e y:Expr}{es:List Expr}{m b:FE}{a:FA}{p:Pos}
theorem xv (hN:X.N[i]?=Z x:=by rfl)(hv:Vis X.env.scope x:=by first|exact Or.inl rfl|exact Or.inr (Or.inl rfl)|exact Or.inr (Or.inr rfl))(hd:(x == ("__debug__":Str))=J:=by decide)(hcd:(x == ("__classdict__":Str))=J:=by decide):XE X (.Name x pos) (mV i):=Jl i hN hv hd hcd
theorem gq(hN:Hx X.N=M:=by rfl)(hi:X.N[i]?=Z x:=by rfl)(hx:uO X.env.scope x:=by first|exact Or.inl rfl|exact Or.inr rfl)(hf:X.fn x=M\/X.env.scope.names.lookup x=Z .local:=by first|exact .inl rfl|exact .inr rfl|assumption):XG X (.Name x pos) (gN i):=qO i (g0 hN) hi hx hf
theorem sq(he:XE X e m)(hN:Hx X.N=M:=by rfl)(hi:X.N[i]?=Z x:=by rfl)(hx:uO X.env.scope x:=by first|exact Or.inl rfl|exact Or.inr rfl)(hs:swapsWith e (Z (.Name x p)) pos.line X.env=pure J:=by rfl)(hf:X.fn x=M\/X.env.scope.names.lookup x=Z .local:=by first|exact .inl rfl|exact .inr rfl|assumption):XS X (.Assign [.Name x p] e pos) (eh m (gN i)):=qY i (g0 hN) hi hx he hs hf
theorem jq(hx:XE X e m)(hy:XE X y b)(hr:fN k X.A:=by assumption)(hs:mo y:=by intro _ _;rfl):XE X (.Subscript e y pos) (m2 (b2 dW) m b):=qJ (qP hr.units) hx hy hs
theorem oq{au:Prop}(o:X.A.units+64<cLine->au)(hr:fN k X.A:=by assumption):au:=o hr.units
theorem wn {k' n:Nat}{f:FN}(h:fO X.prog X.w X.K X.mg X.base k x n f)(ha:XA X (e::es) a)(hr:fN k' X.A:=by assumption)(hk:k<=k':=by first|decide|omega)(hg:Gl X x:=by rfl)(hdb:(x == ("__debug__":Str))=J:=by decide)(he:dJ (e::es) X.env=(J,eval e X.env)::dJ es X.env:=by rfl)(hpl:(backTo pos (dJ es X.env)).any (·.1)=J:=by rfl):XE X (.Call (.Name x p) (e::es) [] pos) (mN (dX n f) a):=qH h hr hk hg ha hdb he hpl
theorem cn {id:String}{f:FN}(hc:fj X (.builtin id) (rN X.K f))(ha:XA X (e::es) a)(hm:X.mg x=Y:=by exact bz (by assumption))(hg:Gl X x:=by rfl)(hv:bootBuiltins x=Z (.builtin id):=by decide+kernel)(hn:x≠"__name__":=by decide)(hdb:(x == ("__debug__":Str))=J:=by decide)(he:dJ (e::es) X.env=(J,eval e X.env)::dJ es X.env:=by rfl)(hpl:(backTo pos (dJ es X.env)).any (·.1)=J:=by rfl):XE X (.Call (.Name x p) (e::es) [] pos) (mN f a):=qD hc hg hm hv ha hn hdb he hpl
theorem cz {T:String}{f:FN}(hc:fj X (.type T) (rN X.K f))(ha:XA X (e::es) a)(hm:X.mg x=Y:=by exact bz (by assumption))(hg:Gl X x:=by rfl)(hv:bootBuiltins x=Z (.type T):=by decide+kernel)(hn:x≠"__name__":=by decide)(hdb:(x == ("__debug__":Str))=J:=by decide)(he:dJ (e::es) X.env=(J,eval e X.env)::dJ es X.env:=by rfl)(hpl:(backTo pos (dJ es X.env)).any (·.1)=J:=by rfl):XE X (.Call (.Name x p) (e::es) [] pos) (mN f a):=qE hc hg hm hv ha hn hdb he hpl
theorem a1(h:XE X e m)(hs:dJ [e] X.env=(J,eval e X.env)::dJ [] X.env:=by rfl):XA X [e] (dS m dU):=qA h qN hs
theorem a2(h:XE X e m)(g:XE X y b)(hs:dJ [e,y] X.env=(J,eval e X.env)::dJ [y] X.env:=by rfl)(hs2:dJ [y] X.env=(J,eval y X.env)::dJ [] X.env:=by rfl):XA X [e,y] (dS m (dS b dU)):=qA h (a1 g hs2) hs
theorem a3{z:Expr}{c:FE}(h:XE X e m)(g:XE X y b)(l:XE X z c)(hs:dJ [e,y,z] X.env=(J,eval e X.env)::dJ [y,z] X.env:=by rfl)(hs2:dJ [y,z] X.env=(J,eval y X.env)::dJ [z] X.env:=by rfl)(a:dJ [z] X.env=(J,eval z X.env)::dJ [] X.env:=by rfl):XA X [e,y,z] (dS m (dS b (dS c dU))):=qA h (a2 g l hs2 a) hs
theorem ir (ha:XA X [e] a)(hm:X.mg "range"=Y:=by exact bz (by assumption))(hg:Gl X "range":=by rfl)(hs:dJ [e] X.env=[(J,eval e X.env)]:=by rfl):XI X y (.Call (.Name "range" p) [e] [] pos) (uw a):=tL hg hm ha hs
theorem ie {elts:List Expr}{b:Nat}{tpos:Pos}(ha:XA X [e] a)(hm:X.mg "enumerate"=Y:=by exact bz (by assumption))(hg:Gl X "enumerate":=by rfl)(hs:dJ [e] X.env=[(J,eval e X.env)]:=by rfl):XI X (.Tuple elts b tpos) (.Call (.Name "enumerate" p) [e] [] pos) (Fq a):=xP hg hm ha hs
structure Lm (X:Cx)(name:Str)(id:String)(f:FN):Prop where
 s:Slot "list" name id
 t:typeOf (.builtin id)=pure (.type "method_descriptor")
 m:C2 X id (λx xs H Q=>rN X.K f (x::xs) H Q)
theorem ap:Lm X "append" "list.append" (b2 js):=⟨PySem.F.slot_list_append,PySem.F.type_list_append,FC⟩
theorem lq{f:FN}{name:Str}{apos:Pos}{id:String}(s:Lm X name id f)(ho:XE X y m)(ha:XA X (e::es) a)(hbase:attributeBase y name X.env (eval y X.env)=eval y X.env:=by rfl)(hfew:((backTo pos (dJ (e::es) X.env)).all (λx=> !x.1)&&(backToKw pos (keywordEach [] X.env)).all (λx=>x.1.isSome)&&decide ((e::es).length+([]:List Keyword).length+(if([]:List Keyword).isEmpty then 0 else 1)<30))=M:=by rfl)(hline:(apos.endLine == pos.line)=M:=by rfl)(hs:dJ (e::es) X.env=(J,eval e X.env)::dJ es X.env:=by rfl)(hplain:(backTo pos (dJ es X.env)).any (·.1)=J:=by rfl):XS X (.Expr (.Call (.Attribute y name apos) (e::es) [] pos) p) (fi (oI f m a)):=jM (qe s.s s.t s.m ho ha hbase hfew hline hs hplain)
theorem fo{tg iter:Expr}{a:List dQ}{m:FI}{g:FG}{b:FS}(hi:XI X tg iter m)(hg:XG X tg g)(hb:xz X a b)(hp:PassesOwn (model X.prog X.w) X.A X.env X.xe:=by exact PassesOwn.never)(hc:X.calm=M:=by rfl)(hs:∀x,foldedSetIterable iter X.env x=pure x:=by intro _;rfl):XS X (.For tg iter a [] pos) (iW m g b):=qW hp hc hi hg hb hs
theorem tg2{d:Expr}{g h:FG}{a:Nat}(h1:XG X e g)(h2:XG X d h)(hc:X.calm=M:=by rfl)(hs:(assignEach [e,d] X.env).map (·.2)=assign e X.env::(assignEach [d] X.env).map (·.2):=by rfl)(hs2:(assignEach [d] X.env).map (·.2)=assign d X.env::(assignEach [] X.env).map (·.2):=by rfl)(hn:(assignEach [e,d] X.env).length=2:=by rfl)(hst:(assignEach [e,d] X.env).findIdx? (·.1)=Y:=by rfl):XG X (.Tuple [e,d] a pos) (gT 2 (gCs g (gCs h gNl))):=gR hc (d8 h1 (d8 h2 gi hs2) hs) hn hst
noncomputable def Hy(x:Str):List (Str×NameKind)->Bool
 |[]=>M
 |(y,.cell)::l=> !(y == x)&&Hy x l
 |_::l=>Hy x l
omit k i in
theorem zh:∀{l:List (Str×NameKind)},Hy x l=M->(x,NameKind.cell)∉l
 |[],_,m=>nomatch m
 |(y,c)::l,h,m=>by
  rcases aF.mp m with e|a
  ·cases e;have h:=((bA1 _ _).mp h).1;rw[beq_self_eq_true]at h;cases h
  ·cases c with
   |cell=>exact zh ((bA1 _ _).mp h).2 a
   |_=>exact zh (l:=l) h a
theorem kz{a:dR}{l:List Nat}(r:∀i∈l,∃x,X.N[i]?=Z x/\a.names.lookup x=Z .free/\(X.env.kindOf x=Z .cell\/X.env.kindOf x=Z .free)/\(x,NameKind.cell)∉a.names)(h1:X.N[i]?=Z x:=by rfl)(h2:a.names.lookup x=Z .free:=by rfl)(c:X.env.kindOf x=Z .cell\/X.env.kindOf x=Z .free:=by first|exact Or.inl rfl|exact Or.inr rfl)(b:Hy x a.names=M:=by rfl):∀j∈i::l,∃x,X.N[j]?=Z x/\a.names.lookup x=Z .free/\(X.env.kindOf x=Z .cell\/X.env.kindOf x=Z .free)/\(x,NameKind.cell)∉a.names:=kc x r h1 h2 c (zh b)
noncomputable def Je(X:Cx)(sc:dR):List (Str×dE):=(i6 X.env.cells sc.names []).getD []
theorem fk{elt tg iter:Expr}{ifs:List Expr}{scope:dR}(T:List Str){keep:List Nat}{m:FI}{g:FG}{t:FT}{e:FE}(hi:XI X tg iter m)(hb:∀ {s H f},HH (cxC X scope (Je X scope) T keep s H f) X.K tg ifs elt g t e)(c:∀i∈keep,∃x,X.N[i]?=Z x/\scope.names.lookup x=Z .free/\(X.env.kindOf x=Z .cell\/X.env.kindOf x=Z .free)/\(x,NameKind.cell)∉scope.names:=by first|exact cS _|exact kz (cS _)|exact kz (kz (cS _))|exact kz (kz (kz (cS _)))|exact kz (kz (kz (kz (cS _)))))(hc:X.calm=M:=by rfl)(b:scope.kind = .function:=by rfl)(a:∀x∈scope.names,x.2 = .local->scope.names.lookup x.1=Z .local:=by decide+kernel)(d:i6 X.env.cells scope.names []=Z (Je X scope):=by rfl)(hs:∀x,foldedSetIterable iter X.env x=pure x:=by intro _;rfl):XE X (.ListComp elt [⟨tg,iter,ifs,0⟩] scope pos) (e6 T.length keep m g t (eI e)):=qZ hc ⟨b,a,c⟩ d hi (λ_ _ _=>hb) hs
end
theorem xq{P:dF}{w:dH}{K:Fg1}{mg:Str->Option dB}{base h:dN}{x:Str}{st:dQ}{f:dE}{k n:Nat}{b:FS}(N:List Str)(X:K.In h)(G:h.Ns dI mg)(F:eM K x st f)(d:∀{f:dE} {a:dB} {A:dG} {c:List Env} {s:dD} {H:Hp} {E:XK},fN k (A.deeper (envOfC x (ec st) s.heap.objs.size f a)) ->
   xz (lZ tw P w K mg base N x (ec st) f a A c s H E).nox (fq st) b)(S:gg N (N.take n) (ec st):=by exact sk)(hb:∀(kV i m:dB) (j:Option dE) (a ct:dB) (g:List dB),g.length=(N.take n).length->bindArgs (wF1 x x (hC st) (fq st) (ec st) .none kV i m j a ct) ⟨g,[]⟩=pure ((N.take n).zip g):=by
   intro _ _ _ _ _ _ g e;first|exact I7 e λ_=>rfl|exact I1 e λ_ _=>rfl|exact I0 e λ_ _ _=>rfl|exact IZ e λ_ _ _ _=>rfl)(hn:(N.take n).length=n:=by rfl):fO P w K mg base (k+1) x n (iF N.length b):=xo X G F S hb (λ_ _ _ _ _ _ _ l=>d l) hn
open AutoSeq1 (wpAny_loadPart')
section
variable{X:Cx}
end
mutual
noncomputable def pl:D->Bool
 | .non=>M
 | .bl _=>M
 | .int _=>M
 | .str _=>M
 | .tup xs=>me xs
 |_=>J
noncomputable def me:List D->Bool
 |[]=>M
 |x::xs=>pl x&&me xs
end
section
variable{X:Cx}{ag:List (dE×Obj)}{σ:L2.St}{H:Hp}{s:dD}{mu:List dE}{S:Sto}
mutual
theorem u9(I:Inv X ag σ H s):∀{d d':D} {v:V},pl d=M->pl d'=M->eJ X.K H mu d v->eJ X.K H mu d' v->d=d'
 | .non,d',_,_,h,.non,r=>by cases r;rfl
 | .bl b,d',_,_,h,.bl _,r=>by cases r;rfl
 | .int i,d',_,_,h,.int _,r=>by cases r;rfl
 | .str x,d',_,_,h,.str _,r=>by cases r;rfl
 | .tup xs,d',_,g,h,.tup q t,r=>by
  cases r with
  |tup c a=>
   have e:=I.tuple_inj q c;subst e;rw[pl]at g h;rw[rF I g h t a]
  |rol _ _=>cases h
  |ref _=>cases h
  |fn _=>cases h
 | .rol _,_,_,g,_,_,_=>by cases g
 | .ref _,_,_,g,_,_,_=>by cases g
 | .fn _,_,_,g,_,_,_=>by cases g
theorem rF(I:Inv X ag σ H s):∀{ds a:List D} {vs:List V},me ds=M->me a=M->d0 X.K H mu ds vs->d0 X.K H mu a vs->ds=a
 |[],_,_,_,_,.nil,r=>by cases r;rfl
 |d::ds,_,_,g,h,.cons r t,z=>by
  cases z with
  |cons b c=>
   rw[me,bA1]at g h;rw[u9 I g.1 h.1 r b,rF I g.2 h.2 t c]
end
end
noncomputable def i0:D->Option Bool
 | .tup (.int _::_)=>Z M
 | .tup (.tup _::_)=>Z J
 |_=>Y
noncomputable def Iq(a b:D):Bool:=jK [] 51 a b == Z M
noncomputable def wX(a:D):List D->List D
 |[]=>[a]
 |b::l=>if Iq a b=M then a::b::l else b::wX a l
noncomputable def jR:List D->List D
 |[]=>[]
 |a::l=>wX a (jR l)
noncomputable def oM(a b:D):Bool:=jK [] 51 a b == Z M&&jK [] 51 b a == Z J
noncomputable def lD:List D->Bool
 |[]=>M
 |a::l=>l.all (oM a)&&lD l
theorem j5:∀{l:List D} {i j:Nat} {a b:D},lD l=M->l[i]?=Z a->l[j]?=Z b->i<j->oM a b=M
 |[],i,j,a,b,_,h,_,_=>by simp at h
 |x::l,0,j+1,a,b,h,h1,h2,_=>by
  rw[lD,bA1,bD]at h;simp at h1 h2;subst h1;exact h.1 b (gM1 h2)
 |x::l,i+1,j+1,a,b,h,h1,h2,hij=>by
  rw[lD,bA1]at h;exact j5 h.2 (by simpa using h1) (by simpa using h2) (by lia)
 |x::l,i,0,a,b,_,_,_,hij=>by lia
abbrev Tr:=D×V×dB
noncomputable def wV(a:Tr):List Tr->List Tr
 |[]=>[a]
 |b::l=>if Iq a.1 b.1=M then a::b::l else b::wV a l
noncomputable def rr:List Tr->List Tr
 |[]=>[]
 |a::l=>wV a (rr l)
theorem oS(a:Tr):∀l:List Tr,(wV a l).Perm (a::l)
 |[]=>.refl _
 |b::l=>by
  rw[wV];split
  ·exact .refl _
  ·exact((oS a l).cons b).trans (.swap _ _ _)
theorem mz:∀l:List Tr,(rr l).Perm l
 |[]=>.refl _
 |a::l=>(oS a _).trans ((mz l).cons a)
theorem sA(a:Tr):∀l:List Tr,(wV a l).map (·.1)=wX a.1 (l.map (·.1))
 |[]=>rfl
 |b::l=>by
  rw[wV,mP1,wX];split
  ·rfl
  ·rw[mP1,sA a l]
theorem oh:∀l:List Tr,(rr l).map (·.1)=jR (l.map (·.1))
 |[]=>rfl
 |a::l=>by rw[rr,mP1,jR,sA,oh l]
section
variable{prog:dF}{w:dH}{A:dG}{E:dB->dD->Prop}{s:dD}
theorem BS{a b:dE}{k l:Int}{t u:Tok}{g zs:List dB}{c:Bool}{Q:Bool->dD->Prop}(ha:IsTup s.heap a (Value.int k t::g).toArray)(hb:IsTup s.heap b (Value.int l u::zs).toArray)(f:k≠l/\c=decide (k<l)\/k=l/\tu A s g zs c)(h:Q c s):
  dM (model prog w) A (keyLt' (tuples' M) (.ref a) (.ref b)) Q E s:=by
 rcases f with⟨f,rfl⟩|⟨rfl,L⟩
 ·exact EL ha hb f h
 rw[iD];obtain⟨o,y,D,_,B⟩:=ha;obtain⟨C,r,F,_,v⟩:=hb;refine wB1 (listItems_at y B (wB1 (listItems_at r v ?_)));rw[bV,bM,bG];refine wB1 (wB1 ?_);dsimp only;refine wB1 (wpAny_eqBool_int ?_);simp only[beq_self_eq_true,b7,bF1,if_false];refine wP1 ?_;refine wpAny_mono (wpAny_forIn_list _ (λrest b s'=>s'=s/\b=(Y,()) /\ ∃(i:Nat) (vs ws:List dB),rest=(vs.zip ws).zipIdx (i+1)/\tu A s vs ws c/\vs.length+zs.length=ws.length+g.length)
  (λb s'=>s'=s/\(b=(Z c,())\/(b=(Y,())/\c=decide (g.length<zs.length)))) ?_ ?_ _ _ ⟨O,O,0,g,zs,O,L,by lia⟩) ?_ λ_ _ e=>e
 ·rintro x rest b s' ⟨rfl,rfl,i,vs,ws,d,m,j⟩;cases m with
  |nn=>simp at d
  |nc _ _=>simp at d
  |cn _ _=>simp at d
  | @eq p q ps n _ e t=>
   rw[bV,bM]at d;cases d;refine wB1 (e.of_in1 prog w E _ ?_);simp only[b7,bF1,if_false];exact wP1 ⟨O,O,i+1,ps,n,O,t,by simp at j;lia⟩
  | @lt p q ps n _ e t=>
   rw[bV,bM]at d;cases d;refine wB1 (e.of_in1 prog w E _ ?_);simp only[cp,if_true];rw[show(M&&(i+1 == 0))=J from rfl];exact wB1 (yW t (wP1 ⟨O,.inl O⟩))
 ·rintro b s' ⟨rfl,rfl,i,vs,ws,d,m,j⟩;refine⟨O,.inr ⟨O,?_⟩⟩;cases m with
  |nn=>simp at j;rw[ai (by lia)]
  |nc _ _=>simp at j;rw[ah (by lia)]
  |cn _ _=>simp at j;rw[ai (by lia)]
  |eq _ _=>simp at d
  |lt _ _=>simp at d
 ·rintro b s' ⟨rfl,z⟩;rcases z with rfl|⟨rfl,z⟩
  ·exact wP1 h
  ·refine wP1 ?_;rw[sT1,sT1,lC1,lC1,show decide (g.length+1<zs.length+1)=c by rw[z];congr 1;simp];exact h
end
section
variable{X:Cx}{ag:List (dE×Obj)}{σ:L2.St}{H:Hp}{s:dD}{mu:List dE}{S:Sto}
theorem ER(I:Inv X ag σ H s)(hs:Sim X.K H mu S){A:dG}(P:A.units+60<cLine){f:Bool}{d e:D}{v w:V}{u z:dB}{b:Bool}(y:eJ X.K H mu d v)(F:eJ X.K H mu e w)(G:d7 v u)(C:d7 w z)(hd:i0 d=Z f)(he:i0 e=Z f)(h:jK S 51 d e=Z b){E:dB->dD->Prop}{Q:Bool->dD->Prop}(q:Q b s):dM (model X.prog X.w) A (keyLt' (tuples' f) u z) Q E s:=by
 have B:∀{xs ys:List D} {vs ws:List V} {us zs:List dB} {b:Bool},d0 X.K H mu xs vs->d0 X.K H mu ys ws->ei vs us->ei ws zs->nS (gp S 50) (jK S 50) xs ys=Z b->tu A s us zs b:=
  λj g i a h=>zx I hs (A:=A) (n:=50) (by lia) (λao r2 K au h=>uq I hs 50 (A:=A.in1) (by show A.units+1+50<cLine;lia) ao r2 K au h) j g i a h
 unfold i0 at hd he;split at hd
 ·rename_i k _;cases hd;split at he
  ·rename_i l _;cases y with
   |tup x j=>
   cases F with
   |tup r g=>
   obtain⟨o,i,p,_⟩:=I.tuple x;obtain⟨m,a,t,_⟩:=I.tuple r;cases G;cases C;cases j with
   |cons a1 j=>
   cases g with
   |cons a2 g=>
   cases a1;cases a2;cases i with
   |cons am i=>
   cases a with
   |cons N a=>
   obtain⟨tk,rfl⟩:=am;obtain⟨L,rfl⟩:=N;refine BS p t ?_ q;have h:nS (gp S 50) (jK S 50) (.int k::_) (.int l::_)=Z b:=h;rw[nS]at h;by_cases c:k=l
   ·subst c;exact .inr ⟨rfl,B j g i a (by
     have e:gp S 50 (.int k) (.int k)=Z M:=by show Z (decide (k=k))=_;simp
     rw[e]at h;exact h)⟩
   ·refine .inl ⟨c,?_⟩;have e:gp S 50 (.int k) (.int l)=Z J:=by show Z (decide (k=l))=_;simp[c]
    rw[e]at h;have h:Z (decide (k<l))=Z b:=h;exact(Option.some.inj h).symm
  ·cases he
  ·cases he
 ·cases hd;split at he
  ·cases he
  ·cases y with
   |tup x j=>
   cases F with
   |tup r g=>
   obtain⟨o,i,p,_⟩:=I.tuple x;obtain⟨m,a,t,_⟩:=I.tuple r;cases G;cases C;exact EK p t (B j g i a h) q
  ·cases he
 ·cases hd
theorem Dr(I:Inv X ag σ H s)(hs:Sim X.K H mu S){A:dG}(hu:A.units+60<cLine){f:Bool}{ds:List D}{vs:List V}{its:List dB}(r:d0 X.K H mu ds vs)(rv:ei vs its)(hp:me ds=true)(hk:∀d∈ds,i0 d=some f)(hr:lD (jR ds)=true):
  ∃(G:List V) (ws:List dB),d0 X.K H mu (jR ds) G/\ei G ws/\its.Perm ws/\G.length=vs.length /\
   ∀c:dN,(∀b o,s.heap.get? b=Z o->c.get? b=Z o)->ln X.prog X.w A {s with heap:=c} (tuples' f) ws (pairsOf its) /\
    (its≠[] -> ∀(E:dB->dD->Prop) (Q:SortKind->dD->Prop),Q (tuples' f) {s with heap:=c}->dM (model X.prog X.w) A (keyKind' its.toArray) Q E {s with heap:=c}):=by
 have w:∀{l:List D},me l=M -> ∀d∈l,pl d=M:=by
  intro l
  induction l with
  |nil=>intro _ d h;cases h
  |cons x l ih=>
   intro h d L;rw[me,bA1]at h;rcases aF.mp L with rfl|z
   ·exact h.1
   ·exact ih h.2 d z
 have und:∀n,(∀d:D,pl d=M->d.und n=M) /\ ∀l:List D,me l=M->D.unds n l=M:=λn=>by
  refine⟨λd=>?_,λl=>?_⟩
  ·exact D.rec (motive_1:=λd=>pl d=M->d.und n=M) (motive_2:=λl=>me l=M->D.unds n l=M) (λ_=>rfl) (λ_ _=>rfl) (λ_ _=>rfl) (λ_ _=>rfl) (λxs ih h=>by rw[pl]at h;rw[D.und];exact ih h) (λ_ _ h=>by cases h) (λ_ h=>by cases h) (λ_ h=>by cases h) (λ_=>rfl) (λx xs h1 h2 h=>by rw[me,bA1]at h;rw[D.unds,h1 h.1,h2 h.2];rfl) d
  ·exact D.rec_1 (motive_1:=λd=>pl d=M->d.und n=M) (motive_2:=λl=>me l=M->D.unds n l=M) (λ_=>rfl) (λ_ _=>rfl) (λ_ _=>rfl) (λ_ _=>rfl) (λxs ih h=>by rw[pl]at h;rw[D.und];exact ih h) (λ_ _ h=>by cases h) (λ_ h=>by cases h) (λ_ h=>by cases h) (λ_=>rfl) (λx xs h1 h2 h=>by rw[me,bA1]at h;rw[D.unds,h1 h.1,h2 h.2];rfl) l
 have tri:∃aq:List Tr,aq.map (·.1)=ds/\aq.map (·.2.1)=vs/\aq.map (·.2.2)=its /\ ∀y∈aq,eJ X.K H mu y.1 y.2.1/\d7 y.2.1 y.2.2:=by
  clear hk hr hp
  induction ds generalizing vs its with
  |nil=>cases r;cases rv;exact⟨[],O,O,O,λy h=>by cases h⟩
  |cons d ds ih=>
   cases r with
   |cons F t=>
   cases rv with
   |cons ao tt=>
   obtain⟨aq,K,am,p,ok⟩:=ih t tt;refine⟨(d,_,_)::aq,by rw[mP1,K],by rw[mP1,am],by rw[mP1,p],λy m=>?_⟩;rcases aF.mp m with rfl|z
   ·exact⟨F,ao⟩
   ·exact ok y z
 obtain⟨aq,rfl,rfl,rfl,ok⟩:=tri;have N:=mz aq;have em:=oh aq;rw[<- em]at hr ⊢;generalize hZ:rr aq=wq at *
 have g:∀y∈wq,y∈aq:=λy m=>N.mem_iff.mp m;refine⟨wq.map (·.2.1),wq.map (·.2.2),?_,?_,(N.map _).symm,by rw[lM1,lM1,N.length_eq],λc keep=>⟨⟨?_,?_,?_⟩,λU E Q q=>?_⟩⟩
 ·clear hr hZ em N
  induction wq with
  |nil=>exact .nil
  |cons y wq ih=>exact .cons (ok y (g y mS1)).1 (ih λz hz=>g z (mC1 _ hz))
 ·clear hr hZ em N
  induction wq with
  |nil=>exact .nil
  |cons y wq ih=>exact .cons (ok y (g y mS1)).2 (ih λz hz=>g z (mC1 _ hz))
 ·refine cw.mpr fun i j hi hj au e=>?_;rw [lM1] at hi hj;rw [List.getElem_map,List.getElem_map] at e;have C:=g _ (bU hi);have B:=g _ (bU hj);have R:=j5 hr (i:=i) (j:=j) (a:=wq[i].1) (b:=wq[j].1) (by rw [gP1,gG1 hi];rfl) (by rw [gP1,gG1 hj];rfl) au;obtain ⟨F,ao⟩:=ok _ C;obtain ⟨r2,q2⟩:=ok _ B;have h1:=hk wq[i].1 (ci.mpr ⟨_,C,rfl⟩);have h2:=hk wq[j].1 (ci.mpr ⟨_,B,rfl⟩);have isT:∀ {d:D} {v:V} {u:dB},i0 d=some f->eJ X.K H mu d v->d7 v u -> ∃ a,v = .ref a/\u = .ref a:=fun {d v u} L rd ru=>by
   cases rd with
   |tup _ _=>cases ru;exact⟨_,O,O⟩
   |_=>cases L
  obtain⟨a1,K,am⟩:=isT h1 F ao;obtain⟨a2,p,e4⟩:=isT h2 r2 q2;rw[am,e4]at e;cases e;rw[K]at F;rw[p]at r2;have e:=u9 I (w hp _ (ci.mpr ⟨_,C,O⟩)) (w hp _ (ci.mpr ⟨_,B,O⟩)) F r2;unfold oM at R;rw[e,bA1,beq_iff_eq,beq_iff_eq]at R;rw[R.1]at R;cases R.2
 ·rw[pairsOf_toList];have:(aq.map (·.2.2) |>.zip (aq.map (·.2.2))).map (·.1)=aq.map (·.2.2):=List.map_fst_zip (nR1 _);rw[this];exact(N.map _).symm
 ·intro x y i j hx m au E Q q;rw[gP1]at hx m;obtain⟨yi,T,rfl⟩:=oM1.mp hx;obtain⟨yj,hyj,rfl⟩:=oM1.mp m;have C:=g _ (gM1 T);have B:=g _ (gM1 hyj);have P:Inv X ag σ H {s with heap:=c}:=I.kept (t':=s.toks) keep;have ki:(wq.map (·.1))[i]?=Z yi.1:=by rw[gP1,T];rfl
  have kj:(wq.map (·.1))[j]?=Z yj.1:=by rw[gP1,hyj];rfl
  have pi:=(und 0).1 _ (w hp _ (ci.mpr ⟨_,C,O⟩));have pj:=(und 0).1 _ (w hp _ (ci.mpr ⟨_,B,O⟩));refine ER P hs hu (ok _ C).1 (ok _ B).1 (ok _ C).2 (ok _ B).2 (hk _ (ci.mpr ⟨_,C,O⟩)) (hk _ (ci.mpr ⟨_,B,O⟩)) ?_ q;rw[vx pi pj];by_cases z:i<j
  ·have:=j5 hr ki kj z;unfold oM at this;simp only[bA1,beq_iff_eq]at this;rw[ah z];exact this.1
  ·have:=j5 hr kj ki (by lia);unfold oM at this;simp only[bA1,beq_iff_eq]at this;rw[ai z];exact this.2
 ·have P:Inv X ag σ H {s with heap:=c}:=I.kept (t':=s.toks) keep;have L:∀ y∈aq,∃ a xs,y.2.2 = .ref a/\IsTup c a xs/\(if f=true then ∃ k t ps,xs=(Value.int k t::ps).toArray else ∃ b ps qs,xs=(Value.ref b::ps).toArray/\IsTup c b qs):=fun y m=>by
   have h1:=hk y.1 (ci.mpr ⟨_,m,O⟩);obtain⟨F,ao⟩:=ok y m;obtain⟨d,v,u⟩:=y;dsimp only at *
   unfold i0 at h1;split at h1
   ·cases h1;cases F with
    |tup q t=>
    obtain⟨is,W,i1,_⟩:=P.tuple q;cases t with
    |cons a1 t=>
    cases a1;cases W with
    |cons w1 W=>
    obtain⟨tk,rfl⟩:=w1;cases ao;exact⟨_,_,O,i1,by rw[ak O];exact⟨_,_,_,O⟩⟩
   ·cases h1;cases F with
    |tup q t=>
    obtain⟨is,W,i1,_⟩:=P.tuple q;cases t with
    |cons a1 t=>
    cases a1 with
    |tup q2 t2=>
    obtain⟨is2,v2,i2,_⟩:=P.tuple q2;cases W with
    |cons w1 W=>
    cases w1;cases ao;exact⟨_,_,O,i1,by rw[aj aK];exact⟨_,_,_,O,i2⟩⟩
   ·cases h1
  cases f with
  |true=>
   refine EN U (λv hv=>?_) q;obtain⟨y,m,rfl⟩:=ci.mp hv;obtain⟨a,xs,K,am,p⟩:=L y m;rw[ak O]at p;obtain⟨k,t,ps,rfl⟩:=p;exact⟨a,k,t,ps,K,am⟩
  |false=>
   refine EM U (λv hv=>?_) q;obtain⟨y,m,rfl⟩:=ci.mp hv;obtain⟨a,xs,K,am,p⟩:=L y m;rw[aj aK]at p;obtain⟨b,ps,qs,rfl,e4⟩:=p;exact⟨a,_,ps,b,qs,K,am,O,e4⟩
end
section
variable{prog:dF}{w:dH}{A:dG}{E:dB->dD->Prop}{s:dD}
end
noncomputable def ng(l:List D):Option Bool:=match l with
 |[]=>Z M
 |d::l=>match i0 d with
  |some f=>if(l.all λe=>i0 e == Z f)=M then Z f else Y
  |none=>Y
theorem uy:∀{l:List D} {f:Bool},ng l=Z f -> ∀d∈l,i0 d=Z f
 |[],_,_,d,h=>by cases h
 |x :: l,f,h,d,hd=>by
  rw[ng]at h;cases hx:i0 x with
  |none=>rw[hx]at h;cases h
  |some g=>
   rw[hx]at h;dsimp only at h;split at h
   ·rename_i a;cases h;rcases aF.mp hd with rfl|z
    ·exact hx
    ·have:=bD.mp a d z
     rwa [beq_iff_eq]at this
   ·cases h
mutual
theorem pl_tk:∀k:TK,pl (tkD k)=M
 | .non=>rfl
 | .int _=>rfl
 | .tup xs=>by rw[tkD,pl];exact yK xs
theorem yK:∀ks:List TK,me (hG ks)=M
 |[]=>rfl
 |k::ks=>by rw[hG,me,pl_tk k,yK ks];rfl
end
section
variable{X:Cx}
end
noncomputable def Fs:Bool->Keyed->Array Keyed->Nat->Nat->Nat->StateT SortSt Sem (Option Nat):=sortPriv%PySem.Builtin.gallop
abbrev rk(ws:List dB)(p:Keyed):Nat:=rkV ws p.1
section
variable{prog:dF}{w:dH}{A:dG}{E:dB->dD->Prop}{s:dD}{κ:SortKind}{ws:List dB}{a₀:Array Keyed}
theorem ln.lt2(C:ln prog w A s κ ws a₀){st:SortSt}{p q:Keyed}{Q:Option Bool->SortSt->Prop}(hk:kindOf st=κ)(hp:p∈a₀)(b:q∈a₀)(a:rk ws p≠rk ws q)(h:Q (Z (decide (rk ws p<rk ws q))) st):wpS (model prog w) A E s (lt' p q) Q st:=by
 have at_:∀{p:Keyed},p∈a₀->ws[rk ws p]?=Z p.1:=λ{p} hp=>yz (C.keys.mem_iff.mp (ci.mpr ⟨_,cj.mpr hp,O⟩));rw[lt'_eq];refine wpS_bind (wpS_get ?_);rw[hk];exact wpS_bind (wpS_lift (wpAny_attempt (C.lt p.1 q.1 _ _ (at_ hp) (at_ b) a _ _ ⟨O,wpS_pure h⟩)))
noncomputable def bey(l:Bool)(key:Keyed)(arr:Array Keyed)(b i:Nat):StateT SortSt Sem (Option Bool):=elem' arr (b+i) >>= λx=>if l=M then lt' x key else lt' key x >>= λr=>pure (r.map λz=> !z)
theorem Ha(C:ln prog w A s κ ws a₀){st:SortSt}{l:Bool}{key p:Keyed}{arr:Array Keyed}{b i:Nat}{Q:Option Bool->SortSt->Prop}(hk:kindOf st=κ)(a:key∈a₀)(hp:arr[b+i]?=Z p)(hm:p∈a₀)(c:rk ws p≠rk ws key)(q:Q (Z (decide (rk ws p<rk ws key))) st):wpS (model prog w) A E s (bey l key arr b i) Q st:=by
 unfold bey;rw[elem'_eq,hp];refine wpS_bind (wpS_pure ?_);cases l with
 |true=>exact C.lt2 hk hm a c q
 |false=>
  refine wpS_bind (C.lt2 hk a hm (Ne.symm c) (wpS_pure ?_));have e:(!decide (rk ws key<rk ws p))=decide (rk ws p<rk ws key):=by rw[bS];simp;lia
  show Q (Z (!decide (rk ws key<rk ws p))) st;rw[e];exact q
theorem vK(C:ln prog w A s κ ws a₀){st:SortSt}{l:Bool}{key:Keyed}{arr:Array Keyed}{b n h:Nat}{R:Nat->Nat}{Q:Option Nat->SortSt->Prop}(hk:kindOf st=κ)(am:key∈a₀)(S:h<n)(D:∀i,i<n -> ∃p,arr[b+i]?=Z p/\p∈a₀/\rk ws p=R i/\R i≠rk ws key)(d:∀i j,i<j->j<n->R i<R j)(q:∀k,k<=n->(∀i,i<k->R i<rk ws key)->(∀i,k<=i->i<n->rk ws key<R i)->Q (Z k) st):wpS (model prog w) A E s (Fs l key arr b n h) Q st:=by
 have N:∀i,i<n -> ∀{Q:Option Bool->SortSt->Prop},Q (Z (decide (R i<rk ws key))) st->wpS (model prog w) A E s (bey l key arr b i) Q st:=λi hi Q I=>by
  obtain⟨p,h1,h2,F,y⟩:=D i hi;rw[<- F]at I y;exact Ha C hk am h1 h2 y I
 have ne:∀i,i<n->R i≠rk ws key:=λi hi=>by obtain⟨p,_,_,_,h⟩:=D i hi;exact h
 have K:∀ lo hi,lo<=hi->hi<=n->(∀ i,i<lo->R i<rk ws key)->(∀ i,hi<=i->i<n->rk ws key<R i) -> ∀ {f:Nat->Option (Option Nat)×Nat×Nat->StateT SortSt Sem (ForInStep (Option (Option Nat)×Nat×Nat))} {P:Option (Option Nat)×Nat×Nat->SortSt->Prop},
   (∀x c,f x c=(if c.2.1>=c.2.2 then pure (ForInStep.done (Y,c.2.1,c.2.2))else bey l key arr b (c.2.1+(c.2.2-c.2.1)/2) >>= λr=>match r with
    |some m=>if m=M then pure (ForInStep.yield (Y,c.2.1+(c.2.2-c.2.1)/2+1,c.2.2))else pure (ForInStep.yield (Y,c.2.1,c.2.1+(c.2.2-c.2.1)/2))
    |_=>pure (ForInStep.done (Z Y,c.2.1,c.2.2))))->(∀k c,k<=n->(∀i,i<k->R i<rk ws key)->(∀i,k<=i->i<n->rk ws key<R i)->c.1=Y->c.2.2=k->P c st)->wpS (model prog w) A E s (forIn [0:n] (Y,lo,hi) f) P st:=λlo hi h1 h2 F y f P V I=>by
  refine wpS_forRange (λx c st'=>st'=st /\ ∃lo hi,c=(Y,lo,hi)/\lo<=hi/\hi<=n/\hi-lo<=n-x/\(∀i,i<lo->R i<rk ws key) /\ ∀i,hi<=i->i<n->rk ws key<R i) ?_ ?_ ⟨O,lo,hi,O,h1,h2,by lia,F,y⟩
  ·rintro x c st' _ T ⟨rfl,lo,hi,rfl,L,g,o,a,B⟩;rw[V];dsimp only;by_cases z:lo>=hi
   ·rw[ak z];have e:lo=hi:=by lia
    subst e;exact wpS_pure (I lo _ g a B O O)
   ·rw[aj z];have hm:lo+(hi-lo)/2<hi:=by lia
    generalize wq:lo+(hi-lo)/2=m at *
    refine wpS_bind (N m (by lia) ?_);by_cases u:R m<rk ws key
    ·simp only[u,decide_true,if_true];refine wpS_pure ⟨O,m+1,hi,O,by lia,g,by lia,λi aq=>?_,B⟩;by_cases v:i=m
     ·rw[v];exact u
     ·exact bh (d i m (by lia) (by lia)) u
    ·simp only[u,decide_false,bF1,if_false];have G:rk ws key<R m:=by have:=ne m (by lia);lia
     refine wpS_pure ⟨O,lo,m,O,by lia,by lia,by lia,a,λi t H=>?_⟩;by_cases v:i=m
     ·rw[v];exact G
     ·exact bh G (d m i (by lia) H)
  ·rintro c st' ⟨rfl,lo,hi,rfl,L,g,o,a,B⟩;have e:lo=hi:=by lia
   subst e;exact I lo _ g a B O O
 unfold Fs;refine wpS_bind (N h S ?_);by_cases z:R h<rk ws key
 ·simp only[z,decide_true,if_true];refine wpS_bind (wpS_mono (wpS_forRange (λx c st'=>st'=st /\ ∃lo of,c=(Y,lo,of)/\x+1<=of/\lo<of/\h+lo<n/\R (h+lo)<rk ws key) (Q:=λc st'=>st'=st /\ ∃lo of,c=(Y,lo,of)/\lo<of/\h+lo<n/\R (h+lo)<rk ws key /\ ∀i,h+min of (n-h)<=i->i<n->rk ws key<R i) ?_ ?_ ⟨O,0,1,O,by lia,by lia,S,z⟩) ?_)
  ·rintro x c st' _ T ⟨rfl,lo,of,rfl,L,g,o,a⟩;dsimp only;by_cases ao:of>=n-h
   ·rw[ak ao];exact wpS_pure ⟨O,lo,of,O,g,o,a,λi t H=>by lia⟩
   ·rw[aj ao];refine wpS_bind (N (h+of) (by lia) ?_);by_cases u:R (h+of)<rk ws key
    ·simp only[u,decide_true,b7,bF1,if_false];exact wpS_pure ⟨O,of,2*of+1,O,by lia,by lia,by lia,u⟩
    ·simp only[u,decide_false,cp,if_true];have G:rk ws key<R (h+of):=by have:=ne (h+of) (by lia);lia
     refine wpS_pure ⟨O,lo,of,O,g,o,a,λi t H=>?_⟩;by_cases v:i=h+of
     ·rw[v];exact G
     ·exact bh G (d (h+of) i (by lia) H)
  ·rintro c st' ⟨rfl,lo,of,rfl,L,g,o,a⟩;exact⟨O,lo,of,O,g,o,a,λi t H=>by lia⟩
  ·rintro c st' ⟨rfl,lo,of,rfl,g,o,a,B⟩;dsimp only;refine wpS_bind (K (h+lo+1) (h+min of (n-h)) (by lia) (by lia) (λi hi=>?_) B (λx c=>rfl) λk c h1 h2 F y t=>?_)
   ·by_cases v:i=h+lo
    ·rw[v];exact a
    ·exact bh (d i (h+lo) (by lia) o) a
   ·obtain⟨U,W,au⟩:=c;dsimp only at y t;subst y;subst t;exact wpS_pure (q au h1 h2 F)
 ·simp only[z,decide_false,bF1,if_false];have X:rk ws key<R h:=by have:=ne h S;lia
  refine wpS_bind (wpS_mono (wpS_forRange (λx c st'=>st'=st /\ ∃lo of,c=(Y,lo,of)/\x+1<=of/\lo<of/\lo<=h/\rk ws key<R (h-lo)) (Q:=λc st'=>st'=st /\ ∃lo of,c=(Y,lo,of)/\lo<of/\lo<=h/\rk ws key<R (h-lo) /\ ∀i,i<h+1-min of (h+1)->R i<rk ws key) ?_ ?_ ⟨O,0,1,O,by lia,by lia,by lia,X⟩) ?_)
  ·rintro x c st' _ T ⟨rfl,lo,of,rfl,L,g,o,a⟩;dsimp only;by_cases ao:of>=h+1
   ·rw[ak ao];exact wpS_pure ⟨O,lo,of,O,g,o,a,λi t=>by lia⟩
   ·rw[aj ao];refine wpS_bind (N (h-of) (by lia) ?_);by_cases u:R (h-of)<rk ws key
    ·simp only[u,decide_true,if_true];refine wpS_pure ⟨O,lo,of,O,g,o,a,λi t=>?_⟩;by_cases v:i=h-of
     ·rw[v];exact u
     ·exact bh (d i (h-of) (by lia) (by lia)) u
    ·simp only[u,decide_false,bF1,if_false];have G:rk ws key<R (h-of):=by have:=ne (h-of) (by lia);lia
     exact wpS_pure ⟨O,of,2*of+1,O,by lia,by lia,by lia,G⟩
  ·rintro c st' ⟨rfl,lo,of,rfl,L,g,o,a⟩;exact⟨O,lo,of,O,g,o,a,λi t=>by lia⟩
  ·rintro c st' ⟨rfl,lo,of,rfl,g,o,a,B⟩;dsimp only;refine wpS_bind (K (h+1-min of (h+1)) (h-lo) (by lia) (by lia) B (λi t H=>?_) (λx c=>rfl) λk c h1 h2 F y t=>?_)
   ·by_cases v:i=h-lo
    ·rw[v];exact a
    ·exact bh a (d (h-lo) i (by lia) H)
   ·obtain⟨U,W,au⟩:=c;dsimp only at y t;subst y;subst t;exact wpS_pure (q au h1 h2 F)
end
noncomputable def H7:Nat->StateT SortSt Sem Unit:=sortPriv%PySem.Builtin.setMinGallop
noncomputable def IW:Array Keyed->Array Keyed->StateT SortSt Sem (Array Keyed):=sortPriv%PySem.Builtin.mergeLo
noncomputable def IX:Array Keyed->Array Keyed->StateT SortSt Sem (Array Keyed):=sortPriv%PySem.Builtin.mergeHi
structure Sm (st st':SortSt):Prop where
 k:kindOf st'=kindOf st
 a:arrOf st'=arrOf st
 p:pendingOf st'=pendingOf st
 f:failedOf st'=failedOf st
theorem Sm.rfl{st:SortSt}:Sm st st:=⟨_root_.rfl,_root_.rfl,_root_.rfl,_root_.rfl⟩
theorem Sm.g{st st':SortSt}(h:Sm st st')(g:Nat):Sm st (SortSt.mk' (kindOf st') (arrOf st') (pendingOf st') g (failedOf st')):=⟨h.k,h.a,h.p,h.f⟩
def Srt(ws:List dB)(xs:List Keyed):Prop:=xs.Pairwise λp q=>rk ws p<rk ws q
def lW(ws:List dB)(xs ys:List Keyed):Prop:=∀x∈xs,∀y∈ys,rk ws x<rk ws y
section
variable{ws:List dB}{a b out xs ys zs:List Keyed}{i j k:Nat}
theorem Srt.app(h1:Srt ws xs)(h2:Srt ws ys)(h:lW ws xs ys):Srt ws (xs++ys):=cC.mpr ⟨h1,h2,h⟩
theorem lW.app(h1:lW ws xs zs)(h2:lW ws ys zs):lW ws (xs++ys) zs:=λx b y a=>(aG.mp b).elim (λh=>h1 x h y a) λh=>h2 x h y a
theorem lW.of(h:lW ws xs ys){a ys':List Keyed}(h1:∀x∈a,x∈xs)(h2:∀y∈ys',y∈ys):lW ws a ys':=λx c y b=>h x (h1 x c) y (h2 y b)
theorem Srt.split(h:Srt ws a)(i:Nat):lW ws (a.take i) (a.drop i):=by
 have:=h;unfold Srt at this;rw[<- cK i a]at this;exact(cC.mp this).2.2
structure J0 (ws:List dB)(a b out:List Keyed)(i j:Nat):Prop where
 la:i<=a.length
 lb:j<=b.length
 len:out.length=i+j
 pm:(out++(a.drop i++b.drop j)).Perm (a++b)
 so:Srt ws out
 ba:lW ws out (a.drop i)
 bb:lW ws out (b.drop j)
theorem J0.mvA(h:J0 ws a b out i j)(f:Srt ws a)(hk:i+k<=a.length)(hb:lW ws ((a.drop i).take k) (b.drop j)):J0 ws a b (out++(a.drop i).take k) (i+k) j:=by
 have e:a.drop i=(a.drop i).take k++a.drop (i+k):=by rw[<- bF,cK]
 have c:Srt ws (a.drop i):=f.sublist (cE _ _);refine⟨hk,h.lb,?_,?_,h.so.app (c.sublist (aT _ _)) (h.ba.of (λ_ h=>h) λ_ h=>cO h),?_,h.bb.app hb⟩
 ·rw[lA1,h.len,aQ,aV];lia
 ·have:=h.pm;rw[e,bI]at this;rw[bI];exact this
 ·refine lW.app (h.ba.of (λ_ h=>h) λy d=>?_) ?_
  ·rw[e];exact mA1 _ d
  ·have:=c.split k
   rwa [bF]at this
theorem J0.swap(h:J0 ws a b out i j):J0 ws b a out j i:=⟨h.lb,h.la,by rw[h.len,Nat.add_comm],(List.Perm.append_left _ cT).trans (h.pm.trans cT),h.so,h.bb,h.ba⟩
theorem J0.mvB(h:J0 ws a b out i j)(c:Srt ws b)(hk:j+k<=b.length)(hb:lW ws ((b.drop j).take k) (a.drop i)):J0 ws a b (out++(b.drop j).take k) i (j+k):=(h.swap.mvA c hk hb).swap
theorem uY{x:Keyed}(h:a[i]?=Z x):(a.drop i).take 1=[x]:=by
 have b:=(gE1.mp h).1;rw[bW b,cU,cV,(gE1.mp h).2]
def Mgd(ws:List dB)(a b r:List Keyed):Prop:=r.Perm (a++b)/\Srt ws r
theorem J0.dn(h:J0 ws a b out i j)(d:Srt ws a)(c:j=b.length):Mgd ws a b (out++a.drop i++b.drop j):=by
 have e:b.drop j=[]:=by rw[c,List.drop_length]
 refine⟨by rw[bI];exact h.pm,?_⟩;rw[e,aM];exact h.so.app (d.sublist (cE _ _)) h.ba
theorem J0.ls(h:J0 ws a b out i j)(c:Srt ws a)(d:Srt ws b)(hb:lW ws (b.drop j) (a.drop i)):Mgd ws a b (out++b.drop j++a.drop i):=by
 refine⟨by rw[bI];exact(List.Perm.append_left _ cT).trans h.pm,?_⟩;exact(h.so.app (d.sublist (cE _ _)) h.bb).app (c.sublist (cE _ _)) (h.ba.app hb)
theorem Srt.drop_gt(h:Srt ws a){x:Keyed}(hx:a[i]?=Z x):∀y∈a.drop i,rk ws x<=rk ws y:=λy b=>by
 have d:=(gE1.mp hx).1;rw[bW d,(gE1.mp hx).2]at b;have c:Srt ws (a.drop i):=h.sublist (cE _ _);rw[bW d,(gE1.mp hx).2]at c;rcases aF.mp b with rfl|b
 ·exact nR1 _
 ·exact aD ((cf.mp c).1 y b)
end
section
variable{prog:dF}{w:dH}{A:dG}{E:dB->dD->Prop}{s:dD}{κ:SortKind}{ws:List dB}{a₀:Array Keyed}
theorem pR{st:SortSt}{g:Nat}{Q:Unit->SortSt->Prop}(h:Q () (SortSt.mk' (kindOf st) (arrOf st) (pendingOf st) g (failedOf st))):wpS (model prog w) A E s (H7 g) Q st:=wpS_modify h
theorem fe{st:SortSt}{arr:Array Keyed}{i:Nat}{p:Keyed}{Q:Keyed->SortSt->Prop}(h:arr[i]?=Z p)(q:Q p st):wpS (model prog w) A E s (elem' arr i) Q st:=by
 rw[elem'_eq,h];exact wpS_pure q
structure MC (ws:List dB)(a₀ a b:Array Keyed):Prop where
 ma:∀p∈a,p∈a₀
 mb:∀p∈b,p∈a₀
 sa:Srt ws a.toList
 sb:Srt ws b.toList
 ne:∀p∈a,∀q∈b,rk ws p≠rk ws q
 pa:0<a.size
 pb:0<b.size
 last:∀x,a[a.size-1]?=some x -> ∀q∈b,rk ws q<rk ws x
 head:∀x,b[0]?=some x -> ∀q∈a,rk ws x<rk ws q
theorem MC.galA(C:ln prog w A s κ ws a₀){a b:Array Keyed}(ao:MC ws a₀ a b){st:SortSt}{l:Bool}{ia ib:Nat}{y:Keyed}{Q:Option Nat->SortSt->Prop}(hk:kindOf st=κ)(hy:b[ib]? = Z y)(n:ia<a.size)(q:∀k,ia+k<=a.size->(∀x∈(a.toList.drop ia).take k,rk ws x<rk ws y)->(∀x∈a.toList.drop (ia+k),rk ws y<rk ws x)->Q (Z k) st):wpS (model prog w) A E s (Fs l y a ia (a.size-ia) 0) Q st:=by
 have f:y∈b:=ck hy;refine vK (R:=λi=>(a[ia+i]?.map (rk ws)).getD 0) C hk (ao.mb y f) (by lia) (λi hi=>?_) (λi j h o=>?_) λk h1 h2 m=>q k (by lia) (λx g=>?_) λx g=>?_
 ·have c:ia+i<a.size:=by lia
  refine⟨a[ia+i],aG1 c,ao.ma _ (cW c),by rw[aG1 c];rfl,?_⟩;rw[aG1 c];exact ao.ne _ (cW c) _ f
 ·have c:ia+i<a.size:=by lia
  have d:ia+j<a.size:=by lia
  rw[aG1 c,aG1 d];have:=cw.mp ao.sa (ia+i) (ia+j) (by simpa using c) (by simpa using d) (by lia);simpa using this
 ·obtain⟨i,hi⟩:=br g;have e:i<k:=by have:=(gE1.mp hi).1;rw[aQ]at this;lia
  rw[aS e,cD,aT1]at hi;have:=h2 i e;rw[hi]at this;exact this
 ·obtain⟨i,hi⟩:=br g;rw[cD,aT1]at hi;have c:=(Array.getElem?_eq_some_iff.mp hi).1;have:=m (k+i) (by lia) (by lia);rw[<- bm,hi]at this;exact this
theorem MC.galB(C:ln prog w A s κ ws a₀){a b:Array Keyed}(ao:MC ws a₀ a b){st:SortSt}{l:Bool}{ia ib:Nat}{y:Keyed}{Q:Option Nat->SortSt->Prop}(hk:kindOf st=κ)(hy:a[ia]? = Z y)(h:ib<b.size)(q:∀k,ib+k<=b.size->(∀x∈(b.toList.drop ib).take k,rk ws x<rk ws y)->(∀x∈b.toList.drop (ib+k),rk ws y<rk ws x)->Q (Z k) st):wpS (model prog w) A E s (Fs l y b ib (b.size-ib) 0) Q st:=by
 have f:y∈a:=ck hy;refine vK (R:=λi=>(b[ib+i]?.map (rk ws)).getD 0) C hk (ao.ma y f) (by lia) (λi hi=>?_) (λi j m o=>?_) λk h1 h2 n=>q k (by lia) (λx g=>?_) λx g=>?_
 ·have c:ib+i<b.size:=by lia
  refine⟨b[ib+i],aG1 c,ao.mb _ (cW c),by rw[aG1 c];rfl,?_⟩;rw[aG1 c];exact(ao.ne _ f _ (cW c)).symm
 ·have c:ib+i<b.size:=by lia
  have d:ib+j<b.size:=by lia
  rw[aG1 c,aG1 d];have:=cw.mp ao.sb (ib+i) (ib+j) (by simpa using c) (by simpa using d) (by lia);simpa using this
 ·obtain⟨i,hi⟩:=br g;have e:i<k:=by have:=(gE1.mp hi).1;rw[aQ]at this;lia
  rw[aS e,cD,aT1]at hi;have:=h2 i e;rw[hi]at this;exact this
 ·obtain⟨i,hi⟩:=br g;rw[cD,aT1]at hi;have c:=(Array.getElem?_eq_some_iff.mp hi).1;have:=n (k+i) (by lia) (by lia);rw[<- bm,hi]at this;exact this
end
theorem kF(a:Array Keyed)(i:Nat):(a.extract i a.size).toList=a.toList.drop i:=by
 rw[cB,cX,ca (by simp)]
theorem sH(a:Array Keyed)(i k:Nat):(a.extract i (i+k)).toList=(a.toList.drop i).take k:=by
 rw[cB,cX,bu]
section
variable{prog:dF}{w:dH}{A:dG}{E:dB->dD->Prop}{s:dD}{κ:SortKind}{ws:List dB}{a₀:Array Keyed}
theorem Gx(C:ln prog w A s κ ws a₀){a b:Array Keyed}(ao:MC ws a₀ a b){st:SortSt}{Q:Array Keyed->SortSt->Prop}(hk:kindOf st=κ)(q:∀r st',Sm st st'->Mgd ws a.toList b.toList r.toList->Q r st'):wpS (model prog w) A E s (IW a b) Q st:=by
 have dn:∀{out:Array Keyed} {ia ib:Nat},J0 ws a.toList b.toList out.toList ia ib->ib=b.size->Mgd ws a.toList b.toList (out++a.extract ia a.size++b.extract ib b.size).toList:=λ{out ia ib} h e=>by
  rw[cy,cy,kF,kF];exact h.dn ao.sa (by rw[e];simp)
 have lastX:∀{ia:Nat},ia+1=a.size -> ∀y∈a.toList.drop ia,∀q∈b,rk ws q<rk ws y:=λ{ia} e y H q hq=>by
  have hl:ia<a.toList.length:=by rw[aJ];lia
  rw[bW hl,List.drop_of_length_le (by rw[aJ];lia)]at H;have:y=a.toList[ia]:=by simpa using H
  exact ao.last y (by rw[this,show a.size-1=ia by lia];simp) q hq
 have ls:∀{out:Array Keyed} {ia ib:Nat},J0 ws a.toList b.toList out.toList ia ib->ia+1=a.size->Mgd ws a.toList b.toList (out++b.extract ib b.size++a.extract ia a.size).toList:=λ{out ia ib} h e=>by
  rw[cy,cy,kF,kF];exact h.ls ao.sa ao.sb λx p y H=>lastX e y H x (cj.mp (cP p))
 have P:∀{i:Nat},i<a.size -> ∃x,a[i]?=Z x/\x∈a/\a.toList[i]?=Z x:=λ{i} h=>⟨a[i],aG1 h,cW h,by rw[aT1,aG1 h]⟩;have T:∀{i:Nat},i<b.size -> ∃x,b[i]?=Z x/\x∈b/\b.toList[i]?=Z x:=λ{i} h=>⟨b[i],aG1 h,cW h,by rw[aT1,aG1 h]⟩;have B:∀{out:Array Keyed} {ia ib:Nat} {y:Keyed},J0 ws a.toList b.toList out.toList ia ib->b.toList[ib]?=Z y->(∀x∈a.toList.drop ia,rk ws y<rk ws x)->J0 ws a.toList b.toList (out.push y).toList ia (ib+1):=λ{out ia ib y} h H hb=>by
  have:=h.mvB (k:=1) ao.sb (by have:=(gE1.mp H).1;lia) (by rw[uY H];intro x p z hz;rw[cY.mp p];exact hb z hz)
  rwa [uY H,<- cA]at this
 have au:∀{out:Array Keyed} {ia ib:Nat} {y:Keyed},J0 ws a.toList b.toList out.toList ia ib->a.toList[ia]?=Z y->(∀x∈b.toList.drop ib,rk ws y<rk ws x)->J0 ws a.toList b.toList (out.push y).toList (ia+1) ib:=λ{out ia ib y} h H hb=>by
  have:=h.mvA (k:=1) ao.sa (by have:=(gE1.mp H).1;lia) (by rw[uY H];intro x p z hz;rw[cY.mp p];exact hb z hz)
  rwa [uY H,<- cA]at this
 obtain⟨b0,hb0,mb0,lb0⟩:=T ao.pb;unfold IW;refine wpS_bind (wpS_lift (wpAny_rule ⟨O,?_⟩));refine wpS_bind (fe hb0 ?_);have j0:J0 ws a.toList b.toList (#[]:Array Keyed).toList 0 0:=⟨bi _,bi _,O,.refl _,.nil,λx p=>(by cases p),λx p=>(by cases p)⟩;have j1:J0 ws a.toList b.toList (#[b0]:Array Keyed).toList 0 (0+1):=B j0 lb0 λx p=>ao.head b0 hb0 x (cj.mp (cP p));clear j0;by_cases z:1=b.size
 ·rw[ak (by simpa using z)];exact wpS_pure (q _ _ .rfl (dn j1 z))
 rw[aj (by simpa using z)];by_cases z2:0+1=a.size
 ·rw[ak (by simpa using z2)];exact wpS_pure (q _ _ .rfl (ls j1 z2))
 rw[aj (by simpa using z2)];have hpa:=ao.pa;have hpb:=ao.pb;refine wpS_bind (wpS_get ?_);refine wpS_bind (wpS_mono (wpS_forRange (λx c st'=>Sm st st' /\ ∃out ia ib g,c=(Y,out,ia,ib,g)/\J0 ws a.toList b.toList out.toList ia ib/\ia+1<a.size/\ib<b.size/\x+1<=out.toList.length)
  (Q:=λc st'=>Sm st st' /\ ∃r,c.1=Z r/\Mgd ws a.toList b.toList r.toList) ?_ ?_ ⟨.rfl,_,_,_,_,O,j1,by lia,by lia,nR1 _⟩) ?_)
 ·rintro x c st' _ p ⟨hs,out,ia,ib,g,rfl,t,l,j,hn⟩;dsimp only;refine wpS_bind (wpS_mono (wpS_forRange (fun y c n=>Sm st n /\ ∃ d ia ib K am,c=(none,d,ia,ib,K,am)/\J0 ws a.toList b.toList d.toList ia ib/\ia+1<a.size/\ib<b.size/\out.toList.length+y<=d.toList.length)
   (Q:=λc n=>Sm st n/\((∃r,c.1=Z r/\Mgd ws a.toList b.toList r.toList) \/ ∃d ia ib K am,c=(Y,d,ia,ib,K,am)/\J0 ws a.toList b.toList d.toList ia ib/\ia+1<a.size/\ib<b.size/\out.toList.length+1<=d.toList.length)) ?_ ?_ ⟨hs,_,_,_,_,_,O,t,l,j,nR1 _⟩) ?_)
  ·rintro y c n _ H ⟨m,d,ia,ib,K,am,rfl,t,l,j,hn2⟩;dsimp only;obtain⟨u,hu,mu,lu⟩:=T j;obtain⟨v,U,mv,lv⟩:=P (show ia<a.size by lia);refine wpS_bind (fe hu (wpS_bind (fe U (wpS_bind (C.lt2 (m.k.trans hk) (ao.mb u mu) (ao.ma v mv) (ao.ne v mv u mu).symm ?_)))));by_cases z3:rk ws u<rk ws v
   ·simp only[z3,decide_true,if_true];refine wpS_bind (fe hu ?_);have F:=B t lu λx p=>nL1 z3 (ao.sa.drop_gt lv x p);have hl:(d.push u).toList.length=d.toList.length+1:=by simp
    by_cases G:ib+1=b.size
    ·rw[ak (by simpa using G)];exact wpS_pure ⟨m,.inl ⟨_,O,dn F G⟩⟩
    ·rw[aj (by simpa using G)];split
     ·exact wpS_pure ⟨m,.inr ⟨_,_,_,_,_,O,F,l,by lia,by lia⟩⟩
     ·exact wpS_pure ⟨m,_,_,_,_,_,O,F,l,by lia,by lia⟩
   ·simp only[z3,decide_false,bF1,if_false];have z5:rk ws v<rk ws u:=by have:=ao.ne v mv u mu;lia
    refine wpS_bind (fe U ?_);have F:=au t lv λx p=>nL1 z5 (ao.sb.drop_gt lu x p);have hl:(d.push v).toList.length=d.toList.length+1:=by simp
    by_cases G:ia+1+1=a.size
    ·rw[ak (by simpa using G)];exact wpS_pure ⟨m,.inl ⟨_,O,ls F G⟩⟩
    ·rw[aj (by simpa using G)];split
     ·exact wpS_pure ⟨m,.inr ⟨_,_,_,_,_,O,F,by lia,j,by lia⟩⟩
     ·exact wpS_pure ⟨m,_,_,_,_,_,O,F,by lia,j,by lia⟩
  ·rintro c n ⟨m,d,ia,ib,K,am,rfl,t,l,j,hn2⟩;exfalso;have:=t.len;lia
  ·rintro c n ⟨m,⟨r,V,hm⟩|⟨d,ia,ib,K,am,rfl,t,l,j,hn2⟩⟩
   ·obtain⟨c1,c2⟩:=c;dsimp only at V;subst V;exact wpS_pure ⟨m,r,O,hm⟩
   dsimp only;refine wpS_bind (wpS_lift (wpAny_rule ⟨O,?_⟩));refine wpS_bind (wpS_mono (wpS_forRange (λy c n=>Sm st n /\ ∃f ia ib g K am,c=(Y,f,ia,ib,g,K,am)/\J0 ws a.toList b.toList f.toList ia ib/\ia+1<a.size/\ib<b.size/\d.toList.length+y<=f.toList.length)
    (Q:=λc n=>Sm st n/\((∃r,c.1=Z r/\Mgd ws a.toList b.toList r.toList) \/ ∃f ia ib g K am,c=(Y,f,ia,ib,g,K,am)/\J0 ws a.toList b.toList f.toList ia ib/\ia+1<a.size/\ib<b.size/\d.toList.length<=f.toList.length)) ?_ ?_ ⟨m,_,_,_,_,_,_,O,t,l,j,nR1 _⟩) ?_)
   ·rintro y c L _ H ⟨I,f,ia,ib,g,K,am,rfl,t,l,j,hn3⟩;dsimp only;obtain⟨u,hu,mu,lu⟩:=T j;refine(λ(W:∀g':Nat,(?T:Nat->Prop) g')=>?go) ?mn
    case go=>
     by_cases hg:g>1
     ·rw[ak hg];generalize g-1=g';exact W g'
     ·rw[aj hg];exact W g
    intro g';refine wpS_bind (pR (wpS_bind (fe hu (wpS_bind (ao.galA (ia:=ia) C (I.k.trans hk) hu (by lia) λk h1 h2 h3=>?_)))));have D:=I.g g';generalize SortSt.mk' (kindOf L) (arrOf L) (pendingOf L) g' (failedOf L)=st4 at *
    dsimp only;refine(λ(S:∀(o:Array Keyed) (i:Nat),J0 ws a.toList b.toList o.toList i ib->i+1<a.size->(∀x∈a.toList.drop i,rk ws u<rk ws x)->d.toList.length+y<=o.toList.length->(?T2:Array Keyed->Nat->Prop) o i)=>?go2) ?mn2
    case go2=>
     by_cases R:k>0
     ·rw [if_pos R];have F:=t.mvA (k:=k) ao.sa (by rw [aJ];exact h1) fun x p z hz=>nL1 (h2 x p) (ao.sb.drop_gt lu z hz);rw [<- sH,<- cy] at F;have hlt:ia+k≠a.size:=fun e=>by
       obtain⟨v,U,mv,lv⟩:=P (show a.size-1<a.size by lia);have h4:=ao.last v U u mu;have h5:=h2 v (gM1 (i:=a.size-1-ia) (by rw[aS (by lia),cD,show ia+(a.size-1-ia)=a.size-1 by lia];exact lv));lia
      have hl2:d.toList.length+y<=(f++a.extract ia (ia+k)).toList.length:=by rw[cy,lA1];lia
      by_cases G:ia+k+1=a.size
      ·rw[ak (by simpa using G)];exact wpS_pure ⟨D,.inl ⟨_,O,ls F G⟩⟩
      ·rw[aj (by simpa using G),aj (by simpa using hlt)];have h6:ia+k+1<a.size:=by lia
       generalize f++a.extract ia (ia+k)=o at F hl2 ⊢;have h8:=h3;generalize ia+k=i at F h6 h8 ⊢;exact S o i F h6 h8 hl2
     ·rw[aj R];have e:k=0:=by lia
      subst e;exact S f ia t l h3 hn3
    intro o i F hi hgt hlo;refine wpS_bind (fe hu ?_);have j2:=B F lu hgt;have hl2:(o.push u).toList.length=o.toList.length+1:=by simp
    by_cases G:ib+1=b.size
    ·rw[ak (by simpa using G)];exact wpS_pure ⟨D,.inl ⟨_,O,dn j2 G⟩⟩
    rw[aj (by simpa using G)];obtain⟨v,U,mv,lv⟩:=P (show i<a.size by lia);refine wpS_bind (fe U (wpS_bind (ao.galB (ib:=ib+1) C (D.k.trans hk) U (by lia) λaq e1 e2 e3=>?_)));dsimp only;generalize o.push u=o1 at *
    generalize ib+1=j1' at *
    refine(λ(N:∀(X:Array Keyed) (jb:Nat),J0 ws a.toList b.toList X.toList i jb->jb<b.size->(∀x∈b.toList.drop jb,rk ws v<rk ws x)->o1.toList.length<=X.toList.length->(?T3:Array Keyed->Nat->Prop) X jb)=>?go3) ?mn3
    case go3=>
     by_cases R:aq>0
     ·rw[ak R];have j3:=j2.mvB (k:=aq) ao.sb (by rw[aJ];exact e1) λx p z hz=>nL1 (e2 x p) (ao.sa.drop_gt lv z hz);rw[<- sH,<- cy]at j3;have wq:o1.toList.length<=(o1++b.extract j1' (j1'+aq)).toList.length:=by rw[cy,lA1];lia
      by_cases z5:j1'+aq=b.size
      ·rw[ak (by simpa using z5)];exact wpS_pure ⟨D,.inl ⟨_,O,dn j3 z5⟩⟩
      ·rw[aj (by simpa using z5)];have h7:j1'+aq<b.size:=by lia
       generalize o1++b.extract j1' (j1'+aq)=X at j3 wq ⊢;have h8:=e3;generalize j1'+aq=jb at j3 h7 h8 ⊢;exact N X jb j3 h7 h8 wq
     ·rw[aj R];have e:aq=0:=by lia
      subst e;exact N o1 j1' j2 (by have:=j2.lb;rw[aJ]at this;lia) e3 (nR1 _)
    intro X jb j3 hjb hgt3 wq;refine wpS_bind (fe U ?_);have j4:=au j3 lv hgt3;have hl4:(X.push v).toList.length=X.toList.length+1:=by simp
    by_cases z6:i+1+1=a.size
    ·rw[ak (by simpa using z6)];exact wpS_pure ⟨D,.inl ⟨_,O,ls j4 z6⟩⟩
    rw[aj (by simpa using z6)];split
    ·exact wpS_pure ⟨D,.inr ⟨_,_,_,_,_,_,O,j4,by lia,hjb,by lia⟩⟩
    ·exact wpS_pure ⟨D,_,_,_,_,_,_,O,j4,by lia,hjb,by lia⟩
   ·rintro c L ⟨I,f,ia,ib,g,K,am,rfl,t,l,j,hn3⟩;exfalso;have:=t.len;lia
   ·rintro c L ⟨I,⟨r,V,hm⟩|⟨f,ia,ib,g,K,am,rfl,t,l,j,hn3⟩⟩
    ·obtain⟨c1,c2⟩:=c;dsimp only at V;subst V;exact wpS_pure ⟨I,r,O,hm⟩
    dsimp only;refine wpS_bind (pR (wpS_pure ⟨I.g _,_,_,_,_,O,t,l,j,by lia⟩))
 ·rintro c st' ⟨hs,out,ia,ib,g,rfl,t,l,j,hn⟩;exfalso;have:=t.len;lia
 ·rintro c st' ⟨hs,r,V,hm⟩;obtain⟨c1,c2⟩:=c;dsimp only at V;subst V;exact wpS_pure (q r _ hs hm)
end
section
variable{ws:List dB}{a b out xs ys zs:List Keyed}{i j k t:Nat}
theorem lW.to(h1:lW ws xs ys)(h2:lW ws xs zs):lW ws xs (ys++zs):=λx a y b=>(aG.mp b).elim (λh=>h1 x a y h) λh=>h2 x a y h
structure K0 (ws:List dB)(a b out:List Keyed)(i j:Nat):Prop where
 la:i<=a.length
 lb:j<=b.length
 len:out.length+(i+j)=a.length+b.length
 pm:(a.take i++b.take j++out.reverse).Perm (a++b)
 so:Srt ws out.reverse
 ba:lW ws (a.take i) out
 bb:lW ws (b.take j) out
theorem K0.swap(h:K0 ws a b out i j):K0 ws b a out j i:=⟨h.lb,h.la,by have:=h.len;lia,((cT).append_right _).trans (h.pm.trans cT),h.so,h.bb,h.ba⟩
theorem K0.mvA(h:K0 ws a b out i j)(k:Srt ws a)(hk:t<=i)(hb:lW ws (b.take j) ((a.take i).drop t)):K0 ws a b (out++((a.take i).drop t).reverse) t j:=by
 have e:a.take i=a.take t++(a.take i).drop t:=by
  have:=(cK t (a.take i)).symm
  rwa [List.take_take,bC hk]at this
 have g:Srt ws (a.take i):=k.sublist (aT _ _);have l:=h.la;have len:=h.len;have sp:=g.split t;rw[List.take_take,bC hk]at sp;refine⟨by lia,h.lb,?_,?_,?_,?_,?_⟩
 ·rw[lA1,cc,aV,aQ];lia
 ·rw[List.reverse_append,List.reverse_reverse];refine List.Perm.trans ?_ h.pm;generalize (a.take i).drop t=c at e;rw[e,bI,bI,bI];refine List.Perm.append_left _ ?_;rw[<- bI,<- bI];exact List.perm_append_comm.append_right _
 ·rw[List.reverse_append,List.reverse_reverse];exact Srt.app (g.sublist (cE _ _)) h.so λx d y f=>h.ba x (cP d) y (cZ.mp f)
 ·exact(h.ba.of (λx d=>by rw[e];exact aH _ d) λ_ h=>h).to λx d y f=>sp x d y (cZ.mp f)
 ·exact h.bb.to λx d y f=>hb x d y (cZ.mp f)
theorem K0.mvB(h:K0 ws a b out i j)(c:Srt ws b)(hk:t<=j)(hb:lW ws (a.take i) ((b.take j).drop t)):K0 ws a b (out++((b.take j).drop t).reverse) i t:=(h.swap.mvA c hk hb).swap
theorem CW{x:Keyed}(h:a[i]?=Z x):(a.take (i+1)).drop i=[x]:=by
 have b:=(gE1.mp h).1;rw[cH,h,List.drop_append_of_le_length (by rw[aQ];lia),List.drop_of_length_le (by rw[aQ];lia)];rfl
theorem K0.dn(h:K0 ws a b out i j)(e:Srt ws b)(hi:i=0):Mgd ws a b (a.take i++b.take j++out.reverse):=by
 refine⟨h.pm,?_⟩;rw[hi,cV,c4];exact Srt.app (e.sublist (aT _ _)) h.so λx d y c=>h.bb x d y (cZ.mp c)
theorem K0.fs(h:K0 ws a b out i j)(e:Srt ws a)(f:Srt ws b)(hb:lW ws (b.take j) (a.take i)):Mgd ws a b (b.take j++a.take i++out.reverse):=by
 refine⟨(List.perm_append_comm.append_right _).trans h.pm,?_⟩;exact(Srt.app (f.sublist (aT _ _)) (e.sublist (aT _ _)) hb).app h.so (lW.app (λx d y c=>h.bb x d y (cZ.mp c)) λx d y c=>h.ba x d y (cZ.mp c))
theorem Srt.take_lt(h:Srt ws a){x:Keyed}(hx:a[i]?=Z x):∀y∈a.take (i+1),rk ws y<=rk ws x:=λy b=>by
 rw[cH,hx]at b;rcases aG.mp b with b|b
 ·have c:=(gE1.mp hx).1;exact aD (h.split i y b x (by rw[bW c,(gE1.mp hx).2];exact mS1))
 ·have:y=x:=by simpa using b
  rw[this];exact nR1 _
end
theorem vO(a:Array Keyed)(i:Nat):(a.extract 0 i).toList=a.toList.take i:=by
 rw[cB,cX,bZ,Nat.sub_zero]
theorem CT{a:Array Keyed}{i t:Nat}(h:t<=i):(a.extract t i).reverse.toList=((a.toList.take i).drop t).reverse:=by
 rw[c5,cB,cX,List.drop_take]
section
variable{prog:dF}{w:dH}{A:dG}{E:dB->dD->Prop}{s:dD}{κ:SortKind}{ws:List dB}{a₀:Array Keyed}
theorem GP(C:ln prog w A s κ ws a₀){a:Array Keyed}{st:SortSt}{l:Bool}{n:Nat}{y:Keyed}{Q:Option Nat->SortSt->Prop}(hk:kindOf st=κ)(h:∀ p∈a,p∈a₀)(m:Srt ws a.toList)(hy:y∈a₀)(e:∀ p∈a,rk ws p≠rk ws y)(hn:0<n)(o:n<=a.size)(q:∀k,k<=n->(∀x∈a.toList.take k,rk ws x<rk ws y)->(∀x∈(a.toList.take n).drop k,rk ws y<rk ws x)->Q (Z k) st):wpS (model prog w) A E s (Fs l y a 0 n (n-1)) Q st:=by
 refine vK (R:=λi=>(a[0+i]?.map (rk ws)).getD 0) C hk hy (by lia) (λi hi=>?_) (λi j g t=>?_) λk h1 h2 r=>q k h1 (λx f=>?_) λx f=>?_
 ·have b:0+i<a.size:=by lia
  refine⟨a[0+i],aG1 b,h _ (cW b),by rw[aG1 b];rfl,?_⟩;rw[aG1 b];exact e _ (cW b)
 ·have b:0+i<a.size:=by lia
  have c:0+j<a.size:=by lia
  rw[aG1 b,aG1 c];have:=cw.mp m (0+i) (0+j) (by simpa using b) (by simpa using c) (by lia);simpa using this
 ·obtain⟨i,hi⟩:=br f;have d:i<k:=by have:=(gE1.mp hi).1;rw[aQ]at this;lia
  rw[aS d,aT1]at hi;have:=h2 i d;rw[bP,hi]at this;exact this
 ·obtain⟨i,hi⟩:=br f;have b:=(gE1.mp hi).1;rw[aV,aQ,aJ]at b;rw[cD,aS (by lia),aT1]at hi;have:=r (k+i) (by lia) (by lia);rw[bP,hi]at this;exact this
theorem Gy(C:ln prog w A s κ ws a₀){a b:Array Keyed}(ao:MC ws a₀ a b){st:SortSt}{Q:Array Keyed->SortSt->Prop}(hk:kindOf st=κ)(q:∀r st',Sm st st'->Mgd ws a.toList b.toList r.toList->Q r st'):wpS (model prog w) A E s (IX a b) Q st:=by
 have dn:∀{out:Array Keyed} {na nb:Nat},K0 ws a.toList b.toList out.toList na nb->na=0->Mgd ws a.toList b.toList (a.extract 0 na++b.extract 0 nb++out.reverse).toList:=λ{out na nb} h e=>by
  rw[cy,cy,vO,vO,c5];exact h.dn ao.sb e
 have firstX:∀{nb:Nat},nb=1 -> ∀y∈b.toList.take nb,∀q∈a,rk ws y<rk ws q:=λ{nb} e y K q hq=>by
  subst e;have hl:0<b.toList.length:=by rw[aJ];exact ao.pb
  have:b.toList.take 1=[b.toList[0]]:=by
   conv=>lhs;rw[cH,cV,gG1 hl]
   rfl
  rw[this]at K;rw[cY.mp K];exact ao.head _ (by simp) q hq
 have fs:∀{out:Array Keyed} {na nb:Nat},K0 ws a.toList b.toList out.toList na nb->nb=1->Mgd ws a.toList b.toList (b.extract 0 nb++a.extract 0 na++out.reverse).toList:=λ{out na nb} h e=>by
  rw[cy,cy,vO,vO,c5];exact h.fs ao.sa ao.sb λx B y K=>firstX e x B y (cj.mp (cO K))
 have T:∀{i:Nat},i<a.size -> ∃x,a[i]?=Z x/\x∈a/\a.toList[i]?=Z x:=λ{i} h=>⟨a[i],aG1 h,cW h,by rw[aT1,aG1 h]⟩;have aq:∀{i:Nat},i<b.size -> ∃x,b[i]?=Z x/\x∈b/\b.toList[i]?=Z x:=λ{i} h=>⟨b[i],aG1 h,cW h,by rw[aT1,aG1 h]⟩;have S:∀{out:Array Keyed} {na nb:Nat} {y:Keyed},K0 ws a.toList b.toList out.toList na nb->0<nb->b.toList[nb-1]?=Z y->(∀x∈a.toList.take na,rk ws x<rk ws y)->K0 ws a.toList b.toList (out.push y).toList na (nb-1):=λ{out na nb y} h h0 K hb=>by
  have e:=CW K;rw[show nb-1+1=nb by lia]at e;have:=h.mvB (t:=nb-1) ao.sb (by lia) (by rw[e];intro x B z hz;rw[cY.mp hz];exact hb x B);rw[e,List.reverse_singleton,<- cA]at this;exact this
 have H:∀{out:Array Keyed} {na nb:Nat} {y:Keyed},K0 ws a.toList b.toList out.toList na nb->0<na->a.toList[na-1]?=Z y->(∀x∈b.toList.take nb,rk ws x<rk ws y)->K0 ws a.toList b.toList (out.push y).toList (na-1) nb:=λ{out na nb y} h h0 K hb=>by
  have e:=CW K;rw[show na-1+1=na by lia]at e;have:=h.mvA (t:=na-1) ao.sa (by lia) (by rw[e];intro x B z hz;rw[cY.mp hz];exact hb x B);rw[e,List.reverse_singleton,<- cA]at this;exact this
 have X:∀{out:Array Keyed} {na nb:Nat},K0 ws a.toList b.toList out.toList na nb->out.toList.length+(na+nb)=a.size+b.size:=λ{out na nb} h=>by have:=h.len;rwa [aJ (xs:=a),aJ (xs:=b)]at this
 have hpa:=ao.pa;have hpb:=ao.pb;obtain⟨a1,ha1,ma1,la1⟩:=T (show a.size-1<a.size by lia);have upA:∀{n:Nat} {v:Keyed},0<n->a.toList[n-1]?=Z v -> ∀x∈a.toList.take n,rk ws x<=rk ws v:=λ{n v} h wq x B=>ao.sa.take_lt wq x (by rw[show n-1+1=n by lia];exact B);have upB:∀{n:Nat} {v:Keyed},0<n->b.toList[n-1]?=Z v -> ∀x∈b.toList.take n,rk ws x<=rk ws v:=λ{n v} h wq x B=>ao.sb.take_lt wq x (by rw[show n-1+1=n by lia];exact B);unfold IX;refine wpS_bind (wpS_lift (wpAny_rule ⟨O,?_⟩));refine wpS_bind (fe ha1 ?_);have j0:K0 ws a.toList b.toList (#[]:Array Keyed).toList a.size b.size:=⟨by simp,by simp,by simp,by rw[<- aJ,<- aJ,b4,b4];simp,.nil,λx B y K=>(by cases K),λx B y K=>(by cases K)⟩;have j1:K0 ws a.toList b.toList (#[a1]:Array Keyed).toList (a.size-1) b.size:=H j0 ao.pa la1 λx B=>ao.last a1 ha1 x (cj.mp (cO B));clear j0;by_cases z:a.size-1=0
 ·rw[ak (by simpa using z)];exact wpS_pure (q _ _ .rfl (dn j1 z))
 rw[aj (by simpa using z)];by_cases z2:b.size=1
 ·rw[ak (by simpa using z2)];exact wpS_pure (q _ _ .rfl (fs j1 z2))
 rw[aj (by simpa using z2)];refine wpS_bind (wpS_get ?_);refine wpS_bind (wpS_mono (wpS_forRange (λx c st'=>Sm st st' /\ ∃na nb out g,c=(Y,na,nb,out,g)/\K0 ws a.toList b.toList out.toList na nb/\0<na/\1<nb/\x+1<=out.toList.length)
  (Q:=λc st'=>Sm st st' /\ ∃r,c.1=Z r/\Mgd ws a.toList b.toList r.toList) ?_ ?_ ⟨.rfl,_,_,_,_,O,j1,by lia,by lia,nR1 _⟩) ?_)
 ·rintro x c st' _ B ⟨hs,na,nb,out,g,rfl,F,j,l,hn⟩;dsimp only;refine wpS_bind (wpS_mono (wpS_forRange (fun y c D=>Sm st D /\ ∃ na nb d au N,c=(none,na,nb,d,au,N)/\K0 ws a.toList b.toList d.toList na nb/\0<na/\1<nb/\out.toList.length+y<=d.toList.length)
   (Q:=λc D=>Sm st D/\((∃r,c.1=Z r/\Mgd ws a.toList b.toList r.toList) \/ ∃na nb d au N,c=(Y,na,nb,d,au,N)/\K0 ws a.toList b.toList d.toList na nb/\0<na/\1<nb/\out.toList.length+1<=d.toList.length)) ?_ ?_ ⟨hs,_,_,_,_,_,O,F,j,l,nR1 _⟩) ?_)
  ·rintro y c D _ K ⟨m,na,nb,d,au,N,rfl,F,j,l,hn2⟩;dsimp only;have lna:=F.la;have lnb:=F.lb;rw[aJ]at lna lnb;obtain⟨u,hu,mu,lu⟩:=aq (show nb-1<b.size by lia);obtain⟨v,wq,mv,lv⟩:=T (show na-1<a.size by lia);refine wpS_bind (fe hu (wpS_bind (fe wq (wpS_bind (C.lt2 (m.k.trans hk) (ao.mb u mu) (ao.ma v mv) (ao.ne v mv u mu).symm ?_)))));by_cases z3:rk ws u<rk ws v
   ·simp only[z3,decide_true,if_true];refine wpS_bind (fe wq ?_);have G:=H F j lv λx B=>bJ (upB (by lia) lu x B) z3;have hl:(d.push v).toList.length=d.toList.length+1:=by simp
    by_cases am:na-1=0
    ·rw[ak (by simpa using am)];exact wpS_pure ⟨m,.inl ⟨_,O,dn G am⟩⟩
    ·rw[aj (by simpa using am)];split
     ·exact wpS_pure ⟨m,.inr ⟨_,_,_,_,_,O,G,by lia,l,by lia⟩⟩
     ·exact wpS_pure ⟨m,_,_,_,_,_,O,G,by lia,l,by lia⟩
   ·simp only[z3,decide_false,bF1,if_false];have z5:rk ws v<rk ws u:=by have:=ao.ne v mv u mu;lia
    refine wpS_bind (fe hu ?_);have G:=S F (by lia) lu λx B=>bJ (upA j lv x B) z5;have hl:(d.push u).toList.length=d.toList.length+1:=by simp
    by_cases am:nb-1=1
    ·rw[ak (by simpa using am)];exact wpS_pure ⟨m,.inl ⟨_,O,fs G am⟩⟩
    ·rw[aj (by simpa using am)];split
     ·exact wpS_pure ⟨m,.inr ⟨_,_,_,_,_,O,G,j,by lia,by lia⟩⟩
     ·exact wpS_pure ⟨m,_,_,_,_,_,O,G,j,by lia,by lia⟩
  ·rintro c D ⟨m,na,nb,d,au,N,rfl,F,j,l,hn2⟩;exfalso;have:=X F;lia
  ·rintro c D ⟨m,⟨r,hr,hm⟩|⟨na,nb,d,au,N,rfl,F,j,l,hn2⟩⟩
   ·obtain⟨c1,c2⟩:=c;dsimp only at hr;subst hr;exact wpS_pure ⟨m,r,O,hm⟩
   dsimp only;refine wpS_bind (wpS_lift (wpAny_rule ⟨O,?_⟩));refine wpS_bind (wpS_mono (wpS_forRange (λy c D=>Sm st D /\ ∃na nb f g au N,c=(Y,na,nb,f,g,au,N)/\K0 ws a.toList b.toList f.toList na nb/\0<na/\1<nb/\d.toList.length+y<=f.toList.length)
    (Q:=λc D=>Sm st D/\((∃r,c.1=Z r/\Mgd ws a.toList b.toList r.toList) \/ ∃na nb f g au N,c=(Y,na,nb,f,g,au,N)/\K0 ws a.toList b.toList f.toList na nb/\0<na/\1<nb/\d.toList.length<=f.toList.length)) ?_ ?_ ⟨m,_,_,_,_,_,_,O,F,j,l,nR1 _⟩) ?_)
   ·rintro y c P _ K ⟨L,na,nb,f,g,au,N,rfl,F,j,l,hn3⟩;dsimp only;have lna:=F.la;have lnb:=F.lb;rw[aJ]at lna lnb;obtain⟨u,hu,mu,lu⟩:=aq (show nb-1<b.size by lia);refine(λ(main:∀g':Nat,(?T:Nat->Prop) g')=>?go) ?mn
    case go=>
     by_cases hg:g>1
     ·rw[ak hg];generalize g-1=g';exact main g'
     ·rw[aj hg];exact main g
    intro g';refine wpS_bind (pR (wpS_bind (fe hu (wpS_bind (GP (n:=na) C (L.k.trans hk) ao.ma ao.sa (ao.mb u mu) (λp hp=>ao.ne p hp u mu) j lna λk h1 h2 h3=>?_)))));have I:=L.g g';generalize SortSt.mk' (kindOf P) (arrOf P) (pendingOf P) g' (failedOf P)=st4 at *
    dsimp only;generalize hac:na-k=acc;refine(λ(W:∀(o:Array Keyed) (i:Nat),K0 ws a.toList b.toList o.toList i nb->0<i->(∀x∈a.toList.take i,rk ws x<rk ws u)->d.toList.length+y<=o.toList.length->(?T2:Array Keyed->Nat->Prop) o i)=>?go2) ?mn2
    case go2=>
     by_cases U:acc>0
     ·rw[ak U];have G:=F.mvA (t:=k) ao.sa h1 λx B z hz=>bJ (upB (by lia) lu x B) (h3 z hz);rw[<- CT h1,<- cy]at G;have hl2:d.toList.length+y<=(f++(a.extract k na).reverse).toList.length:=by rw[cy,lA1];lia
      by_cases am:k=0
      ·rw[ak (by simpa using am)];exact wpS_pure ⟨I,.inl ⟨_,O,dn G am⟩⟩
      ·rw[aj (by simpa using am)];generalize f++(a.extract k na).reverse=o at G hl2 ⊢;have V:=h2;have h9:0<k:=by lia
       generalize k=i at G V h9 ⊢;exact W o i G h9 V hl2
     ·rw[aj U];have e:k=na:=by lia
      have V:=h2;rw[e]at V;exact W f na F j V hn3
    intro o i G hi hgt hlo;refine wpS_bind (fe hu ?_);have j2:=S G (by lia) lu hgt;have hl2:(o.push u).toList.length=o.toList.length+1:=by simp
    by_cases am:nb-1=1
    ·rw[ak (by simpa using am)];exact wpS_pure ⟨I,.inl ⟨_,O,fs j2 am⟩⟩
    rw[aj (by simpa using am)];have li:=G.la;rw[aJ]at li;obtain⟨v,wq,mv,lv⟩:=T (show i-1<a.size by lia);refine wpS_bind (fe wq (wpS_bind (GP (n:=nb-1) C (I.k.trans hk) ao.mb ao.sb (ao.ma v mv) (λp hp=>(ao.ne v mv p hp).symm) (by lia) (by lia) λk2 e1 e2 e3=>?_)));dsimp only;generalize o.push u=o1 at *
    have hnb:0<nb-1:=by lia
    generalize nb-1=j1' at *
    generalize hac2:j1'-k2=acc2;refine(λ(R:∀(o3:Array Keyed) (jb:Nat),K0 ws a.toList b.toList o3.toList i jb->1<jb->(∀x∈b.toList.take jb,rk ws x<rk ws v)->o1.toList.length<=o3.toList.length->(?T3:Array Keyed->Nat->Prop) o3 jb)=>?go3) ?mn3
    case go3=>
     by_cases U:acc2>0
     ·rw[ak U];have j3:=j2.mvB (t:=k2) ao.sb e1 λx B z hz=>bJ (upA hi lv x B) (e3 z hz);rw[<- CT e1,<- cy]at j3;have hl3:o1.toList.length<=(o1++(b.extract k2 j1').reverse).toList.length:=by rw[cy,lA1];lia
      by_cases z5:k2=1
      ·rw[ak (by simpa using z5)];exact wpS_pure ⟨I,.inl ⟨_,O,fs j3 z5⟩⟩
      ·have h0:k2≠0:=fun e=>by
        subst e;obtain⟨b0,hb0,mb0,lb0⟩:=aq ao.pb;have:=e3 b0 (gM1 (i:=0) (by rw[cD,aS (by lia)];exact lb0));have:=ao.head b0 hb0 v mv;lia
       rw[aj (by simpa using z5),aj (by simpa using h0)];generalize o1++(b.extract k2 j1').reverse=o3 at j3 hl3 ⊢;have V:=e2;have h9:1<k2:=by lia
       generalize k2=jb at j3 V h9 ⊢;exact R o3 jb j3 h9 V hl3
     ·rw[aj U];have e:k2=j1':=by lia
      have V:=e2;rw[e]at V;exact R o1 j1' j2 (by lia) V (nR1 _)
    intro o3 jb j3 hjb hgt3 hl3;refine wpS_bind (fe wq ?_);have j4:=H j3 hi lv hgt3;have hl4:(o3.push v).toList.length=o3.toList.length+1:=by simp
    by_cases z6:i-1=0
    ·rw[ak (by simpa using z6)];exact wpS_pure ⟨I,.inl ⟨_,O,dn j4 z6⟩⟩
    rw[aj (by simpa using z6)];split
    ·exact wpS_pure ⟨I,.inr ⟨_,_,_,_,_,_,O,j4,by lia,hjb,by lia⟩⟩
    ·exact wpS_pure ⟨I,_,_,_,_,_,_,O,j4,by lia,hjb,by lia⟩
   ·rintro c P ⟨L,na,nb,f,g,au,N,rfl,F,j,l,hn3⟩;exfalso;have:=X F;lia
   ·rintro c P ⟨L,⟨r,hr,hm⟩|⟨na,nb,f,g,au,N,rfl,F,j,l,hn3⟩⟩
    ·obtain⟨c1,c2⟩:=c;dsimp only at hr;subst hr;exact wpS_pure ⟨L,r,O,hm⟩
    dsimp only;refine wpS_bind (pR (wpS_pure ⟨L.g _,_,_,_,_,O,F,j,l,by lia⟩))
 ·rintro c st' ⟨hs,na,nb,out,g,rfl,F,j,l,hn⟩;exfalso;have:=X F;lia
 ·rintro c st' ⟨hs,r,hr,hm⟩;obtain⟨c1,c2⟩:=c;dsimp only at hr;subst hr;exact wpS_pure (q r _ hs hm)
end
theorem rf(c:Nat):∀ (m:List Keyed) (k:Nat) (arr:Array Keyed) (pre old b:List Keyed),arr.toList=pre++(old++b)->pre.length=c+k->old.length=m.length ->
  ((m.zipIdx k).foldl (λa (x:Keyed×Nat)=>a.setIfInBounds (c+x.2) x.1) arr).toList=pre++(m++b)
 |[],k,arr,pre,old,b,h1,h2,h3=>by
  have:old=[]:=cu.mp h3;subst this;exact h1
 |x::m,k,arr,pre,[],b,h1,h2,h3=>by simp at h3
 |x::m,k,arr,pre,o::old,b,h1,h2,h3=>by
  rw[bM,cb];have:=rf c m (k+1) (arr.setIfInBounds (c+k) x) (pre++[x]) old b (by
   rw[Array.toList_setIfInBounds,h1,<- h2,c6 _ _ (nR1 _),cQ];simp) (by rw[lA1,h2];rfl) (by simpa using h3)
  rw[this];simp
def fH:Nat->List (List Keyed)->List (Nat×Nat×Nat)->Prop
 |_,[],[]=>True
 |s,r::rs,(t,n,_)::p=>t=s/\n=r.length/\fH (s+r.length) rs p
 |_,_,_=>False
theorem vg:∀ {s:Nat} {rs:List (List Keyed)} {p:List (Nat×Nat×Nat)},fH s rs p -> ∀ {i:Nat} {r1 r2:List Keyed},rs[i]? = some r1->rs[i+1]? = some r2 ->
  ∃d c,p[i]?=Z (s+(rs.take i).flatten.length,r1.length,d)/\p[i+1]?=Z (s+(rs.take i).flatten.length+r1.length,r2.length,c) /\
   fH s (rs.take i++(r1++r2)::rs.drop (i+2)) ((p.set i (s+(rs.take i).flatten.length,r1.length+r2.length,d)).eraseIdx (i+1))
 |s,[],p,h,i,r1,r2,h1,_=>by simp at h1
 |s,r::rs,[],h,i,r1,r2,_,_=>by cases h
 |s,r::rs,(t,n,d)::p,⟨e1,e2,h⟩,0,r1,r2,h1,h2=>by
  have j:r=r1:=by simpa using h1
  subst j
  match rs,p,h,h2 with
  |r2'::rs,(t2,n2,c)::p,⟨g,e,h⟩,h2=>
   have l:r2'=r2:=by simpa using h2
   subst l;subst e1;subst e2;subst g;subst e;refine⟨d,c,by simp,by simp,?_⟩;simp only[cV,List.flatten_nil,bf,Nat.add_zero,c4,List.drop_succ_cons,bZ,c7,List.eraseIdx_cons_succ,List.eraseIdx_cons_zero];exact⟨O,by rw[lA1],by rw[lA1,<- bm];exact h⟩
 |s,r::rs,(t,n,d)::p,⟨e1,e2,h⟩,i+1,r1,r2,h1,h2=>by
  obtain⟨a,b,g,e,k⟩:=vg h (i:=i) (by simpa using h1) (by simpa using h2);have f:s+((r::rs).take (i+1)).flatten.length=s+r.length+(rs.take i).flatten.length:=by rw[cU,c8,lA1,bm]
  refine⟨a,b,by rw[f,gC1];exact g,by rw[f,gC1];exact e,?_⟩;rw[f,cU,bj,c9,List.eraseIdx_cons_succ,List.drop_succ_cons];exact⟨e1,e2,k⟩
structure SR (ws:List dB)(κ:SortKind)(a₀:Array Keyed)(rs:List (List Keyed))(rest:List Keyed)(st:SortSt):Prop where
 k:kindOf st=κ
 f:failedOf st=none
 pm:(arrOf st).Perm a₀
 ar:(arrOf st).toList=rs.flatten++rest
 so:∀r∈rs,Srt ws r/\r≠[]
 pe:fH 0 rs (pendingOf st).toList
section
variable{prog:dF}{w:dH}{A:dG}{E:dB->dD->Prop}{s:dD}{κ:SortKind}{ws:List dB}{a₀:Array Keyed}
theorem ln.unlike(C:ln prog w A s κ ws a₀){xs:Array Keyed}(p:xs.Perm a₀):xs.toList.Pairwise λu v=>rk ws u≠rk ws v:=by
 refine cw.mpr λi j hi a b e=>?_;rw[aJ]at hi a;have:=C.inj p (i:=i) (j:=j) (by rw[<- p.size_eq];exact hi) (by rw[<- p.size_eq];exact a) (by unfold kR;rw[aG1 hi,aG1 a];simpa using e);lia
theorem Dv{σ:Type}{ao:Model}{st a:σ}{Q:Unit->σ->Prop}(h:Q () a):wpS ao A E s (set a:StateT σ Sem PUnit) Q st:=wpS_modify (f:=λ_=>a) h
theorem Ab(xs:Array (Nat×Nat×Nat))(i:Nat):(xs.eraseIdxIfInBounds i).toList=xs.toList.eraseIdx i:=by
 unfold Array.eraseIdxIfInBounds;split
 ·rw[Array.toList_eraseIdx]
 ·rename_i h;rw[List.eraseIdx_of_length_le (by rw[aJ];lia)]
theorem oz:∀{A B:List (List Keyed)} {r b:List Keyed} {s:Nat} {p:List (Nat×Nat×Nat)},fH s (A++r::B) p->r.length=b.length->fH s (A++b::B) p
 |[],B,r,b,s,[],h,_=>by cases h
 |[],B,r,b,s,(t,n,pw)::p,h,e=>by
  obtain⟨h1,h2,c⟩:=(show t=s/\n=r.length/\fH (s+r.length) B p from h);exact⟨h1,by rw[<- e];exact h2,by rw[<- e];exact c⟩
 |a::A,B,r,b,s,[],h,_=>by cases h
 |a::A,B,r,b,s,(t,n,pw)::p,h,e=>by
  obtain⟨h1,h2,c⟩:=(show t=s/\n=a.length/\fH (s+a.length) (A++r::B) p from h);exact⟨h1,h2,oz c e⟩
theorem Dq{rs:List (List Keyed)}{i:Nat}{b r2:List Keyed}(h1:rs[i]?=Z b)(h2:rs[i+1]?=Z r2):rs=rs.take i++b::r2::rs.drop (i+2):=by
 have a:=(gE1.mp h1);have c:=(gE1.mp h2);have:=(cK i rs).symm;rw[bW a.1,bW c.1,a.2,c.2]at this;exact this
theorem GO(C:ln prog w A s κ ws a₀){st:SortSt}{l:Bool}{key:Keyed}{X:Array Keyed}{pre r a:List Keyed}{h:Nat}{Q:Option Nat->SortSt->Prop}(hk:kindOf st=κ)(n:X.toList=pre++(r++a))(hm:∀ x∈X,x∈a₀)(c:key∈a₀)(p:Srt ws r)(f:∀ x∈r,rk ws x≠rk ws key)(o:h<r.length)(q:∀k,k<=r.length->(∀x∈r.take k,rk ws x<rk ws key)->(∀x∈r.drop k,rk ws key<rk ws x)->Q (Z k) st):wpS (model prog w) A E s (Fs l key X pre.length r.length h) Q st:=by
 have at_:∀i,i<r.length->X[pre.length+i]?=r[i]?:=λi hi=>by
  rw[<- aT1,n,gR1 (bt _ _),bu,gL1 hi]
 refine vK (R:=λi=>(r[i]?.map (rk ws)).getD 0) C hk c o (λi hi=>?_) (λi j d m=>?_) λk h1 h2 t=>q k h1 (λx g=>?_) λx g=>?_
 ·have e:=at_ i hi;rw[gG1 hi]at e;refine⟨r[i],e,hm _ (ck e),by rw[gG1 hi];rfl,?_⟩;rw[gG1 hi];exact f _ (bU hi)
 ·rw[gG1 (show i<r.length by lia),gG1 m];exact cw.mp p i j (by lia) m d
 ·obtain⟨i,hi⟩:=br g;have b:i<k:=by have:=(gE1.mp hi).1;rw[aQ]at this;lia
  rw[aS b]at hi;have:=h2 i b;rw[hi]at this;exact this
 ·obtain⟨i,hi⟩:=br g;rw[cD]at hi;have:=t (k+i) (by lia) (gE1.mp hi).1;rw[hi]at this;exact this
theorem SR.merge(C:ln prog w A s κ ws a₀){rs:List (List Keyed)}{rest:List Keyed}{st:SortSt}{i:Nat}{a r2:List Keyed}{Q:Bool->SortSt->Prop}(h:SR ws κ a₀ rs rest st)(h1:rs[i]? = Z a)(h2:rs[i+1]? = Z r2)(q:∀r st',SR ws κ a₀ (rs.take i++r::rs.drop (i+2)) rest st'->Q M st'):wpS (model prog w) A E s (mergeAt' i) Q st:=by
 obtain⟨V,pw2,p1,p2,p3⟩:=vg h.pe h1 h2;rw[aT1,bP]at p1 p2;rw[bP]at p3;have aq:=Dq h1 h2;obtain⟨K,n1⟩:=h.so a (gM1 h1);obtain⟨am,n2⟩:=h.so r2 (gM1 h2);have others:∀r∈rs.take i,Srt ws r/\r≠[]:=λr g=>h.so r (cO g);have others2:∀r∈rs.drop (i+2),Srt ws r/\r≠[]:=λr g=>h.so r (cP g);have l1:0<a.length:=da.mpr n1;have l2:0<r2.length:=da.mpr n2;have j:(arrOf st).toList=(rs.take i).flatten++(a++(r2++((rs.drop (i+2)).flatten++rest))):=by
  rw[h.ar]
  conv=>lhs;rw[aq]
  simp
 generalize N:(rs.take i).flatten=pre at *
 generalize G:(rs.drop (i+2)).flatten++rest=post at *
 have f:∀x∈arrOf st,x∈a₀:=λx c=>h.pm.mem_iff.mp c;have un:=C.unlike h.pm;have P:∀x∈a,x∈arrOf st:=λx c=>by rw[<- cj,j];simp[c]
 have au:∀x∈r2,x∈arrOf st:=λx c=>by rw[<- cj,j];simp[c]
 have t:∀x∈a,∀y∈r2,rk ws x≠rk ws y:=λx c y B=>by
  rw[j]at un;exact(cC.mp (cC.mp un).2.1).2.2 x c y (aH _ B)
 have hs:∀{st':SortSt} {r:List Keyed},kindOf st'=kindOf st->failedOf st'=failedOf st->(pendingOf st').toList=((pendingOf st).toList.set i (pre.length,a.length+r2.length,V)).eraseIdx (i+1)->(arrOf st').toList=pre++(r++post)->r.Perm (a++r2)->Srt ws r->Q M st':=λ{st' r} o l g3 g4 T g6=>by
  refine q r st' ⟨o.trans h.k,l.trans h.f,?_,?_,?_,?_⟩
  ·refine Array.Perm.trans ?_ h.pm;rw[cg,g4,j,<- bI a];exact List.Perm.append_left _ (T.append_right _)
  ·rw[g4,db,c8,N,bI,bI,G]
  ·intro x c;rcases aG.mp c with c|c
   ·exact others x c
   ·rcases aF.mp c with rfl|c
    ·exact⟨g6,λe=>by rw[e]at T;have:=T.length_eq;rw[lA1,bf]at this;lia⟩
    ·exact others2 x c
  ·rw[g3];exact oz p3 (by rw[lA1,T.length_eq,lA1])
 obtain⟨u,U⟩:∃u,r2[0]?=some u:=⟨_,gG1 l2⟩;have mu:=gM1 U;obtain⟨v,L⟩:∃v,a[a.length-1]?=some v:=⟨_,gG1 (by lia)⟩;have mv:=gM1 L;have X:(arrOf st)[pre.length+a.length]?=Z u:=by
  rw[<- aT1,j,gR1 (bt _ _),bu,gR1 (nR1 _),cQ,gL1 l2];exact U
 have hXv:(arrOf st)[pre.length+a.length-1]?=Z v:=by
  rw[<- aT1,j,gR1 (by lia),show pre.length+a.length-1-pre.length=a.length-1 by lia,gL1 (by lia)];exact L
 have S:(arrOf st).toList=(pre++a)++(r2++post):=by rw[j,bI]
 unfold mergeAt';refine wpS_bind (wpS_get ?_);dsimp only;rw[show(pendingOf st)[i]?=_ from p1,show(pendingOf st)[i+1]?=_ from p2];dsimp only;refine wpS_bind (Dv ?_);refine wpS_bind (fe X ?_);refine wpS_bind (GO (pre:=pre) (r:=a) C h.k j f (f u (au u mu)) K (λx c=>t x c u mu) l1 λk e1 W e3=>?_);dsimp only;have n:(((pendingOf st).setIfInBounds i (pre.length,a.length+r2.length,V)).eraseIdxIfInBounds (i+1)).toList=((pendingOf st).toList.set i (pre.length,a.length+r2.length,V)).eraseIdx (i+1):=by rw[Ab,Array.toList_setIfInBounds]
 generalize ((pendingOf st).setIfInBounds i (pre.length,a.length+r2.length,V)).eraseIdxIfInBounds (i+1)=R at *
 have F:∀x∈r2,rk ws u<=rk ws x:=λx c=>am.drop_gt (i:=0) U x (by rw[bZ];exact c);by_cases z:a.length-k=0
 ·rw[ak (by simpa using z)];have ek:k=a.length:=by lia
  subst ek;rw[b4]at W;exact wpS_pure (hs (r:=a++r2) O O n (by rw[bI];exact j) (.refl _) (K.app am λx c y B=>nL1 (W x c) (F y B)))
 rw[aj (by simpa using z),show pre.length+k+(a.length-k)-1=pre.length+a.length-1 by lia];refine wpS_bind (fe hXv ?_);rw[show pre.length+a.length=(pre++a).length by rw[lA1]];refine wpS_bind (GO (pre:=pre++a) (r:=r2) C h.k S f (f v (P v mv)) am (λx c=>(t v mv x c).symm) (show r2.length-1<r2.length by lia) λk2 f1 f2 f3=>?_);dsimp only;have huv:rk ws u<rk ws v:=e3 v (gM1 (i:=a.length-1-k) (by rw[cD,show k+(a.length-1-k)=a.length-1 by lia];exact L));have hk2:k2≠0:=λe=>by
  subst e;have:=f3 u (by rw[bZ];exact mu);lia
 rw[aj (by simpa using hk2)];have ex:((arrOf st).extract (pre.length+k) (pre++a).length).toList=a.drop k:=by
  rw[cB,cX,j,<- bF,List.drop_left,List.drop_append_of_le_length e1,lA1,show pre.length+a.length-(pre.length+k)=(a.drop k).length by rw[aV];lia,de]
 have H:((arrOf st).extract (pre++a).length ((pre++a).length+k2)).toList=r2.take k2:=by
  rw[cB,cX,S,List.drop_left,bu,List.take_append_of_le_length f1]
 generalize c:(arrOf st).extract (pre.length+k) (pre++a).length=x at *
 generalize B:(arrOf st).extract (pre++a).length ((pre++a).length+k2)=y at *
 have lx:x.size=a.length-k:=by rw[<- aJ,ex,aV]
 have ly:y.size=k2:=by rw[<- aJ,H,aQ];lia
 have ao:MC ws a₀ x y:=by
  refine⟨λp d=>?_,λp d=>?_,?_,?_,λp d r g=>?_,by lia,by lia,λp d r g=>?_,λp d r g=>?_⟩
  ·rw[<- cj,ex]at d;exact f p (P p (cP d))
  ·rw[<- cj,H]at d;exact f p (au p (cO d))
  ·rw[ex];exact K.sublist (cE _ _)
  ·rw[H];exact am.sublist (aT _ _)
  ·rw[<- cj,ex]at d;rw[<- cj,H]at g;exact t p (cP d) r (cO g)
  ·rw[<- cj,H]at g;rw[<- aT1,ex,cD,lx,show k+(a.length-k-1)=a.length-1 by lia,L]at d;cases d;exact f2 r g
  ·rw[<- cj,ex]at g;rw[<- aT1,H,aS (by lia),U]at d;cases d;exact e3 r g
 refine(λ(D:∀(m:Array Keyed) (b:SortSt),Sm (SortSt.mk' (kindOf st) (arrOf st) R (gallopOf st) (failedOf st)) b->Mgd ws x.toList y.toList m.toList->(?T:Array Keyed->SortSt->Prop) m b)=>?go) ?mn
 case go=>
  by_cases z2:a.length-k<=k2
  ·rw[ak z2];refine wpS_bind (Gx C ao h.k λm b o l=>?_);exact D m b o l
  ·rw[aj z2];refine wpS_bind (Gy C ao h.k λm b o l=>?_);exact D m b o l
 intro m b o l;refine wpS_bind (wpS_modify (wpS_bind (wpS_get ?_)));dsimp only;have hf:failedOf b=Y:=o.f.trans h.f;rw[show(failedOf b).isNone=M by rw[hf];rfl];rw[ex,H]at l;have ml:m.toList.length=(a.drop k++r2.take k2).length:=l.1.length_eq;have wr:=rf (pre.length+k) m.toList 0 (arrOf b) (pre++a.take k) (a.drop k++r2.take k2) (r2.drop k2++post) (by
  rw[o.a];show(arrOf st).toList=_;rw[j]
  conv=>lhs;rw[<- cK k a,<- cK k2 r2]
  simp only[bI]) (by rw[lA1,aQ,Nat.add_zero];lia) ml.symm
 have bx:∀y∈m.toList,y∈a.drop k\/y∈r2.take k2:=λy B=>aG.mp (l.1.mem_iff.mp B);have sp1:=K.split k;have sp2:=am.split k2;have wq:∀y∈a,rk ws y<=rk ws v:=λy B=>K.take_lt L y (by rw[show a.length-1+1=a.length by lia,b4];exact B);refine wpS_pure (hs (r:=a.take k++(m.toList++r2.drop k2)) o.k o.f (by rw[show pendingOf (SortSt.mk' (kindOf b) _ (pendingOf b) (gallopOf b) (failedOf b))=pendingOf b from rfl,o.p];exact n) ?_ ?_ ?_)
 ·refine wr.trans ?_;simp only[bI]
 ·conv=>rhs;rw[<- cK k a,<- cK k2 r2]
  rw[bI];refine List.Perm.append_left _ ?_;rw[<- bI];exact l.1.append_right _
 ·refine Srt.app (K.sublist (aT _ _)) (Srt.app l.2 (am.sublist (cE _ _)) λp d r g=>?_) (lW.to (λp d r g=>?_) λp d r g=>?_)
  ·rcases bx p d with I|I
   ·exact bJ (wq p (cP I)) (f3 r g)
   ·exact sp2 p I r g
  ·rcases bx r g with I|I
   ·exact sp1 p d r I
   ·exact nL1 (W p d) (F r (cO I))
  ·exact nL1 (W p d) (F r (cP g))
end
noncomputable def kO(ws:List dB)(lo:Nat)(xs:Array Keyed)(i:Nat):Nat:=kR ws xs (lo+i)
def wg(ws:List dB)(lo:Nat)(xs:Array Keyed)(k:Nat):Prop:=∀i j,i<j->j<k->kO ws lo xs i<kO ws lo xs j
def Ho(ws:List dB)(lo:Nat)(xs:Array Keyed)(k:Nat):Prop:=∀i j,i<j->j<k->kO ws lo xs j<kO ws lo xs i
structure SoL (κ:SortKind)(a₀:Array Keyed)(lo:Nat)(st0 st:SortSt):Prop where
 perm:(arrOf st).Perm a₀
 kind:kindOf st=κ
 failed:failedOf st=failedOf st0
 pend:pendingOf st=pendingOf st0
 pre:∀i,i<lo->(arrOf st)[i]?=(arrOf st0)[i]?
theorem SoL.arr{κ:SortKind}{a₀:Array Keyed}{lo:Nat}{st0 st:SortSt}(b:SoL κ a₀ lo st0 st){xs:Array Keyed}(p:xs.Perm (arrOf st))(hp:∀i,i<lo->xs[i]?=(arrOf st)[i]?):SoL κ a₀ lo st0 (setArr st xs):=⟨p.trans b.perm,b.kind,b.failed,b.pend,λi hi=>(hp i hi).trans (b.pre i hi)⟩
section
variable{prog:dF}{w:dH}{A:dG}{E:dB->dD->Prop}{s:dD}{κ:SortKind}{ws:List dB}{a₀:Array Keyed}{lo:Nat}{st0:SortSt}
theorem ln.cmpL(C:ln prog w A s κ ws a₀){st:SortSt}{i j:Nat}{Q:Option Bool->SortSt->Prop}(b:SoL κ a₀ lo st0 st)(hi:i<a₀.size)(d:j<a₀.size)(a:i≠j)(h:Q (Z (decide (kR ws (arrOf st) i<kR ws (arrOf st) j))) st):wpS (model prog w) A E s (ltAt' i j) Q st:=by
 obtain⟨x,q,k,f⟩:=C.at_ b.perm hi;obtain⟨y,r,e,g⟩:=C.at_ b.perm d;have c:kR ws (arrOf st) i≠kR ws (arrOf st) j:=λz=>a (C.inj b.perm hi d z);rw[ltAt'_eq];refine wpS_bind (wpS_get ?_);show wpS _ _ _ _ (do let x<-elem' (arrOf st) i;let y<-elem' (arrOf st) j;lt' x y) Q st;rw[elem'_eq,elem'_eq,k,e];refine wpS_bind (wpS_pure (wpS_bind (wpS_pure ?_)));rw[lt'_eq];refine wpS_bind (wpS_get ?_);rw[b.kind];exact wpS_bind (wpS_lift (wpAny_attempt (C.lt x y _ _ f g c _ _ ⟨O,wpS_pure h⟩)))
theorem wg.one{xs:Array Keyed}:wg ws lo xs 1:=λi j h1 h2=>by lia
theorem wg.snoc{xs:Array Keyed}{n:Nat}(u:wg ws lo xs n)(h:kO ws lo xs (n-1)<kO ws lo xs n):wg ws lo xs (n+1):=λi j h1 h2=>by
 by_cases z:j<n
 ·exact u i j h1 z
 ·have a:j=n:=by lia
  subst a;by_cases b:i=j-1
  ·rw[b];exact h
  ·exact bh (u i (j-1) (by lia) (by lia)) h
theorem Ho.snoc{xs:Array Keyed}{n:Nat}(u:Ho ws lo xs n)(h:kO ws lo xs n<kO ws lo xs (n-1)):Ho ws lo xs (n+1):=λi j h1 h2=>by
 by_cases z:j<n
 ·exact u i j h1 z
 ·have a:j=n:=by lia
  subst a;by_cases b:i=j-1
  ·rw[b];exact h
  ·exact bh h (u i (j-1) (by lia) (by lia))
theorem zE(C:ln prog w A s κ ws a₀){xs:Array Keyed}(p:xs.Perm a₀){i j:Nat}(hi:lo+i<a₀.size)(b:lo+j<a₀.size)(a:i≠j):kO ws lo xs i≠kO ws lo xs j:=λe=>by
 have:=C.inj p hi b e;lia
theorem F1(C:ln prog w A s κ ws a₀){st:SortSt}{l:Nat}{Q:Option Nat->SortSt->Prop}(hn:lo+l<=a₀.size)(h1:1<=l)(b:SoL κ a₀ lo st0 st)(h:∀m st',SoL κ a₀ lo st0 st'->1<=m->m<=l->wg ws lo (arrOf st') m->Q (Z m) st'):wpS (model prog w) A E s (countRun' lo l) Q st:=by
 have q:∀ {st:SortSt} {a:Nat} {f:Nat->Option (Option Nat)×Nat->StateT SortSt Sem (ForInStep (Option (Option Nat)×Nat))} {Q:Option (Option Nat)×Nat->SortSt->Prop},SoL κ a₀ lo st0 st->1<=a->a<=l->wg ws lo (arrOf st) a ->
   (∀x c,f x c=(ltAt' (lo+c.2) (lo+c.2-1) >>= λr=>match r with
    |some z=>if z=M then pure (ForInStep.done (Y,c.2))else pure (ForInStep.yield (Y,c.2+1))
    |_=>pure (ForInStep.done (Z Y,c.2)))) ->
   (∀n,a<=n->n<=l->wg ws lo (arrOf st) n->(n=l\/kO ws lo (arrOf st) n<kO ws lo (arrOf st) (n-1))->Q (Y,n) st)->wpS (model prog w) A E s (forIn [a:l] (Y,a) f) Q st:=λ{st a f Q} b R p u am I=>by
  refine wpS_forRange (λx c st'=>st'=st/\c=(Y,x)/\wg ws lo (arrOf st) x) ?_ ?_ ⟨O,O,u⟩
  ·rintro x c st' y v ⟨rfl,rfl,o⟩;rw[am];dsimp only;refine wpS_bind (C.cmpL b (by lia) (by lia) (by lia) ?_);have e:kR ws (arrOf st') (lo+x-1)=kO ws lo (arrOf st') (x-1):=by unfold kO;congr 1;lia
   rw[e];by_cases z:kO ws lo (arrOf st') x<kO ws lo (arrOf st') (x-1)
   ·rw[show decide (kR ws (arrOf st') (lo+x)<kO ws lo (arrOf st') (x-1))=M from ah z];exact wpS_pure (I x y (by lia) o (.inr z))
   ·rw[show decide (kR ws (arrOf st') (lo+x)<kO ws lo (arrOf st') (x-1))=J from ai z];have:=zE C b.perm (lo:=lo) (i:=x) (j:=x-1) (by lia) (by lia) (by lia);exact wpS_pure ⟨O,O,o.snoc (by lia)⟩
  ·rintro c st' ⟨rfl,rfl,o⟩;rw[Nat.max_eq_right p]at o ⊢;exact I l p (nR1 _) o (.inl O)
 rw[countRun'_eq];refine wpS_bind (q b (nR1 1) h1 .one (λx c=>rfl) λn h2 B u or=>?_);dsimp only;by_cases z:n=l
 ·rw[ak (by simpa using z)];exact wpS_pure (h n st b h2 B u)
 rw[aj (by simpa using z)];have K:=or.resolve_left z;by_cases H:n>1
 ·rw[ak H];have au:=u 0 (n-1) (by lia) (by lia);refine wpS_bind (C.cmpL b (by lia) (by lia) (by lia) ?_);have e:kR ws (arrOf st) (lo+n-1)=kO ws lo (arrOf st) (n-1):=by unfold kO;congr 1;lia
  rw[e,show decide (kR ws (arrOf st) lo<kO ws lo (arrOf st) (n-1))=M from ah au];exact wpS_pure (h n st b h2 B u)
 rw[aj H];have e:n=1:=by lia
 subst e;refine wpS_bind (wpS_lift (wpAny_rule ⟨O,?_⟩));refine wpS_bind (wpS_mono (wpS_forRange (λx c st'=>st'=st/\c=(Y,x,0)/\Ho ws lo (arrOf st) x) (Q:=λc st'=>st'=st /\ ∃m,c=(Y,m,0)/\2<=m/\m<=l/\Ho ws lo (arrOf st) m) ?_ ?_ ⟨O,O,λi j y v=>?_⟩) ?_)
 ·rintro x c st' y v ⟨rfl,rfl,t⟩;dsimp only;have e:kR ws (arrOf st') (lo+x-1)=kO ws lo (arrOf st') (x-1):=by unfold kO;congr 1;lia
  have ne:=zE C b.perm (lo:=lo) (i:=x) (j:=x-1) (by lia) (by lia) (by lia);refine wpS_bind (C.cmpL b (by lia) (by lia) (by lia) ?_);rw[e];by_cases z:kO ws lo (arrOf st') x<kO ws lo (arrOf st') (x-1)
  ·rw[show decide (kR ws (arrOf st') (lo+x)<kO ws lo (arrOf st') (x-1))=M from ah z];exact wpS_pure ⟨O,O,t.snoc z⟩
  ·rw[show decide (kR ws (arrOf st') (lo+x)<kO ws lo (arrOf st') (x-1))=J from ai z];refine wpS_bind (C.cmpL b (by lia) (by lia) (by lia) ?_);rw[e,show decide (kO ws lo (arrOf st') (x-1)<kR ws (arrOf st') (lo+x))=M from ah (by show kO ws lo (arrOf st') (x-1)<kO ws lo (arrOf st') x;lia)];exact wpS_pure ⟨O,x,O,by lia,by lia,t⟩
 ·rintro c st' ⟨rfl,rfl,t⟩;rw[Nat.max_eq_right (by lia)]at t ⊢;exact⟨O,l,O,by lia,nR1 _,t⟩
 ·have L:i=0:=by lia
  have P:j=1:=by lia
  subst L;subst P;exact K
 ·rintro c st' ⟨rfl,m,rfl,m1,m2,d⟩;dsimp only;rw[aj (by lia)];have D:lo+m<=(arrOf st').size:=by rw[b.perm.size_eq];lia
  have F:∀k,(mirror (arrOf st') lo (lo+m) ((lo+m-lo)/2))[k]?=if lo<=k/\k<lo+m then(arrOf st')[lo+(lo+m)-1-k]? else(arrOf st')[k]?:=λk=>getElem?_mirror_all D k
  have G:SoL κ a₀ lo st0 (setArr st' (mirror (arrOf st') lo (lo+m) ((lo+m-lo)/2))):=b.arr (mirror_perm _ _ _ _) λk ao=>by rw[F,aj (by lia)]
  have g:∀k,k<m->kO ws lo (mirror (arrOf st') lo (lo+m) ((lo+m-lo)/2)) k=kO ws lo (arrOf st') (m-1-k):=λk ao=>kr (by
   rw[F,ak (by lia)]
   congr 1;lia)
  refine wpS_bind (wpS_reverse (wpS_bind (q G (by lia) m2 (λi j B N=>?_) (λx c=>rfl) λn y v u _=>wpS_pure (h n _ G (by lia) v u))));show kO ws lo (mirror (arrOf st') lo (lo+m) ((lo+m-lo)/2)) i<kO ws lo (mirror (arrOf st') lo (lo+m) ((lo+m-lo)/2)) j;rw[g i (by lia),g j N];exact d _ _ (by lia) (by lia)
theorem GG(C:ln prog w A s κ ws a₀){st:SortSt}{n ok:Nat}{Q:Bool->SortSt->Prop}(hn:lo+n<=a₀.size)(am:ok<=n)(b:SoL κ a₀ lo st0 st)(u:wg ws lo (arrOf st) ok)(h:∀st',SoL κ a₀ lo st0 st'->wg ws lo (arrOf st') n->Q M st'):wpS (model prog w) A E s (binarySort' lo n ok) Q st:=by
 rw[binarySort'_eq];refine wpS_bind (wpS_mono (wpS_forRange (λk c st'=>c=(Y,())/\SoL κ a₀ lo st0 st'/\wg ws lo (arrOf st') (min k n)) (Q:=λc st'=>c=(Y,())/\SoL κ a₀ lo st0 st'/\wg ws lo (arrOf st') n) ?_ ?_ ⟨O,b,λi j h1 h2=>?_⟩) ?_)
 ·rintro k c st' F I ⟨rfl,f,d⟩;rw[bC (by lia)]at d;have v:lo+k<(arrOf st').size:=by rw[f.perm.size_eq];lia
  refine wpS_bind (wpS_mono (wpS_forRange (λx c a=>a=st' /\ ∃l r,c=(Y,l,r)/\l<=r/\r<=k/\r-l<=k-x/\(∀i,i<l->kO ws lo (arrOf st') i<kO ws lo (arrOf st') k) /\ ∀i,r<=i->i<k->kO ws lo (arrOf st') k<kO ws lo (arrOf st') i)
   (Q:=λc a=>a=st' /\ ∃l r,c=(Y,l,r)/\l<=k/\(∀i,i<l->kO ws lo (arrOf st') i<kO ws lo (arrOf st') k) /\ ∀i,l<=i->i<k->kO ws lo (arrOf st') k<kO ws lo (arrOf st') i) ?_ ?_ ⟨O,0,k,O,by lia,by lia,by lia,λi h1=>by lia,λi h1 h2=>by lia⟩) ?_)
  ·rintro x c a _ K ⟨rfl,l,r,rfl,h1,h2,q,p,o⟩;dsimp only;by_cases z:l>=r
   ·rw[ak z];have e:l=r:=by lia
    subst e;exact wpS_pure ⟨O,l,l,O,h2,p,o⟩
   ·rw[aj z];have L:(l+r)/2<k:=by lia
    refine wpS_bind (C.cmpL f (by lia) (by lia) (by lia) ?_);by_cases m:kO ws lo (arrOf a) k<kO ws lo (arrOf a) ((l+r)/2)
    ·rw[show decide (kR ws (arrOf a) (lo+k)<kR ws (arrOf a) (lo+(l+r)/2))=M from ah m];refine wpS_pure ⟨O,l,(l+r)/2,O,by lia,by lia,by lia,p,λi G H=>?_⟩;by_cases t:(l+r)/2=i
     ·rw[<- t];exact m
     ·exact bh m (d _ i (by lia) H)
    ·rw [show decide (kR ws (arrOf a) (lo+k)<kR ws (arrOf a) (lo+(l+r)/2))=false from decide_eq_false m];refine wpS_pure ⟨rfl,(l+r)/2+1,r,rfl,by lia,by lia,by lia,fun i G=>?_,o⟩;have B:kO ws lo (arrOf a) ((l+r)/2)<kO ws lo (arrOf a) k:=by
      have:=zE C f.perm (lo:=lo) (i:=k) (j:=(l+r)/2) (by lia) (by lia) (by lia);lia
     by_cases t:i=(l+r)/2
     ·rw[t];exact B
     ·exact bh (d i _ (by lia) (by lia)) B
  ·rintro c a ⟨rfl,l,r,rfl,h1,h2,q,p,o⟩;have e:l=r:=by lia
   subst e;exact⟨O,l,l,O,h2,p,o⟩
  ·rintro c a ⟨rfl,l,r,rfl,h1,h2,q⟩;show wpS _ _ _ _ (do moveDown' (lo+k) (lo+l);pure (ForInStep.yield (none,()))) _ _;rw [moveDown'_eq];have y:∀ i,(bubble (arrOf a) (lo+k) (lo+k-(lo+l)))[i]? = if i=lo+l then (arrOf a)[lo+k]? else if lo+l<i/\i<=lo+k then (arrOf a)[i-1]? else (arrOf a)[i]?:=fun i=>by
    have e:=getElem?_bubble v (lo+k-(lo+l)) (by lia) i;rw[show lo+k-(lo+k-(lo+l))=lo+l by lia]at e;exact e
   refine wpS_bind (wpS_modify (wpS_pure ⟨O,f.arr (bubble_perm _ _ _) λi hi=>by rw[y,aj (by lia),aj (by lia)],?_⟩));rw[bC (by lia)];have g:∀i,kO ws lo (bubble (arrOf a) (lo+k) (lo+k-(lo+l))) i=if i=l then kO ws lo (arrOf a) k else if l<i/\i<=k then kO ws lo (arrOf a) (i-1)else kO ws lo (arrOf a) i:=λi=>by
    have e:=y (lo+i);by_cases D:i=l
    ·rw[ak (by lia)]at e;rw[ak D];exact kr e
    ·rw[aj (by lia)]at e;rw[aj D];by_cases m:l<i/\i<=k
     ·rw[ak (by lia)]at e;rw[ak m];refine kr (e.trans ?_)
      congr 1;lia
     ·rw[aj (by lia)]at e;rw[aj m];exact kr e
   intro i j p o;show kO ws lo (bubble (arrOf a) (lo+k) (lo+k-(lo+l))) i<kO ws lo (bubble (arrOf a) (lo+k) (lo+k-(lo+l))) j;rw[g,g]
   repeat' split
   all_goals first
    |(exfalso;lia)
    |exact h2 _ (by lia)
    |exact q _ (by lia) (by lia)
    |exact d _ _ (by lia) (by lia)
 ·rintro c st' ⟨hc,f,d⟩;refine⟨hc,f,?_⟩
  rwa [show min (max (max ok 1) n) n=n by lia]at d
 ·by_cases z:ok=0
  ·lia
  ·exact u i j h1 (by lia)
 ·rintro c st' ⟨rfl,f,d⟩;exact wpS_pure (h st' f d)
end
theorem mQ:∀{s:Nat} {rs:List (List Keyed)} {p:List (Nat×Nat×Nat)},fH s rs p->p.length=rs.length
 |_,[],[],_=>rfl
 |_,[],_::_,h=>by cases h
 |_,_::_,[],h=>by cases h
 |s,r::rs,(t,n,pw)::p,⟨_,_,h⟩=>by rw[lC1,lC1,mQ h]
theorem oy:∀{s:Nat} {rs:List (List Keyed)} {p:List (Nat×Nat×Nat)} {r:List Keyed} {pw:Nat},fH s rs p->fH s (rs++[r]) (p++[(s+rs.flatten.length,r.length,pw)])
 |_,[],[],_,_,_=>⟨by simp,O,trivial⟩
 |_,[],_::_,_,_,h=>by cases h
 |_,_::_,[],_,_,h=>by cases h
 |s,r::rs,(t,n,pw)::p,r',pw',⟨e1,e2,h⟩=>by
  refine⟨e1,e2,?_⟩;have:=oy (r:=r') (pw:=pw') h
  rwa [bm,<- lA1,<- c8]at this
theorem rK{g:Nat×Nat×Nat->Nat×Nat×Nat}(hg:∀x,(g x).1=x.1/\(g x).2.1=x.2.1):∀{s:Nat} {rs:List (List Keyed)} {p:List (Nat×Nat×Nat)} {k:Nat},fH s rs p->fH s rs (p.modify k g)
 |_,[],[],k,_=>by cases k<;>exact trivial
 |_,[],_::_,_,h=>by cases h
 |_,_::_,[],_,h=>by cases h
 |s,r::rs,(t,n,pw)::p,0,⟨e1,e2,h⟩=>by
  obtain⟨a,b⟩:=hg (t,n,pw);show fH s (r::rs) (g (t,n,pw)::p);exact⟨a.trans e1,b.trans e2,h⟩
 |s,r::rs,(t,n,pw)::p,k+1,⟨e1,e2,h⟩=>⟨e1,e2,rK hg h⟩
section
variable{prog:dF}{w:dH}{A:dG}{E:dB->dD->Prop}{s:dD}{κ:SortKind}{ws:List dB}{a₀:Array Keyed}{rs:List (List Keyed)}{rest:List Keyed}{st st':SortSt}
theorem SR.size(h:SR ws κ a₀ rs rest st):rs.flatten.length+rest.length=a₀.size:=by
 have:=congrArg List.length h.ar;rw[aJ,h.pm.size_eq,lA1]at this;exact this.symm
theorem SR.many(h:SR ws κ a₀ rs rest st):rs.length<=rs.flatten.length:=by
 have:∀{l:List (List Keyed)},(∀r∈l,r≠[])->l.length<=l.flatten.length:=by
  intro l
  induction l with
  |nil=>intro _;exact nR1 _
  |cons r l ih=>
   intro a;have h1:=ih λx b=>a x (mC1 _ b);have h2:0<r.length:=da.mpr (a r mS1);rw[lC1,c8,lA1];lia
 exact this λr a=>(h.so r a).2
theorem SoL.sr(h:SR ws κ a₀ rs rest st)(b:SoL κ a₀ rs.flatten.length st st'):SR ws κ a₀ rs ((arrOf st').toList.drop rs.flatten.length) st':=by
 refine⟨b.kind,b.failed.trans h.f,b.perm,?_,h.so,by rw[b.pend];exact h.pe⟩;have:(arrOf st').toList.take rs.flatten.length=rs.flatten:=by
  have e:(arrOf st).toList.take rs.flatten.length=rs.flatten:=by rw[h.ar,de]
  rw[<- e];refine b5 λi=>?_;by_cases hi:i<rs.flatten.length
  ·rw[e,aS hi,<- e,aS hi,aT1,aT1];exact b.pre i hi
  ·rw[e,b6 (by rw[aQ];lia),b6 (by lia)]
 conv=>lhs;rw[<- cK rs.flatten.length (arrOf st').toList,this]
theorem uT{lo n:Nat}(hp:(arrOf st').Perm a₀)(hn:lo+n<=a₀.size)(u:wg ws lo (arrOf st') n):Srt ws (((arrOf st').toList.drop lo).take n):=by
 refine cw.mpr λi j hi b a=>?_;rw[aQ,aV]at hi b;have:=u i j a (by lia);have c:=hp.size_eq;rw[aJ]at hi b;unfold kO kR at this;rw[aG1 (show lo+i<(arrOf st').size by lia),aG1 (show lo+j<(arrOf st').size by lia)]at this;simpa using this
theorem Hc(C:ln prog w A s κ ws a₀){Q:Unit->SortSt->Prop}(h0:SR ws κ a₀ [] a₀.toList st)(h2:2<=a₀.size)(q:∀st',(arrOf st').Perm a₀->failedOf st'=Y->Srt ws (arrOf st').toList->Q () st'):wpS (model prog w) A E s sortRuns' Q st:=by
 rw[sortRuns'_eq];refine wpS_bind (wpS_get ?_);dsimp only;generalize minRun' (arrOf st).size (arrOf st).size 0=mr;rw[h0.pm.size_eq];refine wpS_bind (wpS_mono (wpS_forRange (λx c st'=>∃rs rest,SR ws κ a₀ rs rest st'/\c=(Y,rs.flatten.length)/\x<=rs.flatten.length)
  (Q:=λc st'=>∃rs lo,SR ws κ a₀ rs [] st'/\c=(Y,lo)) ?_ ?_ ⟨[],a₀.toList,h0,O,nR1 _⟩) ?_)
 ·rintro x c st' _ S ⟨rs,rest,h,rfl,ao⟩;have v:=h.size;dsimp only;by_cases z:rs.flatten.length>=a₀.size
  ·rw[ak z];have e:rest=[]:=cu.mp (by lia);subst e;exact wpS_pure ⟨rs,_,h,O⟩
  rw[aj z];refine wpS_bind (F1 (lo:=rs.flatten.length) (st0:=st') C (by lia) (by lia) ⟨h.pm,h.k,O,O,λ_ _=>rfl⟩ λm st2 b m1 m2 u=>?_);dsimp only;have y:=b.sr h;have T:=y.size;refine(λ(t:∀(n:Nat) (j:SortSt) (a:List Keyed),SR ws κ a₀ rs a j->Srt ws (a.take n)->1<=n->n<=a.length->(?T:Nat->SortSt->Prop) n j)=>?go) ?mn
  case go=>
   by_cases U:m<mr
   ·rw[ak U];refine wpS_bind (wpS_lift (wpAny_rule ⟨O,?_⟩));refine wpS_bind (GG (lo:=rs.flatten.length) (st0:=st') C (n:=min (a₀.size-rs.flatten.length) mr) (by lia) (by lia) b u λj b3 u3=>?_);simp only[b7,bF1,if_false];have I:=b3.sr h;have hsz3:=I.size;have l:=uT b3.perm (by lia) u3;have W:1<=min (a₀.size-rs.flatten.length) mr:=by lia
    have F:min (a₀.size-rs.flatten.length) mr<=((arrOf j).toList.drop rs.flatten.length).length:=by lia
    generalize min (a₀.size-rs.flatten.length) mr=n at l W F ⊢;exact t n j _ I l W F
   ·rw[aj U];have l:=uT b.perm (by lia) u;have F:m<=((arrOf st2).toList.drop rs.flatten.length).length:=by lia
    generalize hst:st2=j at y l F ⊢;generalize hmn:m=n at l m1 F ⊢;exact t n j _ y l m1 F
  intro n j a N hs n1 am;refine wpS_bind (wpS_get ?_);have wq:=N.size;refine(λ(p:∀(f:List (List Keyed)) (d:SortSt),SR ws κ a₀ f a d->(?T2:SortSt->Prop) d)=>?go2) ?mn2
  case go2=>
   cases hb:(pendingOf j).back? with
   |none=>
    dsimp only;exact p rs j N
   |some q1=>
    obtain⟨X,D,pw1⟩:=q1;dsimp only;generalize power' a₀.size (2*X+D) (2*X+D+D+n) a₀.size=pv;refine wpS_bind (wpS_mono (wpS_forRange (λx c d=>c=(Y,()) /\ ∃f,SR ws κ a₀ f a d) (Q:=λc d=>c=(Y,()) /\ ∃f,SR ws κ a₀ f a d) ?_ (λ_ _ h=>h) ⟨O,rs,N⟩) ?_)
    ·rintro x c d _ S ⟨rfl,f,k⟩;have B:=mQ k.pe;rw[aJ]at B;refine wpS_bind (wpS_get ?_);by_cases R:(pendingOf d).size>1
     ·rw[ak R,aG1 (show(pendingOf d).size-2<(pendingOf d).size by lia)];generalize (pendingOf d)[(pendingOf d).size-2]'(by lia)=pq;obtain⟨pa,pb,pc⟩:=pq;dsimp only;by_cases aq:pc<=pv
      ·rw[ak aq];exact wpS_pure ⟨O,f,k⟩
      ·rw[aj aq];refine wpS_bind (k.merge C (i:=(pendingOf d).size-2) (gG1 (by lia)) (gG1 (by lia)) λr o G=>?_);simp only[b7,bF1,if_false];exact wpS_pure ⟨O,_,G⟩
     ·rw[aj R];exact wpS_pure ⟨O,f,k⟩
    ·rintro c d ⟨rfl,f,k⟩;dsimp only;refine wpS_bind (wpS_modify ?_);refine p f _ ⟨k.k,k.f,k.pm,k.ar,k.so,?_⟩;show fH 0 f ((pendingOf d).modify ((pendingOf d).size-1) _).toList;rw[Array.toList_modify];exact rK (g:=λx=>(x.1,x.2.1,pv)) (λx=>⟨O,O⟩) k.pe
  intro f d k;have V:=k.size;have H:rs.flatten.length=f.flatten.length:=by lia
  refine wpS_bind (wpS_modify (wpS_pure ⟨f++[a.take n],a.drop n,⟨k.k,k.f,k.pm,?_,?_,?_⟩,?_,?_⟩))
  ·refine k.ar.trans ?_;rw[db,bI];simp
  ·intro r au;rcases aG.mp au with P|P
   ·exact k.so r P
   ·rw[cY.mp P];exact⟨hs,λe=>by have:=congrArg List.length e;rw[aQ,bf]at this;lia⟩
  ·show fH 0 _ ((pendingOf d).push (rs.flatten.length,n,0)).toList;rw[cA,H];have:=oy (r:=a.take n) (pw:=0) k.pe
   rwa [bP,aQ,bC am]at this
  ·rw[db,lA1,H,List.flatten_singleton,aQ,bC am]
  ·rw[db,lA1,List.flatten_singleton,aQ,bC am];lia
 ·rintro c st' ⟨rs,rest,h,rfl,ao⟩;have v:=h.size;have e:rest=[]:=cu.mp (by lia);subst e;exact⟨rs,_,h,O⟩
 ·rintro c st' ⟨rs,lo,h,rfl⟩;dsimp only;have v:=h.size;rw[bf,Nat.add_zero]at v;have L:=h.many;refine wpS_bind (wpS_mono (wpS_forRange (λx c st2=>c=(Y,()) /\ ∃rs,SR ws κ a₀ rs [] st2/\rs.length+x<=a₀.size) (Q:=λc st2=>c=(Y,()) /\ ∃rs,SR ws κ a₀ rs [] st2/\rs.length<=1) ?_ ?_ ⟨O,rs,h,by lia⟩) ?_)
  ·rintro x c st2 _ S ⟨rfl,rs,h,K⟩;have B:=mQ h.pe;rw[aJ]at B;refine wpS_bind (wpS_get ?_);by_cases z:(pendingOf st2).size<=1
   ·rw[ak z];exact wpS_pure ⟨O,rs,h,by lia⟩
   rw[aj z];have mg:∀i,i+1<rs.length -> ∀{Q:Bool->SortSt->Prop},(∀r o,SR ws κ a₀ r [] o->r.length+1=rs.length->Q M o)->wpS (model prog w) A E s (mergeAt' i) Q st2:=λi hi Q hq=>
    h.merge C (i:=i) (gG1 (by lia)) (gG1 hi) λr o G=>hq _ o G (by rw[lA1,lC1,aQ,aV];lia)
   refine wpS_bind (mg _ ?_ λr o G hl5=>?_)
   ·split<;>lia
   ·simp only[b7,bF1,if_false];exact wpS_pure ⟨O,r,G,by lia⟩
  ·rintro c st2 ⟨rfl,rs,h,K⟩;exact⟨O,rs,h,by lia⟩
  ·rintro c st2 ⟨rfl,rs,h,K⟩;refine wpS_pure (q st2 h.pm h.f ?_);rw[h.ar,aM]
   match rs,K,h.so with
   |[],_,_=>exact .nil
   |[r],_,so=>simpa using(so r (by simp)).1
end
theorem Dp{ws:List dB}{xs a₀:Array Keyed}(p:xs.Perm a₀)(h:Srt ws xs.toList):Up ws xs a₀.size:=λi j a b=>by
 have c:=p.size_eq;have:=cw.mp h i j (by rw[aJ];lia) (by rw[aJ];lia) a;unfold kR;rw[aG1 (show i<xs.size by lia),aG1 (show j<xs.size by lia)];simpa using this
section
variable{prog:dF}{w:dH}{A:dG}{E:dB->dD->Prop}{s:dD}
theorem yn {a:dE}{vs ws:List dB}{n:Nat}{κ:SortKind}{P:Fin->dD->Prop}(ho:s.heap.get? a=some (seqObj "list" vs.toArray n))(v:vs.length<=dL)(hp:vs.Perm ws)
  (m:∀h',(∀b o,b≠a->s.heap.get? b=Z o->h'.get? b=Z o)->2<=vs.length->ln prog w A {s with heap:=h'} κ ws (pairsOf vs) /\ ∀Q:SortKind->dD->Prop,Q κ {s with heap:=h'}->dM (model prog w) A (keyKind' vs.toArray) Q E {s with heap:=h'})
  (h:P (.done (.ret .none)) {s with heap:=sortedHeap s.heap a vs ws.toArray}):dM (model prog w) A (Builtin.«list.sort» ⟨[.ref a],[]⟩) P E s:=by
 rw[list_sort_plain];have u:a<s.heap.objs.size:=hL1 ho;refine wB1 (listItems_at ho O ?_);refine wB1 (listUpdate_at ho O ?_);obtain⟨i,g⟩:∃i,(s.heap.update a (Obj.mapSeq λ_=> #[])).get? a=some (seqObj "list" #[] i):=⟨_,get?_update_seq ho (λ_=> #[])⟩;refine wB1 (seqEpoch_at g O (wB1 (wpAny_newTuple (wB1 (wpAny_newList (wpAny_holding ?_))))));have keep:∀b o,b≠a->s.heap.get? b=Z o->(((s.heap.update a (Obj.mapSeq λ_=> #[])).push (seqObj "tuple" vs.toArray 0)).push (seqObj "list" #[] 0)).get? b=Z o:=λb o l e=>
  hP1 _ (hP1 _ (by rw[hU1 _ _ _ _ l];exact e))
 have c:(((s.heap.update a (Obj.mapSeq λ_=> #[])).push (seqObj "tuple" vs.toArray 0)).push (seqObj "list" #[] 0)).get? a=Z (seqObj "list" #[] i):=hP1 _ (hP1 _ g);show dM (model prog w) A _ P E {s with heap:=((s.heap.update a (Obj.mapSeq λ_=> #[])).push (seqObj "tuple" vs.toArray 0)).push (seqObj "list" #[] 0)};dsimp only;have t:vs.toArray.size=vs.length:=by simp
 have d:=hp.length_eq;have f:∀xs:Array Keyed,xs.map (·.2)=ws.toArray->P (.done (.ret .none)) {s with heap:=sortedHeap s.heap a vs (xs.map (·.2))}:=λxs e=>by rw[e];exact h
 by_cases h2:vs.toArray.size<2
 ·rw [if_pos h2,if_pos h2];refine wB1 (wP1 ?_);rw [StateT.run_pure];refine wB1 (wP1 (wB1 (seqEpoch_at c rfl ?_)));have e:((vs.toArray.zip vs.toArray).map (·.2):Array dB)=ws.toArray:=by
   have:vs=ws:=by
    match vs,ws,hp,h2 with
    |[],ws,hp,_=>exact(List.nil_perm.mp hp).symm
    |[x],ws,hp,_=>exact(List.singleton_perm.mp hp).symm ▸ rfl
    |_::_::_,_,_,h2=>simp at h2;lia
   subst this;apply Array.ext';simp;exact List.map_snd_zip (nR1 _)
  refine wB1 (listUpdate_at c O ?_ (hsz2:=by
   show(Array.map (·.2) (vs.toArray.zip vs.toArray)).size<=_;rw[e,sT1,<- d];lia))
  simp only[bne_self_eq_false,bF1,if_false];exact wP1 (f _ e)
 ·rw [if_neg h2,if_neg h2];obtain ⟨C,K⟩:=m _ keep (by lia);refine wB1 (K _ ?_);refine wB1 (wpAny_mono (Hc C (st:=SortSt.mk' κ (vs.toArray.zip vs.toArray) #[] 7 none)
   (Q:=λ_ st'=>(arrOf st').Perm (pairsOf vs)/\failedOf st'=Y/\Srt ws (arrOf st').toList) ⟨O,O,Array.Perm.refl _,O,(λr k=>by cases k),trivial⟩ (by rw[pairsOf_size];lia) λst' a1 a2 a3=>⟨a1,a2,a3⟩) ?_ λ_ _ e=>e)
  rintro⟨⟨⟩,st'⟩ s' ⟨rfl,j,q,p⟩;have e:=Ds C j (Dp j p);refine wB1 (seqEpoch_at c O ?_);refine wB1 (listUpdate_at c O ?_ (hsz2:=by
   show(Array.map (·.2) (arrOf st')).size<=_;rw[e,sT1,<- d];lia))
  rw[q];simp only[bne_self_eq_false,bF1,if_false];exact wP1 (f _ e)
theorem tZ {v:dB}{vs ws:List dB}{κ:SortKind}{Q:dB->dD->Prop}(k:vs.length<=dL)(f:vs.Perm ws)
  (d:∀(E:dB->dD->Prop) (Q:List dB->dD->Prop),(∀h',(∀b u,s.heap.get? b=Z u->h'.get? b=Z u)->s.heap.objs.size<=h'.objs.size->Q vs {s with heap:=h'})->dM (model prog w) A.in1 (collect v) Q E s)
  (l:∀a:dN,(∀b u,s.heap.get? b=Z u->a.get? b=Z u)->ln prog w A.in1.in1 {s with heap:=a} κ ws (pairsOf vs) /\
   (vs≠[] -> ∀(E:dB->dD->Prop) (Q:SortKind->dD->Prop),Q κ {s with heap:=a}->dM (model prog w) A.in1.in1 (keyKind' vs.toArray) Q E {s with heap:=a}))
  (g:∀(a:dN) (L:dE) (n:Nat),(∀b u,s.heap.get? b=Z u->a.get? b=Z u)->s.heap.objs.size<=L->a.get? L=Z (seqObj "list" ws.toArray n)->Q (.ref L) {s with heap:=a}):
  dM (model prog w) A (call (.builtin "sorted") [v]) Q E s:=by
 refine Calls.call_function_entry kind_sorted plain_sorted entry_sorted (args_sorted1 _) ?_;unfold Builtin.«sorted»;refine wB1 (m:=checkCount "sorted" 1 1 _) (wP1 ?_);refine wB1 (d _ _ λh' keep i=>?_);refine wB1 (wpAny_newList (hsz:=k) ?_);have c:(h'.push (seqObj "list" vs.toArray 0)).get? h'.objs.size=Z (seqObj "list" vs.toArray 0):=hS1 _ O;show dM _ _ _ _ _ {s with heap:=h'.push (seqObj "list" vs.toArray 0)};refine wB1 (wpAny_holding (wE1 slot_list_sort ⟨_,c,O⟩ entry_list_sort (yn (s:={s with heap:=h'.push (seqObj "list" vs.toArray 0)}) (κ:=κ) (ws:=ws) c k f (λa o h2=>?_) ⟨_,O,?_⟩) (args_list_sort _)))
 ·have:=l a λb u e=>o b u (nN1 (hL1 (keep b u e))) (hP1 _ (keep b u e));exact⟨this.1,this.2 (λz=>by rw[z]at h2;simp at h2) _⟩
 ·obtain⟨n,h⟩:=sortedHeap_at (out:=ws.toArray) c;refine wP1 ⟨_,O,g _ h'.objs.size n (λb u e=>?_) i h⟩;have j:b<h'.objs.size:=hL1 (keep b u e);show(sortedHeap (h'.push (seqObj "list" vs.toArray 0)) h'.objs.size vs ws.toArray).get? b=Z u;rw[sortedHeap_old (nN1 j) (by rw[hZ1];exact cI j)];exact hP1 _ (keep b u e)
end
noncomputable def nk:G1:=λd S=>match d6 S d with
 |some (M,xs)=>(ng xs).bind λ_=>if(me xs&&(lD (jR xs)&&decide (xs.length<=100000)))=M then Z (.ref S.length,S++[.lst (jR xs)])else Y
 |_=>Y
section
variable{X:Cx}
theorem Cn(R:X.A.units+64<cLine):fj X (.builtin "sorted") (rN X.K (b1 nk)):=by
 intro ag s σ H xs U Q I r h;obtain⟨x,mu,S,d,T,V,rfl,K,m,g,hc⟩:=DB h;unfold nk at g;split at g
 ·rename_i ds C;obtain⟨f,am,g⟩:=oB1.mp g;split at g
  ·rename_i c;cases g;rw[bA1,bA1,al]at c;obtain⟨a,vs,rfl,q,t⟩:=ev K m C;obtain⟨u,rfl,r2⟩:=iM r;cases r2;obtain⟨j,p,F,P⟩:=I.list q;have k:j.length=ds.length:=by rw[<- p.length,<- t.length]
   have i:j.length<=dL:=by rw[k,sizeLine_eq];lia
   obtain⟨w,zs,ao,z,N,au,G⟩:=Dr I m (A:=X.A.in1.in1) (by show X.A.units+1+1+60<cLine;lia) (f:=f) t p c.1 (uy am) c.2.1;refine tZ i N (λE Q q=>?_) G (λD L n keep y v=>?_)
   ·refine collect_list F.isList (q _ (λb u e=>?_) ?_) i
    ·have B:b<s.heap.objs.size:=hL1 e;rw[hU1 _ _ _ _ (nN1 B)];exact hP1 _ e
    ·rw[Heap.size_update,hZ1];exact aX _
   ·have l:H L=Y:=I.hok.fresh y;refine⟨.ref L,_,I.laid (t':=s.toks) (o:=.lst w) keep y ⟨?_,zs,n,z,v⟩,O,hc _ _ (mu++[L]) (Ext.new_ l) (.ref (fZ m.len _)) (m.newL ao l)⟩;rw[au,p.length];exact i
  ·cases g
 ·cases g
end
theorem oZ:entryFor table "dict.update.loop"=Z Builtin.«dict.update.loop» :=entryFor_of_tree (by kernel_rfl)
theorem ji:plainId "dict.update.loop"=M:=by decide+kernel
theorem wI:typeLookup (.type "list") (Str.ofString "keys")=pure Y:=by rw[typeLookup_type,builtinLookup_eq_fast];kernel_rfl
section
variable{P:dF}{w:dH}{A:dG}{E:dB->dD->Prop}{s:dD}
theorem xy {a:dE}{xs:Array dB}{k:Nat}{sl:Array (Option dB)}{Q:Option dB->dD->Prop}(hx:s.heap.get? a=some {cls:=.type "list",dict:=none,data:=.seq xs k,slots:=sl})(l:A.handled=none)
  (h:∀h' tk,(∀b o,s.heap.get? b=Z o->h'.get? b=Z o)->Q Y {s with heap:=h',toks:=tk}):dM (model P w) A (getAttr? (.ref a) (Str.ofString "keys")) Q E s:=by
 obtain⟨m,g,d,tk,j⟩:=s;have i:∀c,(⟨m,g,d,c,j⟩:dD).TypeIs (.ref a) "list":=λ_=>⟨_,hx,O⟩;have n:=sub_AttributeError;have v:=PySem.F.slot_list_getattribute.lookup;have t:=PySem.F.slot_list_getattribute.bind (.ref a);have r:=am_list_getattr_none;unfold getAttr? getAttrBy? getAttrBy
 repeat(any_goals (first|assumption|exact i _|((with_reducible show dM _ _ (call (Value.builtin "list.__getattribute__") _ _) _ _ _);refine call_meets PySem.F.slot_list_getattribute (i _) am_entry_list_getattribute (PySem.F.args_list_getattribute_2 _ _) (meets_getattribute_miss_list a xs k sl _ _ wI (by decide) (by decide)) ⟨hx,l,λh' c e f=>?_⟩)|wp_step))
 obtain⟨p,q,u⟩:=f.there;show dM _ _ (getattributeRaised _ _ _ _ _ _ _) _ _ _;unfold getattributeRaised
 repeat(any_goals (first|assumption|wp_step))
 exact h _ _ f.keeps
variable{K:Type} [DecidableEq K] {knd:HeapKind P w K}
abbrev tF(K:Type):=K×dE×dB
noncomputable def gx(ps:List (tF K)):List (tF K):=ps.foldl (λa q=>storedH a q.1 q.2.1 q.2.2) []
theorem rp(xs:List (tF K))(k:K)(a:dE)(v:dB):(storedH xs k a v).length<=xs.length+1:=by
 unfold storedH;split
 ·rw[lM1];exact aX _
 ·rw[lA1];exact nR1 _
theorem oU:∀(ps acc:List (tF K)),(ps.foldl (λa q=>storedH a q.1 q.2.1 q.2.2) acc).length<=acc.length+ps.length
 |[],acc=>nR1 _
 |p::ps,acc=>by
  rw[cb,lC1];have h1:=oU ps (storedH acc p.1 p.2.1 p.2.2);have h2:=rp acc p.1 p.2.1 p.2.2;lia
theorem uB{ps:List (tF K)}{i:Nat}{q:tF K}(h:ps[i]?=Z q):gx (ps.take (i+1))=storedH (gx (ps.take i)) q.1 q.2.1 q.2.2:=by
 unfold gx;rw[cH,h,List.foldl_append];rfl
theorem sE{F:tF K->Prop}(d:∀(k:K) (a:dE) (v e:dB),F (k,a,v)->F (k,a,e)):∀(ps acc:List (tF K)),(∀x∈ps,F x)->(∀x∈acc,F x) -> ∀x∈ps.foldl (λa q=>storedH a q.1 q.2.1 q.2.2) acc,F x
 |[],acc,_,h=>h
 |p::ps,acc,hp,h=>by
  rw[cb];refine sE d ps _ (λx b=>hp x (mC1 _ b)) λx b=>?_;unfold storedH at b;split at b
  ·obtain⟨y,c,rfl⟩:=ci.mp b;unfold putAt;split
   ·exact d _ _ y.2.2 _ (h y c)
   ·exact h y c
  ·rcases aG.mp b with z|z
   ·exact h x z
   ·simp at z;subst z;exact hp p mS1
theorem zW{h:dN}{ps:List (tF K)}(hp:∀x∈ps,knd.is h x.1 x.2.1):∀x∈gx ps,knd.is h x.1 x.2.1:=
 sE (F:=λx=>knd.is h x.1 x.2.1) (λ_ _ _ _ z=>z) ps [] hp λx a=>by cases a
theorem xg{d l it:dE}{h0:dN}{its:Array dB}{ps:List (tF K)}{R:Result->dD->Prop}(hh:A.handled=none)(hu:knd.room A.in1)(v:its.size=ps.length)(hps:ps.length<=dL)(S:h0.IsList l its)(nd:h0.get? d=none)(ni:h0.get? it=none)(m:d≠it)(f:∀(h:dN) (k:K) (a:dE),(∀c o,h0.get? c=some o->h.get? c=some o)->knd.is h0 k a->knd.is h k a)(U:∀(i:Nat) (q:tF K),ps[i]?=some q -> ∃D:dE,its[i]?=some (Value.ref D)/\h0.IsTuple D #[Value.ref q.2.1,q.2.2]/\knd.is h0 q.1 q.2.1):
  ∀(n i:Nat) (s:dD),its.size-i=n->i<=its.size->(∀c o,h0.get? c=Z o->s.heap.get? c=Z o)->s.heap.IsListIter it l i->s.heap.DictOfH knd d (gx (ps.take i)) ->
  (∀h' tk,(∀c o,h0.get? c=Z o->h'.get? c=Z o)->h'.DictOfH knd d (gx ps)->R (.ok (.ret .none)) {s with heap:=h',toks:=tk})->codeAny (model P w) A (.builtin "dict.update.loop" ⟨[.ref d,.ref it,.int i 0,.none],[]⟩) R s:=by
 have C:∀{c:dE} {o:Obj},h0.get? c=Z o->c≠d/\c≠it:=λ{c o} e=>⟨λz=>(by rw[z,nd]at e;cases e),λz=>(by rw[z,ni]at e;cases e)⟩;have u:∀i,∀x∈gx (ps.take i),knd.is h0 x.1 x.2.1:=λi=>zW λx g=>by
  obtain⟨j,aq⟩:=br (cO g);obtain⟨_,_,_,h⟩:=U j x aq;exact h
 intro n
 induction n with
 |zero=>
  intro i s hk hi keep st G q;have e:i=its.size:=by lia
  subst e;have p:s.heap.IsList l its:=by obtain⟨o,e,r⟩:=S;exact⟨o,keep _ _ e,r⟩
  refine wD1 oZ (?_:_);rw[Around.under_plainId ji _];show dM _ A.in1 (pyNext (.ref it) >>= _) _ _ s;refine wB1 (wpAny_pyNext_list_end (by simpa using hh) st p (by simp) λh' am=>?_);refine wB1 (wP1 (wP1 ?_));refine q h' s.toks (λc o e=>am c o (C e).2 (keep c o e)) ?_;have B:h'.DictOfH knd d (gx (ps.take its.size)):=by
   obtain⟨o,es,ep,L,F,au,N,X,H⟩:=G;have k2:∀x∈gx (ps.take its.size),knd.is h' x.1 x.2.1:=λx g=>f _ _ _ (λc o e=>am c o (C e).2 (keep c o e)) (u _ x g);exact⟨o,es,ep,am d o m L,F,au,N,k2,H⟩
  rw[v,b4]at B;exact B
 |succ n ih=>
  intro i s hk hi keep st G q;have Q:i<its.size:=by lia
  have p:s.heap.IsList l its:=by obtain⟨o,e,r⟩:=S;exact⟨o,keep _ _ e,r⟩
  obtain⟨pr,t⟩:∃pr,ps[i]?=some pr:=⟨_,gG1 (by lia)⟩;obtain⟨D,g,⟨op,W,hc,np,hd⟩,E⟩:=U i pr t;refine wD1 oZ (?_:_);rw[Around.under_plainId ji _];show dM _ A.in1 (pyNext (.ref it) >>= _) _ _ s;refine wB1 (wpAny_pyNext_list_item st p g λh' st' V=>?_);have b:∀c o,h0.get? c=Z o->h'.get? c=Z o:=λc o e=>by rw[V.2 c (C e).2];exact keep c o e
  have ao:h'.DictOfH knd d (gx (ps.take i)):=by
   obtain⟨o,es,ep,L,F,au,N,X,H⟩:=G;exact⟨o,es,ep,by rw[V.2 d m];exact L,F,au,N,λx g=>f _ _ _ b (u _ x g),H⟩
  show dM _ A.in1 (holding [Value.ref D] _ >>= _) _ _ _;refine wB1 (wpAny_holding (wB1 (wpAny_tryCatch ?_)));unfold Builtin.Dict.pairItems;refine wB1 (wpAny_typeOf (T:="tuple") ⟨op,b _ _ W,hc⟩ ?_);rw[ak (by decide)];refine wB1 (wpAny_seqItems (b _ _ W) hd (wP1 ?_));dsimp only[b9];refine wpAny_holding (wpAny_dictSet_heap (s:={s with heap:=h'}) hu (f _ _ _ b E) ao (λh2 I y=>?_) ?_)
  ·refine wP1 ⟨plainId_quiet ji _,?_⟩;have hq:=ih (i+1) {s with heap:=h2,toks:=s.toks+knd.draws pr.1} (by lia) Q (fun c o e=>by rw [y.2 c (C e).1];exact b c o e) (by
    obtain⟨o,e1,e2⟩:=st';exact⟨o,by rw[y.2 it (Ne.symm m)];exact e1,e2⟩) (by rw[uB t];exact I) λh3 tk wq x3=>q h3 tk wq x3
   exact hq
  ·have:=oU (ps.take i) [];unfold gx;rw[aQ]at this;simp at this;lia
theorem uI {l:dE}{xs:Array dB}{kl:Nat}{sl:Array (Option dB)}{Q:dB->dD->Prop}(p:A.handled=none)(hx:s.heap.get? l=some {cls:=.type "list",dict:=none,data:=.seq xs kl,slots:=sl})
  (i:∀(j:dG) (h1:dN) (tk:Nat) (it:dE),j.handled=Y->j.units<=A.units+2->(∀b o,s.heap.get? b=Z o->h1.get? b=Z o)->s.heap.get? it=Y->s.heap.objs.size≠it->h1.IsListIter it l 0->h1.DictOfH knd s.heap.objs.size [] ->
   ∀R:Result->dD->Prop,(∀s',Q (.ref s.heap.objs.size) s'->R (.ok (.ret .none)) s')->codeAny (model P w) j (.builtin "dict.update.loop" ⟨[.ref s.heap.objs.size,.ref it,.int 0 0,.none],[]⟩) R {s with heap:=h1,toks:=tk}):
  dM (model P w) A (call (.type "dict") [.ref l]) Q E s:=by
 refine callType_codes (Q₁:=λg c=>g = .ref s.heap.objs.size/\c={s with heap:=s.heap.push {cls:=.type "dict",data:=.dict #[]}}) PySem.F.kt_called_dict (PySem.F.kt_typeCall_dict_1 _) PySem.F.entry_dict_init (kt_code_dict_new _ ⟨O,O⟩) ?_;rintro g c ⟨rfl,rfl⟩;have d:(s.heap.push {cls:=.type "dict",data:=.dict #[]}).DictOfH knd s.heap.objs.size []:=Heap.DictOfH.new s.heap;have m:Shared.TypeIs {s with heap:=s.heap.push {cls:=.type "dict",data:=.dict #[]}} (.ref s.heap.objs.size) "dict":=d.typeIs;have h:(s.heap.push {cls:=.type "dict",data:=.dict #[]}).get? l=Z {cls:=.type "list",dict:=Y,data:=.seq xs kl,slots:=sl}:=hP1 _ hx;refine⟨m,PySem.F.args_dict_init_2 _ _,?_⟩;unfold Builtin.«dict.__init__»;refine wB1 ?_;unfold Builtin.Dict.selfAndRest;refine wB1 (wpAny_notOrdered_dict m ?_);show dM _ _ (pure (s.heap.objs.size,[Value.ref l])) _ _ _;refine wP1 ?_;show dM _ _ (Builtin.Dict.updateFrom "dict.__init__" s.heap.objs.size (.ref l) [] .none) _ _ _;unfold Builtin.Dict.updateFrom;refine wB1 (wpAny_typeOf (T:="list") ⟨_,h,O⟩ ?_);rw[ak (by decide)];refine wB1 (xy (s:={s with heap:=s.heap.push {cls:=.type "dict",data:=.dict #[]}}) h (by simpa using p) λh1 tk keep=>?_);rw[ak (show(Y:Option dB).isNone=M from rfl)];have a:∀b o,s.heap.get? b=Z o->h1.get? b=Z o:=λb o e=>keep b o (hP1 _ e);have t:h1.IsList l xs:=⟨_,a _ _ hx,O,kl,O⟩;refine wB1 (wpAny_rule (wB1 (wpAny_pyIter_list (s:={s with heap:=h1,toks:=tk}) t ?_)));obtain⟨r,es,ep,y,u,B,z,C,v⟩:=d;have n:=keep _ _ y;have k:=hL1 n;have f:h1.get? h1.objs.size=Y:=Heap.get?_none_of_le (nR1 _);refine wB1 (wP1 (wP1 ⟨plainId_quiet ji _,?_⟩));refine i A.in1 _ tk h1.objs.size (by simpa using p) (aX _) (λb o e=>hP1 _ (a b o e)) ?_ (nN1 k) ?_ ?_ _ λs' q=>⟨O,q⟩
 ·cases e:s.heap.get? h1.objs.size with
  |none=>rfl
  |some o=>rw[a _ _ e]at f;cases f
 ·exact⟨_,hS1 _ O,O,O⟩
 ·exact⟨r,es,ep,hP1 _ n,u,B,z,(λx hx=>by cases hx),v⟩
end
noncomputable def Jd(F:List (TK×D)):Ob:=match F with
 |[]=>.dct []
 |_=>.dcT F
noncomputable def vk:D->Option (TK×D)
 | .tup [k,v]=>(keyT k).map λk=>(k,v)
 |_=>Y
noncomputable def iT:List D->Option (List (TK×D))
 |[]=>Z []
 |x::xs=>(vk x).bind λp=>(iT xs).map (p :: ·)
noncomputable def lM(ps:List (TK×D)):List (TK×D):=ps.foldl (λF p=>e9 F p.1 p.2) []
noncomputable def no:G1:=λd S=>match d6 S d with
 |some (M,xs)=>(iT xs).bind λps=>if xs.length<=100000 then Z (.ref S.length,S++[Jd (lM ps)])else Y
 |_=>Y
section
variable{X:Cx}{ag:List (dE×Obj)}{σ:L2.St}{H:Hp}{s:dD}{mu:List dE}
theorem yU(I:Inv X ag σ H s){d:D}{v:V}{u:dB}{p:TK×D}(r:eJ X.K H mu d v)(q:d7 v u)(h:vk d=some p):
  ∃w:tF TK,(p.1=w.1/\p.1.dep<=8/\eJ X.K H mu (tkD p.1) (.ref w.2.1) /\ ∃v,d7 v w.2.2/\eJ X.K H mu p.2 v) /\ ∃g:dE,u = .ref g/\s.heap.IsTuple g #[Value.ref w.2.1,w.2.2]/\(fP X.prog X.w).is s.heap w.1 w.2.1:=by
 unfold vk at h;split at h
 ·rename_i k x;obtain⟨o,m,e⟩:=oM1.mp h;subst e;cases r with
  | @tup _ a vs h1 h2=>
   cases q;obtain⟨i,t,n,_⟩:=I.tuple h1;cases h2 with
   |cons y f=>cases f with
    |cons r2 c=>
     cases c;cases t with
     |cons j f=>cases f with
      |cons z c=>
       cases c;obtain⟨b,rfl,rfl,rk,l,hi⟩:=iZ I y j m;exact⟨(o,b,_),⟨O,l,rk,_,z,r2⟩,_,O,n,hi⟩
 ·cases h
theorem oC(I:Inv X ag σ H s):∀ {ds:List D} {vs:List V} {b:List dB} {ps:List (TK×D)},d0 X.K H mu ds vs->ei vs b->iT ds=some ps ->
  ∃ws:List (tF TK),KT X.K H mu ps ws/\ws.length=b.length /\ ∀(i:Nat) (q:tF TK),ws[i]?=Z q -> ∃a:dE,b[i]?=Z (Value.ref a)/\s.heap.IsTuple a #[Value.ref q.2.1,q.2.2]/\(fP X.prog X.w).is s.heap q.1 q.2.1
 |[],_,_,ps,.nil,.nil,h=>by cases h;exact⟨[],.nil,O,λi q h=>by simp at h⟩
 |d::ds,_,_,ps,.cons r t,.cons q e,h=>by
  rw[iT]at h;obtain⟨p,j,h⟩:=oB1.mp h;obtain⟨m,c,h⟩:=oM1.mp h;subst h;obtain⟨w,f,a,l,k,g⟩:=yU I r q j;obtain⟨ws,h1,h2,n⟩:=oC I t e c;refine⟨w::ws,.cons f h1,by rw[lC1,lC1,h2],λi q h=>?_⟩;cases i with
  |zero=>simp at h;subst h;exact⟨a,by rw[l];rfl,k,g⟩
  |succ i=>exact n i q (by simpa using h)
theorem KT.fold{K:Fg1}:∀{ps:List (TK×D)} {ws:List (tF TK)} {as:List (TK×D)} {bs:List (tF TK)},KT K H mu ps ws->KT K H mu as bs->KT K H mu (ps.foldl (λF p=>e9 F p.1 p.2) as) (ws.foldl (λa q=>storedH a q.1 q.2.1 q.2.2) bs):=by
 intro ps ws as bs h
 induction h generalizing as bs with
 |nil=>exact λg=>g
 | @cons p q ps ws r t ih=>
  intro g;obtain⟨e,c,rk,v,b,r2⟩:=r;rw[cb,cb,<- e];exact ih (g.put c rk b r2)
theorem w8(ps:List (TK×D)):(lM ps).length<=ps.length:=by
 have:∀(ps a:List (TK×D)),(ps.foldl (λF p=>e9 F p.1 p.2) a).length<=a.length+ps.length:=by
  intro ps
  induction ps with
  |nil=>intro a;exact nR1 _
  |cons p ps ih=>
   intro a;rw[cb,lC1];have h1:=ih (e9 a p.1 p.2);have h2:=lJ a p.1 p.2;lia
 have:=this ps [];simpa[lM]using this
theorem mR:∀{ds:List D} {ps:List (TK×D)},iT ds=Z ps->ps.length=ds.length
 |[],ps,h=>by cases h;rfl
 |d::ds,ps,h=>by
  rw[iT]at h;obtain⟨p,c,h⟩:=oB1.mp h;obtain⟨b,a,h⟩:=oM1.mp h;subst h;rw[lC1,lC1,mR a]
theorem Cp{k:Nat}(hr:fN k X.A):fj X (.type "dict") (rN X.K (b1 no)):=by
 intro ag s σ H xs us Q I r h;obtain⟨x,mu,S,d,r',S',rfl,r1,E,f,hc⟩:=DB h;unfold no at f;split at f
 ·rename_i ds aq;obtain⟨ps,ep,f⟩:=oB1.mp f;split at f
  ·rename_i U;cases f;obtain⟨a,vs,rfl,q,t⟩:=ev r1 E aq;obtain⟨u,rfl,r2⟩:=iM r;cases r2;obtain⟨l,ao,wq,hz⟩:=I.list q;obtain⟨ws,au,A,hP⟩:=oC I t ao ep;have y:l.length=ds.length:=by rw[<- ao.length,<- t.length]
   obtain⟨W,n,N,w,C,c⟩:=wq;obtain⟨oc,od,oa,os⟩:=W;dsimp only at w C c
   subst w C c
   have hu:=hr.un;refine uI (knd:=fP X.prog X.w) hr.hd N λA' h1 tk it G T keep ni ne st hD R hR=>?_;have K:ws.length<=100000:=by rw[A,y];exact U
   have big:ws.length<=dL:=aC K (by decide);refine xg (knd:=fP X.prog X.w) (h0:=s.heap) (its:=l.toArray) (ps:=ws) G (by show A'.units+1+8<cLine;lia) (by rw[sT1];exact A.symm) big ⟨_,N,O,n,O⟩ (Heap.get?_none_of_le (nR1 _)) ni ne
    (λh k a e z=>⟨z.1.grows e,z.2⟩) (λi q e=>?_) _ 0 _ O (bi _) keep st (by simpa[gx]using hD) λh' D b g=>hR _ ?_
   ·obtain⟨pa,e1,e2,P⟩:=hP i q e;exact⟨pa,by rw[cm];exact e1,e2,P⟩
   ·have v:H s.heap.objs.size=none:=I.fresh;have j:KT X.K H mu (lM ps) (gx ws):=KT.fold au .nil;have B:(s.heap.objs.size == sysModules)=false:=beq_eq_false_iff_ne.mpr (Ne.symm (nN1 I.big));have m:(gx ws).length<=dL:=by
     rw[<- j.length];have h1:=w8 ps;have h2:=mR ep;exact aC (by lia:(lM ps).length<=100000) (by decide)
    cases ef:lM ps with
    |nil=>
     rw[ef]at j hc;generalize gx ws=fw at j g m;cases j;obtain⟨o,es,am,g1,V,g3,g4,g5,g6⟩:=g;have L:es = #[]:=Array.toList_inj.mp (by simpa using g4);subst L;refine⟨.ref s.heap.objs.size,upd H s.heap.objs.size (.dK []),I.laid (t':=D) (o:=.dK []) b (nR1 _) ⟨bi _,B,[],.nil,o,#[],am,g1,V,g3,?_,?_,bq⟩,O,hc _ _ (mu++[s.heap.objs.size]) (Ext.new_ v) (.ref (fZ E.len _)) (E.new v ⟨[],d4,.nil⟩)⟩
     ·intro e L;simp at L
     ·exact .nil
    |cons p F=>
     rw[ef]at j hc;refine⟨.ref s.heap.objs.size,upd H s.heap.objs.size (.ext (gr s.heap.objs.size (gx ws))),I.laid (t':=D) b (nR1 _) (qw B g),O,hc _ _ (mu++[s.heap.objs.size]) (Ext.new_ v) (.ref (fZ E.len _)) (E.new v ⟨_,d4,j.ext (Ext.new_ v),m⟩)⟩
  ·cases f
 ·cases f
end
mutual
noncomputable def D.mv(h n:Nat):D->D
 | .tup xs=>.tup (D.mvs h n xs)
 | .rol xs=>.rol (D.mvs h n xs)
 | .ref 0=>.ref h
 | .ref (k+1)=>.ref (n+k)
 | .fn x=>.fn x
 | .non=>.non
 | .bl b=>.bl b
 | .int i=>.int i
 | .str x=>.str x
noncomputable def D.mvs(h n:Nat):List D->List D
 |[]=>[]
 |d::ds=>D.mv h n d::D.mvs h n ds
end
noncomputable def Ob.mv(h n:Nat):Ob->Ob
 | .lst xs=>.lst (D.mvs h n xs)
 | .dct kvs=>.dct (kvs.map λp=>(p.1,p.2.mv h n))
 | .dcT kvs=>.dcT (kvs.map λp=>(p.1,p.2.mv h n))
 | .iset xs=>.iset xs
 | .dcF kvs=>.dcF (kvs.map λp=>(p.1,p.2.mv h n))
 | .tst ks=>.tst ks
section
variable{K:Fg1}{H:Hp}{mu nu:List dE}{a:dE}{h:Nat}
theorem eJ.mv(ha:mu[h]? = some a):∀ {d:D} {v:V},eJ K H (a::nu) d v->eJ K H (mu++nu) (d.mv h mu.length) v:=fun c=>c.rec (motive_1:=fun d v _=>eJ K H (mu++nu) (d.mv h mu.length) v) (motive_2:=fun ds vs _=>d0 K H (mu++nu) (D.mvs h mu.length ds) vs)
  .non .bl .int .str (λh _ ih=>.tup h ih) (λh _ ih=>.rol h ih) (λ{n b} e=>by
   cases n with
   |zero=>
    have:a=b:=by simpa using e
    subst this;exact .ref (by rw[gL1 (gE1.mp ha).1];exact ha)
   |succ k=>exact .ref (by rw[gR1 (bt _ _),bu];simpa using e)) (λh=>.fn h) .nil (λ_ _ a b=>.cons a b)
theorem d0.mv(ha:mu[h]?=Z a):∀{ds:List D} {vs:List V},d0 K H (a::nu) ds vs->d0 K H (mu++nu) (D.mvs h mu.length ds) vs:=λb=>b.ind (P:=λds vs _=>d0 K H (mu++nu) (D.mvs h mu.length ds) vs) .nil λr _ ih=>.cons (eJ.mv ha r) ih
theorem KR.mv{κ:Type}(ha:mu[h]?=Z a):∀{ks:List (κ×D)} {ws:List (κ×V)},KR K H (a::nu) ks ws->KR K H (mu++nu) (ks.map λp=>(p.1,p.2.mv h mu.length)) ws:=by
 intro ks ws b
 induction b with
 |nil=>exact .nil
 |cons r t ih=>exact .cons ⟨r.1,r.2.mv ha⟩ ih
mutual
theorem CG(h n:Nat):∀k:TK,(tkD k).mv h n=tkD k
 | .non=>rfl
 | .int _=>rfl
 | .tup xs=>by rw[tkD,D.mv,yb h n xs]
theorem yb(h n:Nat):∀ks:List TK,D.mvs h n (hG ks)=hG ks
 |[]=>rfl
 |x::xs=>by rw[hG,D.mvs,CG h n x,yb h n xs]
end
theorem KT.mv(ha:mu[h]?=Z a):∀{ks:List (TK×D)} {ws:List (TK×dE×dB)},KT K H (a::nu) ks ws->KT K H (mu++nu) (ks.map λp=>(p.1,p.2.mv h mu.length)) ws:=by
 intro ks ws c
 induction c with
 |nil=>exact .nil
 |cons r t ih=>
  obtain⟨z,d,k,v,b,r⟩:=r;exact .cons ⟨z,d,by have:=k.mv ha;rw[CG]at this;exact this,v,b,r.mv ha⟩ ih
theorem jJ.mv{b:dE}(ha:mu[h]?=Z a):∀{o:Ob},jJ K H (a::nu) b o->jJ K H (mu++nu) b (o.mv h mu.length)
 | .lst _,⟨vs,e,r⟩=>⟨vs,e,r.mv ha⟩
 | .dct _,⟨ws,e,r⟩=>⟨ws,e,KR.mv ha r⟩
 | .dcT _,⟨ws,e,r,l⟩=>⟨ws,e,KT.mv ha r,l⟩
 | .iset _,q=>q
 | .dcF _,⟨ws,e,r,l⟩=>⟨ws,e,KT.mv ha r,l⟩
 | .tst ks,⟨ws,e,r⟩=>⟨ws,e,by have:=KT.mv ha r;rw[bv]at this;exact this⟩
end
noncomputable def apart(f:FN):FN:=λds S=>match ds with
 | .ref h::es=>if D.unds 0 es=true then (S[h]?).bind fun o=>if o.und 0=true then (lR f (.ref 0::es) [o]).bind fun p=>match p.2 with
   |o'::G=>if o'.und 0=M then(if p.1.und 0=M then Z (p.1,S.set h o')else Z (p.1.mv h S.length,S.set h o'++G.map (Ob.mv h S.length)))else Y
   |[]=>Y
  else Y
  else Y
 |_=>Y
theorem At{K:Fg1}{f:FN}{vs:List V}{H:Hp}{Q:VK}(q:rN K (apart f) vs H Q):rN K f vs H Q:=by
 obtain⟨mu,S,ds,d,S',hr,j,g,hc⟩:=q;unfold apart at g;split at g
 ·rename_i h es;split at g
  ·rename_i E;obtain⟨o,am,g⟩:=oB1.mp g;split at g
   ·rename_i ho;obtain⟨⟨W,F⟩,aq,g⟩:=oB1.mp g;cases hr with
    | @cons _ v _ vt r0 T=>
    cases r0 with
    | @ref _ a p=>
    have i:∀{m1 m2:List dE} (k:Nat),k<0->m1[k]?=m2[k]?:=λk R=>absurd R (bA _);refine sZ ⟨[a],[o],.ref 0::es,W,F,.cons (.ref O) (T.cut (n:=0) i E),⟨O,by simp,λn o2 b h1 h2=>?_⟩,aq,λv H' mu' x r s=>?_⟩
    ·cases n with
     |zero=>
      have X:o=o2:=by simpa using h1
      have L:a=b:=by simpa using h2
      subst X L;exact(j.ob h o a am p).cut (n:=0) i ho
     |succ n=>simp at h1
    ·obtain⟨nu,B⟩:=x.pre;have w:mu'=a::nu:=B.symm;subst w;dsimp only at g;cases F with
     |nil=>cases g
     |cons o' G=>
      dsimp only at g;split at g
      ·rename_i C;have y:Ext mu mu H H':=⟨bn,fun b z e N=>x.old b z e (fun l=>N (by rw [cY.mp l];exact gM1 p)),x.tup,x.frz,fun _ z=>.inl z⟩;have m:∀ (n:Nat) (z:Ob) (b:dE),(S.set h o')[n]? = some z->mu[n]? = some b->jJ K H' mu b z:=fun n z b h1 h2=>by
        by_cases e:h=n
        ·subst e;rw[aI (gE1.mp am).1]at h1;cases h1;rw[p]at h2;cases h2;exact(s.ob 0 o' a O O).cut (n:=0) i C
        ·rw[gS1 e]at h1;refine(j.ob n z b h1 h2).keep y λu au=>x.old b u au λl=>?_;have l:=cY.mp l;subst l;exact e ((List.getElem?_inj (gE1.mp p).1 j.nd).mp (p.trans h2.symm))
       split at g
       ·rename_i U;cases g;exact hc v H' mu y (r.cut (n:=0) i U) ⟨by rw[aW];exact j.len,j.nd,m⟩
       ·cases g;have snd:=s.nd;rw [aN] at snd;have I:∀ b∈nu,H b=none:=fun b l=>by
         rcases x.new b (mC1 _ l)with z|z
         ·rw[cY.mp z]at l;exact absurd l snd.1
         ·exact z
        have wq:Ext mu (mu++nu) H H':=⟨bw _ _,y.old,y.tup,y.frz,λb z=>by
         rcases aG.mp z with z|z
         ·exact .inl z
         ·exact .inr (I b z)⟩
        refine hc v H' (mu++nu) wq (by rw[<- j.len];exact r.mv p) ⟨?_,?_,λn z b h1 h2=>?_⟩
        ·have:=s.len;simp only[lC1]at this;rw[lA1,lA1,lM1,aW,j.len];lia
        ·refine bB.mpr ⟨j.nd,snd.2,λb l c A z=>?_⟩;subst z;obtain⟨o2,e⟩:=j.here l;rw[I b A]at e;cases e
        ·by_cases D:n<S.length
         ·rw[gL1 (by rw[aW];exact D)]at h1;rw[gL1 (by rw[j.len];exact D)]at h2;exact(m n z b h1 h2).mor nu
         ·have t:=a0 D;rw[gR1 (by rw[aW];exact t),aW]at h1;rw[gR1 (by rw[j.len];exact t),j.len]at h2;rw[gP1]at h1;obtain⟨ao,g1,P⟩:=oM1.mp h1;subst P;have q:=s.ob (n-S.length+1) ao b (by rw[gC1];exact g1) (by rw[gC1];exact h2);rw[<- j.len];exact q.mv p
      ·cases g
   ·cases g
  ·cases g
 ·cases g
theorem fO.ap{P:dF}{w:dH}{K:Fg1}{mg:Str->Option dB}{base:dN}{k:Nat}{x:Str}{n:Nat}{m:FN}(h:fO P w K mg base k x n m):fO P w K mg base k x n (apart m):=by
 obtain⟨f,fd,ps,F,b,a,c⟩:=h;exact⟨f,fd,ps,F.imp λvs H Q E q=>⟨q.1,At q.2⟩,b,a,c⟩
def W{α:Type}(o:Option α)(Q:α->Prop):Prop:=∃x,o=Z x/\Q x
section
variable{α β:Type}{Q:α->Prop}
theorem eB{x:α}:W (Z x) Q↔Q x:=⟨λ⟨_,e,h⟩=>(by cases e;exact h),λh=>⟨x,O,h⟩⟩
theorem jI:W (Y:Option α) Q↔False:=⟨λ⟨_,e,_⟩=>(by cases e),False.elim⟩
theorem d5{o:Option β}{f:β->Option α}:W (o.bind f) Q↔W o λx=>W (f x) Q:=by
 cases o with
 |none=>exact⟨λ⟨_,e,_⟩=>(by cases e),λ⟨_,e,_⟩=>(by cases e)⟩
 |some x=>exact⟨λh=>⟨x,O,h⟩,λ⟨_,e,h⟩=>by cases e;exact h⟩
theorem kS{o:Option β}{f:β->α}:W (o.map f) Q↔W o λx=>Q (f x):=by
 cases o with
 |none=>exact⟨λ⟨_,e,_⟩=>(by cases e),λ⟨_,e,_⟩=>(by cases e)⟩
 |some x=>exact⟨λ⟨_,e,h⟩=>(by cases e;exact⟨x,O,h⟩),λ⟨_,e,h⟩=>(by cases e;exact⟨_,O,h⟩)⟩
theorem tm{c:Prop}[Decidable c]{a b:Option α}:W (if c then a else b) Q↔if c then W a Q else W b Q:=by split<;>exact Iff.rfl
theorem W.mono{o:Option α}{Q':α->Prop}(h:W o Q)(k:∀x,Q x->Q' x):W o Q':=let ⟨x,e,q⟩:=h;⟨x,e,k x q⟩
theorem W.of{o:Option α}{x:α}(e:o=Z x)(h:Q x):W o Q:=⟨x,e,h⟩
end
theorem eF{a b:FS}{r:Ev}{S:Sto}{Q:Fl×Ev×Sto->Prop}(R:Ev->Sto->Prop)(h1:W (a r S) λp=>p.1 = .nx/\R p.2.1 p.2.2)(h2:∀r S,R r S->W (b r S) Q):W (d9 a b r S) Q:=by
 obtain⟨⟨f,g,h⟩,e,c,d⟩:=h1;dsimp only at c d;subst c;unfold d9;rw[e];exact h2 g h d
theorem nr{n:Nat}{b:FS}{ds:List D}{S:Sto}{Q:D×Sto->Prop}(h:W (b (hH n ds) S) fun p=>match p.1 with
  | .rt d=>Q (d,p.2.2)
  | .nx=>Q (.non,p.2.2)
  |_=>False):W (iF n b ds S) Q:=by
 obtain⟨⟨f,a,c⟩,e,q⟩:=h;unfold iF;rw[e];cases f with
 |rt d=>exact⟨_,O,q⟩
 |nx=>exact⟨_,O,q⟩
 |bk=>exact q.elim
 |ct=>exact q.elim
theorem lP{n:Nat}{f:FN}{ds:List D}{S:Sto}{Q:D×Sto->Prop}(hn:ds.length=n)(a:D.unds 0 ds=J)(h:W (f ds S) λp=>Q (gc S.length p)):W (dX n f ds S) Q:=by
 obtain⟨⟨d,b⟩,e,q⟩:=h;exact⟨_,pf e hn a,q⟩
theorem lQ{n:Nat}{f:FN}{ds:List D}{S:Sto}{Q:D×Sto->Prop}(hn:ds.length=n)(b:D.unds 0 ds=M)(h:W (f ds []) λp=>p.1.und 0=M/\Q (p.1,S)):W (dX n f ds S) Q:=by
 obtain⟨⟨d,g⟩,e,a,c⟩:=h;exact⟨_,xp e hn b a,c⟩
mutual
theorem fr{n:Nat}:∀{d:D},d.und 0=M->d.und n=M
 | .non,_=>rfl
 | .bl _,_=>rfl
 | .int _,_=>rfl
 | .str _,_=>rfl
 | .tup xs,h=>by rw[D.und]at h ⊢;exact hU h
 | .rol xs,h=>by rw[D.und]at h ⊢;exact hU h
 | .fn _,_=>rfl
 | .ref k,h=>by simp[D.und]at h
theorem hU{n:Nat}:∀{ds:List D},D.unds 0 ds=M->D.unds n ds=M
 |[],_=>rfl
 |d::ds,h=>by
  rw[D.unds,bA1]at h ⊢;exact⟨fr h.1,hU h.2⟩
end
theorem v4{n:Nat}{f:FN}{ds:List D}{o:Ob}{T:Sto}{Q:D×Sto->Prop}(hn:ds.length=n)(b:D.unds 0 ds=J)(g:T.all (Ob.und (T.length+1))=M)(h:W (f ds (o::T)) λp=>∃d o' G,p=(d,o'::(T++G))/\d.und 0=M/\o'.und (T.length+1)=M/\Q (d,o'::T)):W (dX n f ds (o::T)) Q:=by
 refine lP hn b (h.mono ?_);rintro p ⟨d,o',G,rfl,c,a,q⟩;have e:(o'::(T++G)).take (T.length+1)=o'::T:=by simp
 unfold gc;dsimp only[lC1];rw[ak (by rw[e,fr c,bR,a,g];rfl),e];exact q
theorem fV{c:List (Nat×List D)}{g:FG}{b:FS}{Q:Fl×Ev×Sto->Prop}(I:Nat->Ev->Sto->Prop):∀ (items:List D) (k:Nat) (r:Ev) (S:Sto),I k r S ->
  (∀i r S,I i r S->oD S c=M) ->
  (∀i d,items[i]?=Z d -> ∀r S,I (k+i) r S->W (g d r S) λp=>W (b p.1 p.2) λq=>q.1 = .nx/\I (k+i+1) q.2.1 q.2.2) ->
  (∀r S,I (k+items.length) r S->Q (.nx,r,S))->W (kn c g b items r S) Q
 |[],k,r,S,hi,hok,_,hq=>by rw[kn];dsimp only;rw[ak (hok _ _ _ hi),eB];exact hq r S (by simpa using hi)
 |d::ds,k,r,S,hi,hok,hs,hq=>by
  rw[kn];dsimp only;rw[ak (hok _ _ _ hi),d5];obtain⟨p,m,h1⟩:=hs 0 d O r S (by simpa using hi);refine⟨p,m,?_⟩;dsimp only;rw[d5];obtain⟨⟨f,o,l⟩,h,h2,e⟩:=h1;refine⟨_,h,?_⟩;dsimp only at h2 e ⊢;subst h2;refine fV I ds (k+1) o l (by simpa using e) hok (λi j n r S a=>?_) λr S a=>hq r S (by rw[lC1,show k+(ds.length+1)=k+1+ds.length by lia];exact a);have:=hs (i+1) j (by simpa using n) r S (by rw[show k+(i+1)=k+1+i by lia];exact a);rw[show k+(i+1)+1=k+1+i+1 by lia]at this;exact this
theorem jk{c:List (Nat×List D)}{g:FG}{t:FT}{e:FE}{Q:List D×Ev×Sto->Prop}(I:Nat->List D->Ev->Sto->Prop):∀ (items:List D) (k:Nat) (acc:List D) (r:Ev) (S:Sto),I k acc r S ->
  (∀i acc r S,I i acc r S->oD S c=M) ->
  (∀i d,items[i]?=Z d -> ∀acc r S,I (k+i) acc r S->W (g d r S) λp=>W (t p.1 p.2) λb=>if b.1=M then W (e p.1 b.2) λx=>I (k+i+1) (acc++[x.1]) p.1 x.2 else I (k+i+1) acc p.1 b.2) ->
  (∀xs r S,I (k+items.length) (acc++xs) r S->Q (xs,r,S))->W (fM c g t (eI e) items r S) Q
 |[],k,acc,r,S,hi,hok,_,hq=>by rw[fM];dsimp only;rw[ak (hok _ _ _ _ hi),eB];exact hq [] r S (by simpa using hi)
 |d::ds,k,acc,r,S,hi,hok,hs,hq=>by
  rw[fM];dsimp only;rw[ak (hok _ _ _ _ hi),d5];obtain⟨p,n,h1⟩:=hs 0 d O acc r S (by simpa using hi);refine⟨p,n,?_⟩;dsimp only;rw[d5];obtain⟨⟨b,m⟩,j,h2⟩:=h1;refine⟨_,j,?_⟩;have step:∀i f,ds[i]?=Z f -> ∀acc r S,I (k+1+i) acc r S->W (g f r S) λp=>W (t p.1 p.2) λb=>if b.1=M then W (e p.1 b.2) λx=>I (k+1+i+1) (acc++[x.1]) p.1 x.2 else I (k+1+i+1) acc p.1 b.2:=λi f q acc r S a=>by
   have:=hs (i+1) f (by simpa using q) acc r S (by rw[show k+(i+1)=k+1+i by lia];exact a);rw[show k+(i+1)+1=k+1+i+1 by lia]at this;exact this
  dsimp only at h2 ⊢;cases b with
  |true=>
   rw[ak O]at h2 ⊢;rw[d5,eI,kS];obtain⟨⟨x,o⟩,l,h⟩:=h2;refine⟨_,l,?_⟩;dsimp only at h ⊢;rw[kS];refine jk I ds (k+1) (acc++[x]) p.1 o (by simpa using h) hok step λxs r S a=>?_;refine hq _ r S ?_;rw[lC1,show k+(ds.length+1)=k+1+ds.length by lia];simpa using a
  |false=>
   rw[aj (by decide)]at h2 ⊢;refine jk I ds (k+1) acc p.1 m (by simpa using h2) hok step λxs r S a=>?_;refine hq _ r S ?_;rw[lC1,show k+(ds.length+1)=k+1+ds.length by lia];exact a
theorem Dh{S:Sto}{b:Bool}:tW S (.bl b)=Z b:=rfl
theorem Hs{S:Sto}:tW S .non=Z J:=rfl
theorem Ht{S:Sto}{i:Int}:tW S (.int i)=Z (i != 0):=rfl
theorem Cc{x y:Int}{S:Sto}:oT (.int x) (.int y) S=Z (.bl (x == y),S):=rfl
theorem HD{x y:Int}{S:Sto}:Ja (.int x) (.int y) S=Z (.bl (!(x == y)),S):=rfl
theorem B8{x y:Int}{S:Sto}:xG (.int x) (.int y) S=Z (.bl (decide (x<y)),S):=rfl
theorem Cb{x y:Str}{S:Sto}:oT (.str x) (.str y) S=Z (.bl (x == y),S):=rfl
theorem HC{x y:Str}{S:Sto}:Ja (.str x) (.str y) S=Z (.bl (!(x == y)),S):=rfl
theorem ite_and'{c p:Prop}[Decidable c]:(if c then p else False)↔c/\p:=by split<;>simp[*]
noncomputable def xI(j:Int):Bool:=decide (-(2^62)<=j)&&decide (j<2^62)
theorem fW{n:Nat}(h:n<2^60):xI n=M:=by
 unfold xI;rw[bA1,al,al];lia
theorem E9{j:Int}(h: -(2^60)<=j)(h':j<2^60):xI j=M:=by
 unfold xI;rw[bA1,al,al];lia
def F2(p:List D×Sto)(Q:AB×Sto->Prop):Prop:=match p.1 with
 |[.int j]=>xI j=M/\Q (⟨gB 0 j.toNat,[]⟩,p.2)
 |_=>False
def Hv(p:List D×Sto)(Q:AB×Sto->Prop):Prop:=match p.1 with
 |[.int i,.int j]=>xI i=M/\xI j=M/\Q (⟨gB i (j-i).toNat,[]⟩,p.2)
 |_=>False
theorem C0{m:FA}{r:Ev}{S:Sto}{Q:AB×Sto->Prop}:W (uw m r S) Q↔W (m r S) λp=>F2 p Q:=by
 unfold uw;rw[d5];constructor
 ·refine λh=>h.mono λp q=>?_;unfold F2;split at q
  ·rename_i j e
   try rw[e]
   rw[tm]at q;split at q
   ·rename_i hc;exact⟨by unfold xI;rw[bA1,al,al];exact hc,eB.mp q⟩
   ·exact(jI.mp q).elim
  ·exact(jI.mp q).elim
 ·refine λh=>h.mono λp q=>?_;unfold F2 at q;split at q
  ·rename_i j e;obtain⟨a,b⟩:=q;unfold xI at a;rw[bA1,al,al]at a
   try rw[e]
   try dsimp only
   rw[ak a];exact eB.mpr b
  ·exact q.elim
theorem Hg{m:FA}{r:Ev}{S:Sto}{Q:AB×Sto->Prop}:W (GJ m r S) Q↔W (m r S) λp=>Hv p Q:=by
 unfold GJ;rw[d5];constructor
 ·refine λh=>h.mono λp q=>?_;unfold Hv;split at q
  ·rename_i i j e
   try rw[e]
   rw[tm]at q;split at q
   ·rename_i hc;refine⟨?_,?_,eB.mp q⟩
    ·unfold xI;rw[bA1,al,al];exact⟨hc.1,hc.2.1⟩
    ·unfold xI;rw[bA1,al,al];exact hc.2.2
   ·exact(jI.mp q).elim
  ·exact(jI.mp q).elim
 ·refine λh=>h.mono λp q=>?_;unfold Hv at q;split at q
  ·rename_i i j e;obtain⟨a,b,c⟩:=q;unfold xI at a b;rw[bA1,al,al]at a b
   try rw[e]
   try dsimp only
   rw[ak ⟨a.1,a.2,b⟩];exact eB.mpr c
  ·exact q.elim
noncomputable def fits(n:Nat):Bool:=decide (n<=dL)
theorem ea{n:Nat}(h:n<=100000):fits n=M:=by unfold fits;rw[al];exact aC h (by decide)
theorem sF{n:Nat}:fits n=M↔n<=dL:=by unfold fits;rw[al]
theorem JW:fits 0=M:=ea (by decide)
theorem JV:fits 1=M:=ea (by decide)
theorem Jc:fits 2=M:=ea (by decide)
theorem JU:fits 3=M:=ea (by decide)
theorem JT:fits 4=M:=ea (by decide)
theorem JS:fits 5=M:=ea (by decide)
theorem J7:fits 6=M:=ea (by decide)
theorem JR:fits 7=M:=ea (by decide)
theorem J4:fits 8=M:=ea (by decide)
theorem hM{α:Type}{n:Nat}{o:Option α}{Q:α->Prop}:W (if n<=dL then o else Y) Q↔fits n=M/\W o Q:=by
 rw[sF,tm];split
 ·rename_i h;exact⟨λq=>⟨h,q⟩,λq=>q.2⟩
 ·rename_i h;exact⟨λq=>(jI.mp q).elim,λq=>absurd q.1 h⟩
theorem Av{a:FA}{r:Ev}{S:Sto}{Q:D×Sto->Prop}:W (eQ a r S) Q↔W (a r S) λp=>fits p.1.length=M/\Q (.tup p.1,p.2):=by
 unfold eQ;rw[d5];exact⟨λh=>h.mono λp q=>(hM.mp q).imp_right eB.mp,λh=>h.mono λp q=>hM.mpr (q.imp_right eB.mpr)⟩
theorem Fg{a:FA}{r:Ev}{S:Sto}{Q:D×Sto->Prop}:W (jE a r S) Q↔W (a r S) λp=>fits p.1.length=M/\Q (.ref p.2.length,p.2++[.lst p.1]):=by
 unfold jE;rw[d5];exact⟨λh=>h.mono λp q=>(hM.mp q).imp_right eB.mp,λh=>h.mono λp q=>hM.mpr (q.imp_right eB.mpr)⟩
theorem kT{k:Nat}{keep:List Nat}{m:FI}{g:FG}{t:FT}{b:FV}{r:Ev}{S:Sto}{Q:D×Sto->Prop}:W (e6 k keep m g t b r S) Q↔W (m r S) λp=>W (fM p.1.chk g t b p.1.items (nT k keep r) p.2) λq=>fits q.1.length=M/\Q (.ref q.2.2.length,q.2.2++[.lst q.1]):=by
 unfold e6;rw[d5];refine⟨λh=>h.mono λp q=>?_,λh=>h.mono λp q=>?_⟩
 ·rw[d5]at q;exact q.mono λz w=>(hM.mp w).imp_right eB.mp
 ·rw[d5];exact q.mono λz w=>hM.mpr (w.imp_right eB.mpr)
theorem II{xs ys:List D}{S:Sto}{Q:D×Sto->Prop}:W (fS (.tup xs) (.tup ys) S) Q↔fits (xs.length+ys.length)=M/\Q (.tup (xs++ys),S):=
 ⟨λq=>(hM.mp q).imp_right eB.mp,λq=>hM.mpr (q.imp_right eB.mpr)⟩
theorem Fj{x y:Int}{S:Sto}{Q:D×Sto->Prop}:W (fS (.int x) (.int y) S) Q↔Q (.int (x+y),S):=eB
theorem Ay{a b:Nat}{xs ys:List D}{S:Sto}{Q:D×Sto->Prop}(h1:S[a]?=Z (.lst xs))(h2:S[b]?=Z (.lst ys)):W (fS (.ref a) (.ref b) S) Q↔fits (xs.length+ys.length)=M/\Q (.ref S.length,S++[.lst (xs++ys)]):=by
 rw[fS];simp only[h1,h2];exact⟨λq=>(hM.mp q).imp_right eB.mp,λq=>hM.mpr (q.imp_right eB.mpr)⟩
theorem lU{n:Nat}{v:D}{xs:List D}{S:Sto}{Q:D×Sto->Prop}(h:S[n]?=Z (.lst xs)):W (js (.ref n) v S) Q↔fits (xs.length+1)=M/\Q (.non,S.set n (.lst (xs++[v]))):=by
 rw[js];simp only[h];rw[tm,sF];split
 ·rename_i a;exact⟨λq=>⟨a,eB.mp q⟩,λq=>eB.mpr q.2⟩
 ·rename_i a;exact⟨λq=>(jI.mp q).elim,λq=>absurd q.1 a⟩
theorem tj{n:Nat}{i:Nat}{xs:List D}{x:D}{S:Sto}{Q:D×Sto->Prop}(h:S[n]?=Z (.lst xs))(hx:xs[i]?=Z x)(q:Q (x,S)):W (dW (.ref n) (.int i) S) Q:=by
 refine W.of (x:=(x,S)) ?_ q;have a:=(gE1.mp hx).1;simp only[dW,lh,zS,h,d6,tE,vE,oS1,ak (show(0:Int)<=i by lia)];rw[ak (by lia)];simp[hx]
theorem gy{i:Nat}{xs:List D}{x:D}{S:Sto}{Q:D×Sto->Prop}(hx:xs[i]?=Z x)(q:Q (x,S)):W (dW (.tup xs) (.int i) S) Q:=by
 refine W.of (x:=(x,S)) ?_ q;have a:=(gE1.mp hx).1;simp only[dW,lh,zS,d6,tE,vE,oS1,ak (show(0:Int)<=i by lia)];rw[ak (by lia)];simp[hx]
theorem JK:aO 0 (Y:Option D)=[]:=rfl
theorem JJ:aO 1 (Y:Option D)=[Y]:=rfl
theorem Jz:aO 2 (Y:Option D)=[Y,Y]:=rfl
theorem Jx:aO 3 (Y:Option D)=[Y,Y,Y]:=rfl
theorem J3:aO 4 (Y:Option D)=[Y,Y,Y,Y]:=rfl
theorem Jw:aO 5 (Y:Option D)=[Y,Y,Y,Y,Y]:=rfl
theorem JZ:aO 6 (Y:Option D)=[Y,Y,Y,Y,Y,Y]:=rfl
theorem Jv:aO 7 (Y:Option D)=[Y,Y,Y,Y,Y,Y,Y]:=rfl
theorem Ju:aO 8 (Y:Option D)=[Y,Y,Y,Y,Y,Y,Y,Y]:=rfl
theorem Jt:aO 9 (Y:Option D)=[Y,Y,Y,Y,Y,Y,Y,Y,Y]:=rfl
theorem Ic:aO 10 (Y:Option D)=[Y,Y,Y,Y,Y,Y,Y,Y,Y,Y]:=rfl
theorem JI:aO 11 (Y:Option D)=[Y,Y,Y,Y,Y,Y,Y,Y,Y,Y,Y]:=rfl
theorem JH:aO 12 (Y:Option D)=[Y,Y,Y,Y,Y,Y,Y,Y,Y,Y,Y,Y]:=rfl
theorem JG:aO 13 (Y:Option D)=[Y,Y,Y,Y,Y,Y,Y,Y,Y,Y,Y,Y,Y]:=rfl
theorem JF:aO 14 (Y:Option D)=[Y,Y,Y,Y,Y,Y,Y,Y,Y,Y,Y,Y,Y,Y]:=rfl
theorem JE:aO 15 (Y:Option D)=[Y,Y,Y,Y,Y,Y,Y,Y,Y,Y,Y,Y,Y,Y,Y]:=rfl
theorem JD:aO 16 (Y:Option D)=[Y,Y,Y,Y,Y,Y,Y,Y,Y,Y,Y,Y,Y,Y,Y,Y]:=rfl
theorem JC:aO 17 (Y:Option D)=[Y,Y,Y,Y,Y,Y,Y,Y,Y,Y,Y,Y,Y,Y,Y,Y,Y]:=rfl
theorem JB:aO 18 (Y:Option D)=[Y,Y,Y,Y,Y,Y,Y,Y,Y,Y,Y,Y,Y,Y,Y,Y,Y,Y]:=rfl
theorem JA:aO 19 (Y:Option D)=[Y,Y,Y,Y,Y,Y,Y,Y,Y,Y,Y,Y,Y,Y,Y,Y,Y,Y,Y]:=rfl
theorem Jy:aO 20 (Y:Option D)=[Y,Y,Y,Y,Y,Y,Y,Y,Y,Y,Y,Y,Y,Y,Y,Y,Y,Y,Y,Y]:=rfl
theorem g9{α:Type}{T G:List α}{k:Nat}:(T++G)[T.length+k]?=G[k]?:=by rw[gR1 (by lia)];congr 1;lia
theorem ee{α:Type}{T G:List α}:(T++G)[T.length]?=G[0]?:=by rw[gR1 (by lia)];congr 1;lia
mutual
noncomputable def t5:D->Bool
 | .non=>M
 | .bl _=>M
 | .int i=>decide (i.natAbs<10^6)
 | .str x=>(PyData.str x).leavesShort 13&&decide ((PyData.str x).weight<=20)
 | .tup xs=>nN xs
 | .rol _=>J
 | .fn _=>J
 | .ref _=>J
noncomputable def nN:List D->Bool
 |[]=>M
 |d::ds=>t5 d&&nN ds
end
mutual
noncomputable def nY:D->Nat
 | .tup xs=>kK xs
 | .non=>0 | .bl _=>0 | .int _=>0 | .str _=>0 | .rol _=>0 | .fn _=>0 | .ref _=>0
noncomputable def kK:List D->Nat
 |[]=>0
 |d::ds=>nY d+1+kK ds
end
mutual
noncomputable def AG:D->Nat
 | .tup xs=>nX xs+1
 | .non=>0 | .bl _=>0 | .int _=>0 | .str _=>0 | .rol _=>0 | .fn _=>0 | .ref _=>0
noncomputable def nX:List D->Nat
 |[]=>0
 |d::ds=>max (AG d) (nX ds)
end
mutual
theorem FY:∀{d:D},t5 d=M -> ∃p,pyD d=Z p/\p.showable=M/\p.leavesShort 13=M/\p.weight+1<=21*(nY d+1)/\p.depth=AG d
 | .non,_=>⟨.none,by simp only[pyD],by simp only[PyData.showable],by simp only[PyData.leavesShort],by simp only[PyData.weight,nY];lia,by simp only[PyData.depth,AG]⟩
 | .bl b,_=>⟨.bool b,by simp only[pyD],by simp only[PyData.showable],by simp only[PyData.leavesShort],by simp only[PyData.weight,nY];lia,by simp only[PyData.depth,AG]⟩
 | .int i,h=>by
  have h':i.natAbs<10^6:=by simpa only[t5,al]using h
  have f:i.natAbs.log2<20:=by
   by_cases z:i.natAbs=0
   ·rw[z];decide
   ·exact(Nat.log2_lt z).mpr (by lia)
  refine⟨.int i,by simp only[pyD],by simp only[PyData.showable,al];lia,?_,?_,by simp only[PyData.depth,AG]⟩
  ·simp only[PyData.leavesShort,al];exact PyData.shown_int_le (by lia)
  ·simp only[PyData.weight,nY];split<;>lia
 | .str x,h=>by
  have h':(PyData.str x).leavesShort 13=M/\(PyData.str x).weight<=20:=by simpa only[t5,bA1,al]using h
  exact⟨.str x,by simp only[pyD],by simp only[PyData.showable],h'.1,by simp only[nY];have:=h'.2;lia,by simp only[PyData.depth,AG]⟩
 | .tup xs,h=>by
  obtain⟨ps,e,h1,h2,c,a⟩:=t0 (ds:=xs) (by simpa only[t5]using h);exact⟨.tuple ps,by simp only[pyD,e,oP1],by simpa only[PyData.showable]using h1,by simpa only[PyData.leavesShort]using h2,by simp only[PyData.weight,nY];lia,by simp only[PyData.depth,AG,a]⟩
 | .rol _,h=>by simp only[t5]at h;cases h
 | .fn _,h=>by simp only[t5]at h;cases h
 | .ref _,h=>by simp only[t5]at h;cases h
theorem t0:∀{ds:List D},nN ds=M -> ∃ps,pyDs ds=Z ps/\PyData.showableAll ps=M/\PyData.leavesShortAll 13 ps=M/\PyData.weightAll ps<=21*kK ds/\PyData.depthAll ps=nX ds
 |[],_=>⟨[],by simp only[pyDs],by simp only[PyData.showableAll],by simp only[PyData.leavesShortAll],by simp only[PyData.weightAll];lia,by simp only[PyData.depthAll,nX]⟩
 |d::ds,h=>by
  simp only[nN,bA1]at h;obtain⟨p,e,h1,h2,j,f⟩:=FY h.1;obtain⟨ps,i,a,c,g,b⟩:=t0 h.2;refine⟨p::ps,by simp only[pyDs,e,i,oS1,oP1],by simp only[PyData.showableAll,h1,a,df],by simp only[PyData.leavesShortAll,h2,c,df],?_,by simp only[PyData.depthAll,nX,f,b]⟩;simp only[PyData.weightAll,kK];lia
end
theorem A2{xs:List D}(h:nN xs=M)(hc:kK xs<=40000)(hd:nX xs<=50):∃t,∀S,nl (.tup xs) S=Z (.str t,S):=by
 obtain⟨ps,e,h1,h2,c,b⟩:=t0 h;refine⟨(PyData.tuple ps).shown,λS=>?_⟩;have a:(PyData.tuple ps).showable=M/\(PyData.tuple ps).shown.length<=dL/\(PyData.tuple ps).depth<=60:=
  ⟨by simpa only[PyData.showable]using h1,PyData.shown_fits (B:=13) (by decide) (by decide) (by simpa only[PyData.leavesShort]using h2) (by simp only[PyData.weight];lia),by simp only[PyData.depth];lia⟩
 simp only[nl,e,oS1,ak a]
theorem jS{α:Type}{f:α->D}:∀{l:List α},(∀x∈l,t5 (f x)=M)->nN (l.map f)=M
 |[],_=>by simp only[aZ,nN]
 |x::xs,h=>by simp only[mP1,nN,h x mS1,jS λy a=>h y (mC1 _ a),df]
theorem jm{α:Type}{f:α->D}{k:Nat}:∀{l:List α},(∀x∈l,nY (f x)<=k)->kK (l.map f)<=(k+1)*l.length
 |[],_=>by simp only[aZ,kK];lia
 |x::xs,h=>by
  have h1:=h x mS1;have h2:=jm (l:=xs) λy a=>h y (mC1 _ a);simp only[mP1,kK,lC1,Nat.mul_add];lia
theorem kH{α:Type}{f:α->D}{k:Nat}:∀{l:List α},(∀x∈l,AG (f x)<=k)->nX (l.map f)<=k
 |[],_=>by simp only[aZ,nX];lia
 |x::xs,h=>by
  have h1:=h x mS1;have h2:=kH (l:=xs) λy a=>h y (mC1 _ a);simp only[mP1,nX];lia
theorem qf:∀(n:Nat) (lo:Int),gB lo n=(af n).map λi:Nat=>D.int (lo+i)
 |0,lo=>rfl
 |n+1,lo=>by
  rw[gB,qf n (lo+1),List.range_succ_eq_map,mP1,bv]
  congr 1
  ·simp
  ·apply dg;intro i _;simp only[Function.comp_apply,Nat.succ_eq_add_one]
   congr 1
   push_cast
   lia
theorem ke(n:Nat):gB 0 n=(af n).map λi:Nat=>D.int i:=by
 rw[qf];apply dg;intro i _;simp
theorem r9{α:Type}{c:List (Nat×List D)}{g:FG}{t:FT}{e:FE}{S:Sto}{f:α->D}{Q:List D×Ev×Sto->Prop}(F:α->D)(P:Ev->Prop)(d:oD S c=true):∀ (xs:List α) (r:Ev),P r ->
  (∀a∈xs,∀r,P r->W (g (f a) r S) λp=>W (t p.1 p.2) λb=>b.1=M/\W (e p.1 b.2) λx=>x.1=F a/\x.2=S/\P p.1) ->
  (∀i,P i->Q (xs.map F,i,S))->W (fM c g t (eI e) (xs.map f) r S) Q
 |[],r,hr,_,h=>by rw[aZ,fM];dsimp only;rw[ak d,eB];exact h r hr
 |a::xs,r,hr,hs,h=>by
  rw[mP1,fM];dsimp only;rw[ak d,d5];obtain⟨p,o,⟨b,k,m,⟨x,l,s,q,u⟩⟩⟩:=hs a mS1 r hr;refine⟨p,o,?_⟩;dsimp only;rw[d5];refine⟨b,k,?_⟩;dsimp only;rw[ak m,d5,eI,kS];refine⟨x,l,?_⟩;dsimp only;rw[q,kS];refine r9 F P d xs p.1 u (λa n=>hs a (mC1 _ n)) λi j=>?_;have:=h i j;rw[mP1,<- s]at this;exact this
theorem hB{α:Type}{c:List (Nat×List D)}{g:FG}{t:FT}{e:FE}{S:Sto}{f:α->D}{Q:List D×Ev×Sto->Prop}(k:α->Bool)(F:α->D)(P:Ev->Prop)(d:oD S c=true):∀ (xs:List α) (r:Ev),P r ->
  (∀a∈xs,∀r,P r->W (g (f a) r S) λp=>W (t p.1 p.2) λb=>b.1=k a/\b.2=S/\P p.1/\(k a=M->W (e p.1 S) λx=>x.1=F a/\x.2=S)) ->
  (∀j,P j->Q ((xs.filter k).map F,j,S))->W (fM c g t (eI e) (xs.map f) r S) Q
 |[],r,hr,_,h=>by rw[aZ,fM];dsimp only;rw[ak d,eB];exact h r hr
 |a::xs,r,hr,hs,h=>by
  rw[mP1,fM];dsimp only;rw[ak d,d5];obtain⟨p,w,⟨b,u,o,q,s,n⟩⟩:=hs a mS1 r hr;refine⟨p,w,?_⟩;dsimp only;rw[d5];refine⟨b,u,?_⟩;dsimp only;cases hk:k a with
  |true=>
   rw[o,hk,ak O,d5,eI,kS,q];obtain⟨x,v,n,m⟩:=n hk;refine⟨x,v,?_⟩;dsimp only;rw[m,kS];refine hB k F P d xs p.1 s (λa l=>hs a (mC1 _ l)) λj i=>?_;have:=h j i;rw[di,hk,ak O,mP1,<- n]at this;exact this
  |false=>
   rw[o,hk,aj (by decide),q];refine hB k F P d xs p.1 s (λa l=>hs a (mC1 _ l)) λj i=>?_;have:=h j i;rw[di,hk,aj (by decide)]at this;exact this
mutual
theorem Da{n m:Nat}(h:n<=m):∀{d:D},d.und n=M->d.und m=M
 | .non,_=>rfl
 | .bl _,_=>rfl
 | .int _,_=>rfl
 | .str _,_=>rfl
 | .tup xs,q=>by rw[D.und]at q ⊢;exact iq h q
 | .rol xs,q=>by rw[D.und]at q ⊢;exact iq h q
 | .fn _,_=>rfl
 | .ref k,q=>by simp[D.und]at q ⊢;lia
theorem iq{n m:Nat}(h:n<=m):∀{ds:List D},D.unds n ds=M->D.unds m ds=M
 |[],_=>rfl
 |d::ds,q=>by
  rw[D.unds,bA1]at q ⊢;exact⟨Da h q.1,iq h q.2⟩
end
theorem gJ{n m:Nat}(h:n<=m):∀{o:Ob},o.und n=M->o.und m=M
 | .lst xs,q=>by rw[Ob.und]at q ⊢;exact iq h q
 | .dct xs,q=>by rw[Ob.und]at q ⊢;exact iq h q
 | .dcT xs,q=>by rw[Ob.und]at q ⊢;exact iq h q
 | .dcF xs,q=>by rw[Ob.und]at q ⊢;exact iq h q
 | .iset _,_=>rfl
 | .tst _,_=>rfl
theorem eK{α:Type}{n:Nat}{f:α->D}:∀{xs:List α},(∀x∈xs,(f x).und n=M)->D.unds n (xs.map f)=M
 |[],_=>rfl
 |x::xs,h=>by rw[mP1,D.unds,h x mS1,eK λy a=>h y (mC1 _ a)];rfl
theorem JY{x:Nat}:x+1+1=x+2:=rfl
theorem Kd{x:Nat}:x+2+1=x+3:=rfl
theorem Kc{x:Nat}:x+3+1=x+4:=rfl
theorem Kb{x:Nat}:x+4+1=x+5:=rfl
theorem Ka{x:Nat}:x+5+1=x+6:=rfl
theorem J9{x:Nat}:x+6+1=x+7:=rfl
theorem JX{x:Nat}:x+1+2=x+3:=rfl
theorem gC{xs:List D}{S:Sto}:eS (.tup xs) S=Z (.int xs.length,S):=rfl
theorem HB{xs:List D}{S:Sto}:eS (.rol xs) S=Z (.int xs.length,S):=rfl
theorem GC{S:Sto}:eS (.str "") S=Z (.int 0,S):=rfl
theorem u4{xs:List D}{S:Sto}:d6 S (.tup xs)=Z (J,xs):=rfl
theorem Hu{xs:List D}{S:Sto}:d6 S (.rol xs)=Z (M,xs):=rfl
theorem vZ{xs:List D}{S:Sto}:i7 S (.tup xs)=[]:=rfl
theorem HF{xs:List D}{S:Sto}:i7 S (.rol xs)=[]:=rfl
theorem gU{n:Nat}{xs:List D}{S:Sto}(h:S[n]?=Z (.lst xs)):d6 S (.ref n)=Z (M,xs):=by simp only[d6,h]
theorem v3{n:Nat}{xs:List D}{S:Sto}(h:S[n]?=Z (.lst xs)):i7 S (.ref n)=[(n,xs)]:=by simp only[i7,h]
def sW(S:Sto)(d:D)(Q:List D×List (Nat×List D)->Prop):Prop:=W (d6 S d) λq=>Q (q.2,i7 S d)
theorem iR{xs:List D}{S:Sto}{Q:List D×List (Nat×List D)->Prop}:sW S (.tup xs) Q↔Q (xs,[]):=eB
theorem eG{n:Nat}{xs:List D}{S:Sto}{Q:List D×List (Nat×List D)->Prop}(h:S[n]?=Z (.lst xs))(q:Q (xs,[(n,xs)])):sW S (.ref n) Q:=by
 unfold sW;rw[gU h,v3 h,eB];exact q
theorem Fi{m:FE}{r:Ev}{S:Sto}{Q:AB×Sto->Prop}:W (iJ m r S) Q↔W (m r S) λp=>sW p.2 p.1 λq=>Q (⟨q.1,q.2⟩,p.2):=by
 unfold iJ;rw[d5];refine⟨λh=>h.mono λp q=>?_,λh=>h.mono λp q=>?_⟩
 ·rw[d5]at q;exact q.mono λz w=>eB.mp w
 ·rw[d5];exact W.mono (show W (d6 p.2 p.1) _ from q) λz w=>eB.mpr w
theorem Aw{d:D}{S:Sto}{Q:D×Sto->Prop}:W (Mi.gTup d S) Q↔sW S d λq=>Q (.tup q.1,S):=by
 unfold Mi.gTup;rw[kS];exact Iff.rfl
theorem Hf{n:Nat}{S:Sto}{Q:D×Sto->Prop}:W (eS (.ref n) S) Q↔sW S (.ref n) λq=>Q (.int q.1.length,S):=by
 unfold eS sW;rw[kS]
noncomputable def pD(e:Nat×Nat):D:=.tup [.int e.1,.int e.2]
theorem EX{S:Sto}{n:Nat}{a b:Nat×Nat}:gp S (n+2) (pD a) (pD b)=Z (a == b):=by
 obtain⟨a1,a2⟩:=a;obtain⟨b1,b2⟩:=b;rw[gp];have d:∀x y:Nat,gp S (n+1) (.int x) (.int y)=Z ((x:Int) == (y:Int)):=λx y=>rfl;have c:∀x y:Nat,((x:Int) == (y:Int))=(x == y):=λx y=>by
  rw[bS,beq_iff_eq,beq_iff_eq];lia
 simp[pD,d6,nL,d,c];rfl
theorem vP{S:Sto}{n:Nat}{e:Nat×Nat}:∀b:List (Nat×Nat),xa (gp S (n+2)) (pD e) (b.map pD)=Z (b.map λa=>a == e)
 |[]=>rfl
 |a::b=>by rw[mP1,xa,EX,vP b];rfl
theorem Fh{S:Sto}{n j:Nat}{row:List (Nat×Nat)}{e:Nat×Nat}{Q:D×Sto->Prop}(h:S[n]?=Z (.lst (row.map pD)))(b:row.length<1000)(a:row.findIdx? (· == e)=Z j)(q:Q (.int j,S)):W (zT (.ref n) (pD e) S) Q:=by
 refine W.of ?_ q;unfold zT eN;simp only[h,show(60:Nat)=58+2 from rfl,vP,oS1,lM1];rw[ak (by lia),List.findIdx?_map];simp[Function.comp_def,a]
theorem CZ{S:Sto}{n k:Nat}{xs:List D}{v:D}{Q:D×Sto->Prop}(h:S[n]?=Z (.lst xs))(hk:k<=xs.length)(a:xs.length<1000)(q:Q (.non,S.set n (.lst (xs.take k++v::xs.drop k)))):W (w6 (.ref n) (.int k) v S) Q:=by
 refine W.of ?_ q;have hi:qo xs.length k=k:=by
  unfold qo;rw[aj (by lia),Int.toNat_natCast];lia
 have b:xs.length<dL:=nL1 a (by decide);simp only[w6,h,hi];rw[ak ⟨by lia,by lia,b⟩]
theorem iI{f:FN}{o:FE}{a:FA}{r:Ev}{S:Sto}{Q:D×Sto->Prop}(h:W (o r S) λp=>∃n xs,p.1 = .ref n/\p.2[n]?=Z (.lst xs)/\W (a r p.2) λq=>W (f (.ref n::q.1) q.2) Q):W (oI f o a r S) Q:=by
 unfold oI;rw[d5];refine h.mono ?_;rintro⟨d,b⟩ ⟨n,xs,rfl,e,q⟩;dsimp only at e q ⊢;rw[e];dsimp only;rw[d5];exact q
noncomputable def rD(row:List (Nat×Nat)):Ob:=.lst (row.map pD)
structure WS (t m:Nat)(T:Sto)(E:List (List (Nat×Nat)))(P:List (Nat×Nat))(U:Sto):Prop where
 tl:T.length=t
 low:U.take t=T
 el:E.length=m
 row:∀i row,E[i]?=some row->U[t+i]?=some (rD row)
 ends:U[t+m]?=some (.lst (jB (t+1) m))
 prs:U[t+m+1]?=some (.lst (P.map pD))
theorem WS.app{t m:Nat}{T:Sto}{E:List (List (Nat×Nat))}{P:List (Nat×Nat)}{U G:Sto}(w:WS t m T E P U):WS t m T E P (U++G):=by
 have b:t+m+1<U.length:=(gE1.mp w.prs).1;refine⟨w.tl,?_,w.el,λi a h=>?_,?_,?_⟩
 ·rw[List.take_append_of_le_length (by omega)];exact w.low
 ·have:=w.row i a h;rw[gL1 (gE1.mp this).1];exact this
 ·rw[gL1 (by omega)];exact w.ends
 ·rw[gL1 (by omega)];exact w.prs
theorem WS.setRow{t m i:Nat}{T:Sto}{E:List (List (Nat×Nat))}{P:List (Nat×Nat)}{U:Sto}{row:List (Nat×Nat)}(w:WS t m T E P U)(hi:i<m):WS t m T (E.set i row) P (U.set (t+i) (rD row)):=by
 have b:t+m+1<U.length:=(gE1.mp w.prs).1;refine⟨w.tl,?_,by rw[aW];exact w.el,λj a h=>?_,?_,?_⟩
 ·rw[List.take_set_of_le (by lia)];exact w.low
 ·by_cases e:i=j
  ·subst e;rw[aI (by rw[w.el];exact hi)]at h;cases h;rw[aI (by lia)]
  ·rw[gS1 e]at h;rw[gS1 (by lia)];exact w.row j a h
 ·rw[gS1 (by lia)];exact w.ends
 ·rw[gS1 (by lia)];exact w.prs
theorem WS.setPrs{t m:Nat}{T:Sto}{E:List (List (Nat×Nat))}{P P':List (Nat×Nat)}{U:Sto}(w:WS t m T E P U):WS t m T E P' (U.set (t+m+1) (.lst (P'.map pD))):=by
 have c:t+m+1<U.length:=(gE1.mp w.prs).1;refine⟨w.tl,?_,w.el,λj a h=>?_,?_,?_⟩
 ·rw[List.take_set_of_le (by lia)];exact w.low
 ·have b:j<m:=by rw[<- w.el];exact(gE1.mp h).1
  rw[gS1 (by lia)];exact w.row j a h
 ·rw[gS1 (by lia)];exact w.ends
 ·rw[aI (by lia)]
theorem WS.split{t m:Nat}{T:Sto}{E:List (List (Nat×Nat))}{P:List (Nat×Nat)}{U:Sto}(w:WS t m T E P U):U=T++U.drop t:=by
 conv=>lhs;rw[<- cK t U,w.low]
theorem pW:∀{k n i:Nat},i<k->(jB n k)[i]?=Z (.ref (n+i))
 |k+1,n,0,_=>rfl
 |k+1,n,i+1,h=>by rw[jB,gC1,pW (Nat.lt_of_succ_lt_succ h),show n+1+i=n+(i+1) by lia]
theorem j7:∀k n:Nat,(jB n k).length=k
 |0,_=>rfl
 |k+1,n=>by rw[jB,lC1,j7]
noncomputable def tot(E:List (List (Nat×Nat))):Nat:=(E.map List.length).sum
theorem pK:∀{E:List (List (Nat×Nat))} {i:Nat} {row row':List (Nat×Nat)},E[i]?=Z row->tot (E.set i row')+row.length=tot E+row'.length
 |[],i,_,_,h=>by simp at h
 |a::E,0,row,row',h=>by simp at h;subst h;simp[tot];lia
 |a::E,i+1,row,row',h=>by
  have:=pK (E:=E) (i:=i) (row:=row) (row':=row') (by simpa using h);simp[tot]at this ⊢;lia
theorem x9:∀{E:List (List (Nat×Nat))} {k:Nat},k<=E.length->(∀i b,i<k->E[i]?=Z b->4<=b.length)->4*k<=tot E
 |E,0,_,_=>by lia
 |[],k+1,h,_=>by simp at h
 |a::E,k+1,h,q=>by
  have h1:=q 0 a (by lia) O;have h2:=x9 (E:=E) (k:=k) (by simpa using h) λi b hi c=>q (i+1) b (by lia) (by simpa using c);simp[tot]at h2 ⊢;lia
noncomputable def eP(rs:List Nat):List D:=rs.map λi:Nat=>D.int i
theorem jD(rs:List Nat):(eP rs).length=rs.length:=by simp[eP]
theorem qg(rs:List Nat):D.unds 0 (eP rs)=M:=eK λ_ _=>rfl
abbrev Wk:=Nat×Nat×Nat
noncomputable def ff(w:Wk):D:=.tup [.int w.1,.int w.2.1,.int w.2.2]
noncomputable def eA(ws:List Wk):List D:=ws.map ff
theorem jg(ws:List Wk):(eA ws).length=ws.length:=by simp[eA]
theorem jO(ws:List Wk):D.unds 0 (eA ws)=M:=eK λ_ _=>rfl
noncomputable def dZ(ws:List Wk)(cs:List Nat):D:=.tup [.tup (eA ws),.tup (eP cs)]
theorem fR{ws:List Wk}{cs:List Nat}:(dZ ws cs).und 0=M:=by simp[dZ,D.und,D.unds,jO,qg]
noncomputable def fv(a b c d:Bool):List D:=(if a then[.str "came"]else[])++(if b then[.str "chalk"]else[])++(if c then[.str "doors"]else[])++(if d then[.str "others"]else[])
theorem z0 {xs:List D}(h:xs.Sublist [.str "came",.str "chalk",.str "doors",.str "others"]):∃a b c d,xs=fv a b c d:=by
 have one:∀{x:D} {l ys:List D},ys.Sublist (x::l) -> ∃(a:Bool) (zs:List D),zs.Sublist l/\ys=(if a then[x]else[])++zs:=by
  intro x l ys h;cases h with
  |cons _ h=>exact⟨J,ys,h,O⟩
  |cons_cons _ h=>exact⟨M,_,h,O⟩
 obtain⟨a,j,h1,rfl⟩:=one h;obtain⟨b,k,h2,rfl⟩:=one h1;obtain⟨c,i,g,rfl⟩:=one h2;obtain⟨d,f,e,rfl⟩:=one g;have:f=[]:=List.eq_nil_of_sublist_nil e;subst this;exact⟨a,b,c,d,by simp[fv]⟩
theorem Aa(a b c d:Bool):(fv a b c d).length<=4:=by cases a<;>cases b<;>cases c<;>cases d<;>decide
theorem kC(a b c d:Bool):D.unds 0 (fv a b c d)=M:=by cases a<;>cases b<;>cases c<;>cases d<;>rfl
theorem B2{a b c d:Bool}{S:Sto}:i5 (.str "came") (.tup (fv a b c d)) S=Z (.bl a,S):=by cases a<;>cases b<;>cases c<;>cases d<;>rfl
theorem zJ{a b c d:Bool}{S:Sto}:i5 (.str "chalk") (.tup (fv a b c d)) S=Z (.bl b,S):=by cases a<;>cases b<;>cases c<;>cases d<;>rfl
theorem zI{a b c d:Bool}{S:Sto}:i5 (.str "doors") (.tup (fv a b c d)) S=Z (.bl c,S):=by cases a<;>cases b<;>cases c<;>cases d<;>rfl
theorem wY{a b c d:Bool}{S:Sto}:i5 (.str "others") (.tup (fv a b c d)) S=Z (.bl d,S):=by cases a<;>cases b<;>cases c<;>cases d<;>rfl
theorem uv{S:Sto}{n:Nat}{x:Nat}:∀a:List Nat,AE (gp S (n+1)) (.int x) (eP a)=Z (a.contains x)
 |[]=>rfl
 |c::a=>by
  have d:gp S (n+1) (.int c) (.int x)=Z ((c:Int) == (x:Int)):=rfl;have b:((c:Int) == (x:Int))=(x == c):=by
   rw[bS,beq_iff_eq,beq_iff_eq];lia
  have ih:=uv (S:=S) (n:=n) (x:=x) a;rw[eP,mP1,AE,d,b];rw[eP]at ih;rw[ih,List.contains_cons];rfl
theorem zG{S:Sto}{x:Nat}{cs:List Nat}:i5 (.int x) (.tup (eP cs)) S=Z (.bl (cs.contains x),S):=by
 simp only[i5,uA,Ft,d6,oS1,eN,show(60:Nat)=59+1 from rfl,uv,oP1]
noncomputable def t8(a b c d:Bool)(came chalk doors others:Int):D:=.tup [if a then .int came else .non,if b then .int chalk else .non,if c then .int doors else .non,if d then .int others else .non]
theorem oj{a b c d:Bool}{w x y z:Int}:(t8 a b c d w x y z).und 0=M:=by cases a<;>cases b<;>cases c<;>cases d<;>rfl
theorem zz{κ:Type}[DecidableEq κ]{k:κ}:d3 ([]:List (κ×D)) k=Y:=rfl
theorem eV{κ:Type}[DecidableEq κ]{k a:κ}{d:D}{r:List (κ×D)}:d3 ((a,d)::r) k=if a=k then Z d else d3 r k:=by
 unfold d3;rw[bc];by_cases h:a=k
 ·simp[h]
 ·simp[h]
theorem sn{κ:Type}[DecidableEq κ]{k:κ}{b:List (κ×D)}:∀{a:List (κ×D)},d3 (a++b) k=(d3 a k).or (d3 b k)
 |[]=>rfl
 |(x,d)::a=>by
  rw[bj,eV,eV,sn (a:=a)];split<;>rfl
theorem k9{κ:Type}[DecidableEq κ]{k:κ}:∀{a:List (κ×D)},(a.any λp=>decide (p.1=k))=J->d3 a k=Y
 |[],_=>rfl
 |(x,d)::a,h=>by
  simp only[bd,Bool.or_eq_false_iff,decide_eq_false_iff_not]at h;rw[eV,aj h.1];exact k9 h.2
theorem k8{κ:Type}[DecidableEq κ]{k k':κ}{v:D}:∀{a:List (κ×D)},(a.any λp=>decide (p.1=k))=M->d3 (a.map λp=>if p.1=k then(p.1,v)else p) k'=if k'=k then Z v else d3 a k'
 |[],h=>by simp at h
 |(x,d)::a,h=>by
  rw[mP1];by_cases f:x=k
  ·subst f;rw[ak (show(x,d).1=x from rfl)];rw[eV,eV];by_cases b:k'=x
   ·subst b;simp
   ·rw[aj (Ne.symm b),aj (Ne.symm b),aj b];by_cases g:(a.any λp=>decide (p.1=x))=M
    ·rw[k8 g,aj b]
    ·have:(a.map fun p=>if p.1=x then (p.1,v) else p)=a:=by
      have c:(a.any λp=>decide (p.1=x))=J:=Bool.eq_false_iff.mpr g;rw[List.any_eq_false]at c
      conv=>rhs;rw[<- List.map_id a]
      apply dg;intro p i;have:=c p i;simp at this;simp[this]
     rw[this]
  ·simp only[bd,ai f,Bool.false_or]at h;rw[aj (show¬ (x,d).1=k from f)];rw[eV,eV,k8 h];by_cases e:x=k'
   ·subst e;simp[f]
   ·simp[e]
theorem sm{κ:Type}[DecidableEq κ]{k k':κ}{v:D}{a:List (κ×D)}:d3 (e9 a k v) k'=if k'=k then Z v else d3 a k':=by
 unfold e9;split
 ·rename_i h;exact k8 h
 ·rename_i h;have h':(a.any λp=>decide (p.1=k))=J:=Bool.eq_false_iff.mpr h;rw[sn,eV,zz];by_cases b:k'=k
  ·subst b;rw[k9 h',ak O];rfl
  ·rw[aj (Ne.symm b),aj b];cases d3 a k'<;>rfl
theorem va{κ:Type}[DecidableEq κ]{k:κ}{v:D}{a:List (κ×D)}:(e9 a k v).length<=a.length+1:=by
 unfold e9;split
 ·rw[lM1];lia
 ·rw[lA1];simp
theorem DH{κ:Type}[DecidableEq κ]{k:κ}{v:D}{a:List (κ×D)}:e9 a k v≠[]:=by
 unfold e9;split
 ·rename_i h;intro z;cases a with
  |nil=>simp at h
  |cons x xs=>simp at z
 ·simp
noncomputable def dO(F:List (TK×D)):Ob:=if F=[]then .dct []else .dcT F
theorem Fe{U:Sto}{n i:Nat}{xs:List D}{x:D}{Q:D×Sto->Prop}(h:U[n]?=Z (.lst xs))(hx:xs[i]?=Z x)(hb:i<1000)(q:Q (x,U.set n (.lst (xs.eraseIdx i)))):W (zR (.ref n) (.int i) U) Q:=by
 have a:=(gE1.mp hx).1;refine W.of ?_ q;simp only[zR,h];rw[ak ⟨by lia,by lia⟩];simp only[vE,ak (show(0:Int)<=i by lia)];rw[ak (by lia)];simp[hx]
theorem zQ{d:D}{S G:Sto}(hd:d.und 0=M)(a:S.all (Ob.und S.length)=M):gc S.length (d,S++G)=(d,S):=by
 unfold gc;dsimp only;rw[de,ak (by rw[fr hd,a];rfl)]
theorem qt{d:D}{S V:Sto}(hd:d.und 0=M)(a:S.all (Ob.und S.length)=M)(hp:S <+: V):gc S.length (d,V)=(d,S):=by
 obtain⟨G,rfl⟩:=hp;exact zQ hd a
theorem qM{m:FA}{r:Ev}{S:Sto}{xs ys:List D}{n:Nat}{Q:AB×Sto->Prop}(hm:m r S=Z ([.tup xs,.ref n],S))(hn:S[n]?=Z (.lst ys))(q:Q (⟨tH xs ys,[(n,ys)]⟩,S)):W (AF m r S) Q:=by
 refine W.of (x:=(⟨tH xs ys,[(n,ys)]⟩,S)) ?_ q;simp only[AF,hm,oS1,u4,gU hn,vZ,v3 hn,c4]
theorem mq{α:Type}{f g:α->D}:∀l:List α,tH (l.map f) (l.map g)=l.map λx=>D.tup [f x,g x]
 |[]=>rfl
 |a::l=>by rw[mP1,mP1,tH,mq l];rfl
theorem Hh{m:FA}{r:Ev}{S:Sto}{xs:List D}{Q:AB×Sto->Prop}(hm:m r S=Z ([.tup xs],S))(q:Q (⟨xH 0 xs,[]⟩,S)):W (Fq m r S) Q:=by
 refine W.of (x:=(⟨xH 0 xs,[]⟩,S)) ?_ q;simp only[Fq,hm,oS1,u4,vZ]
theorem Ag{α:Type}{f:α->D}:∀(l:List α) (k:Nat),xH k (l.map f)=(l.zipIdx k).map λp=>D.tup [.int (p.2:Nat),f p.1]
 |[],_=>rfl
 |a::l,k=>by rw[mP1,xH,Ag l (k+1),bM];rfl
theorem wj{α:Type}{l:List α}{p:α×Nat}(h:p∈l.zipIdx):l[p.2]?=Z p.1:=by
 have:=List.mem_zipIdx_iff_getElem?.mp h;exact this
theorem tI{α β:Type}(f:α->β)(l:List α):(l.zipIdx.map λp=>f p.1)=l.map f:=by
 have:(λp:α×Nat=>f p.1)=f∘Prod.fst:=rfl;rw[this,<- bv,List.zipIdx_map_fst]
mutual
theorem Du{n:Nat}:∀{d:D},d.und 0=M->d.sh n=d
 | .non,_=>rfl
 | .bl _,_=>rfl
 | .int _,_=>rfl
 | .str _,_=>rfl
 | .tup xs,h=>by rw[D.und]at h;rw[D.sh,md h]
 | .rol xs,h=>by rw[D.und]at h;rw[D.sh,md h]
 | .fn _,_=>rfl
 | .ref k,h=>by simp[D.und]at h
theorem md{n:Nat}:∀{ds:List D},D.unds 0 ds=M->D.shs n ds=ds
 |[],_=>rfl
 |d::ds,h=>by
  rw[D.unds,bA1]at h;rw[D.shs,Du h.1,md h.2]
end
theorem G7{n:Nat}{f:FN}{ds:List D}{S:Sto}{Q:D×Sto->Prop}(hn:ds.length=n)(a:D.unds 0 ds=M)(h:W (f ds []) λp=>∃xs,p=(.ref 0,[.lst xs])/\D.unds 0 xs=M/\Q (.ref S.length,S++[.lst xs])):W (dX n f ds S) Q:=by
 obtain⟨p,e,xs,rfl,c,q⟩:=h;refine⟨_,sY e hn a O,?_⟩;have d:(D.ref 0).sh S.length = .ref S.length:=rfl;have b:[Ob.lst xs].map (Ob.sh S.length)=[Ob.lst xs]:=by rw[mP1,aZ,Ob.sh,md c]
 rw[d,b];exact q
theorem Eu{ns:List Int}{k:Int}:k∈ddI ns↔k∈ns:=by
 have key:∀(ns a:List Int),k∈ns.foldl step_dedup a↔k∈a\/k∈ns:=by
  intro ns
  induction ns with
  |nil=>intro a;simp
  |cons n ns ih=>
   intro a;rw[cb,ih];have:k∈step_dedup a n↔k∈a\/k=n:=by
    unfold step_dedup;split
    ·rename_i h;obtain⟨x,b,e⟩:=bT.mp h;have e:=beq_iff_eq.mp e;subst e;constructor
     ·exact .inl
     ·rintro(z|z)
      ·exact z
      ·rw[z];exact b
    ·simp
   rw[this,aF,or_assoc]
 unfold ddI;rw[key];simp
theorem AW{xs:List Nat}{m:Nat}{f:Nat->Bool}(h:∀r,r∈xs↔r<m/\f r=M):jQ (ddI (xs.map λ(r:Nat)=>(r:Int)))=((af m).filter f).map λ(r:Nat)=>(r:Int):=by
 refine pX ?_ (mD _) ?_
 ·refine(iu _).trans ?_;refine(List.perm_ext_iff_of_nodup (sR _ [] bq) ?_).mpr λk=>?_
  ·refine dj.mpr ((List.nodup_range.filter f).imp λb z=>b (by lia))
  ·show k∈ddI _↔_;rw[Eu,ci,ci];constructor
   ·rintro⟨r,a,rfl⟩;exact⟨r,aA.mpr ⟨aB.mpr ((h r).mp a).1,((h r).mp a).2⟩,O⟩
   ·rintro⟨r,a,rfl⟩;obtain⟨h1,h2⟩:=aA.mp a;exact⟨r,(h r).mpr ⟨aB.mp h1,h2⟩,O⟩
 ·refine dj.mpr ((List.pairwise_lt_range.sublist List.filter_sublist).imp λc=>by lia)
theorem B0(xs:List Nat):m9 (eP xs)=Z (xs.map λ(r:Nat)=>(r:Int)):=by
 induction xs with
 |nil=>rfl
 |cons x xs ih=>
  show(m9 (eP xs)).map _=_;rw[ih];rfl
theorem xA{S:Sto}{n:Nat}{xs:List Nat}{m:Nat}{f:Nat->Bool}{Q:D×Sto->Prop}(hn:S[n]?=Z (.lst (eP xs)))(h:∀r,r∈xs↔r<m/\f r=M)(a:xs.length<64)(q:Q (.ref S.length,S++[.lst (eP ((af m).filter f))])):W (i3 (.ref n) S) Q:=by
 refine W.of (x:=(.ref S.length,S++[.lst (eP ((af m).filter f))])) ?_ q;simp only[i3,gU hn,B0,oS1];rw[ak (by rw[lM1];exact a),AW h,bv];rfl
end Mi
end
local macro_rules | `(tactic| walk_at"w") => `(tactic| simp only[Mi.eB, Mi.jI, Mi.ite_and', Mi.d5, Mi.kS, Mi.tm, Mi.d9, Mi.eh, Mi.hL, Mi.fu, Mi.fi, Mi.q0, Mi.mN, Mi.dS, Mi.dU, Mi.m2, Mi.m1, Mi.mV, Mi.mC, Mi.Av, Mi.Fg, Mi.mB, Mi.se, Mi.Fp, Mi.wO, Mi.vv, Mi.gu, Mi.Gw, Mi.Dh, Mi.gN, Mi.gT, Mi.gCs, Mi.gNl, Mi.gS, Mi.b1, Mi.b2, Mi.b3, Mi.iF, Mi.hH, Mi.kT, Mi.C0, Mi.Hg, Mi.F2, Mi.Hv, Mi.iW, Mi.nT, Mi.Fj, Mi.gSub, Mi.iK, Mi.nV, Mi.Cc, Mi.B8, Mi.Cb, Mi.JW, Mi.JV, Mi.Jc, Mi.JU, Mi.JT, Mi.JS, Mi.JR, true_and, Mi.g9, Mi.ee, bI, lA1, dk, gC1, List.getElem?_nil, c7, c9, lC1, bf, mP1, aZ, Mi.JK, Mi.JJ, Mi.Jz, Mi.Jx, Mi.Jw, Mi.Jv, Mi.Ju, Mi.Jt, Mi.Ic, c4, bj, aM, Nat.reduceAdd, Nat.reduceSub, Option.join_some, Option.join_none, oP1, Option.map_none, oS1, Option.bind_none, if_true, if_false, bF1, b7, cp, ite_true, ite_false, reduceIte, decide_true, decide_false, Mi.JY, Mi.JX, Mi.gC, Mi.Fi, Mi.Aw, Mi.Hf])
noncomputable section
namespace Law
open PySem PySem.Spec PyProof.Rows L2 Mi
noncomputable def top (i:Nat):dQ:=PySem.Challenge.pw_ringmeet_k29_walks_by_beats.main.body.getD i (.Pass ⟨0,0,0,0⟩)
abbrev BL:List Str:=["dict","enumerate","int","len","list","max","min","range","repr","set","sorted","tuple","zip"]
noncomputable def mj:D:=(D.tup [(D.tup [(D.str "came"),(D.int 5)]),(D.tup [(D.str "chalk"),(D.int 2)]),(D.tup [(D.str "doors"),(D.int 5)]),(D.tup [(D.str "others"),(D.int 2)])])
section
variable{P:dF}{w:dH}{K:Fg1}{mg:Str->Option dB}{base h:dN}(X:K.In h) (G:h.Ns dI mg) (B:Blt BL mg)
include X G B
abbrev mG:dQ:=top 3
noncomputable def ka:FT:=(mB (m2 (b2 xG) (mV 2) (mV 3)))
noncomputable def j9:FS:=(d9 (eh (m2 (b2 nW) (m2 (b2 fS) (mV 2) (mV 3)) (mC (D.int 2))) (gN 4))
  (hL (mB (m2 (b2 xG) (m2 (b2 dW) (m2 (b2 dW) (m2 (b2 dW) (mV 0) (mV 4)) (mC (D.int 0))) (mC (D.int 0))) (mV 1))) (eh (m2 (b2 fS) (mV 4) (mC (D.int 1))) (gN 2)) (eh (mV 4) (gN 3))))
noncomputable def nF:FS:=(d9 (eh (mC (D.int 0)) (gN 2))
  (d9 (eh (mN (b1 eS) (dS (mV 0) dU)) (gN 3))
  (d9 (qT ka j9 100000)
  (fu (mV 2)))))
noncomputable def gL:FN:=iF 5 nF
theorem rO {f:dE}(F:eM K "first_of" mG f):
  fO P w K mg base 1 "first_of" 2 gL:=xq ["rows","mood","low","high","middle"] X G F λa=>
 (qF (sq qK) (qF (sq (cn fy (a1 xv))) (qF (kX 100000 PassesOwn.never (ct (oq lI) xv xv) (qF (sq (qI vo (qI fT xv xv) qK)) (qG (qV (ct (oq lI) (jq (jq (jq xv xv) qK) qK) xv) (qG (sq (qI fT xv qK))) (qG (sq xv)))))) (qG (qU xv)))))
abbrev u8:dQ:=top 5
noncomputable def wa:FS:=(d9 (eh (mV 0) (gT 2 (gCs (gN 1) (gCs (gN 2) gNl))))
  (fu (eQ (dS (mN (b1 gTup) (dS (e6 1 [] (iJ (mV 1)) (gN 0) gu (eI (eQ (dS (mV 0) (dS (mC (D.int 0)) (dS (mC (D.int 0)) dU)))))) dU)) (dS (mV 2) dU)))))
noncomputable def km:FN:=iF 3 wa
theorem yZ {f:dE}(F:eM K "begun" u8 f):
  fO P w K mg base 1 "begun" 1 km:=xq ["standing","rooms","chalk"] X G F λa=>
 (qF (qR xv (tg2 gq gq)) (qG (qU (ed (a2 (cz fb (a1 (fk ["room"] (qd xv) ⟨gq,fK,(ed (a3 xv qK qK))⟩))) xv)))))
abbrev mF:dQ:=top 6
noncomputable def nE:FS:=(d9 (eh (mV 2) (gT 2 (gCs (gN 4) (gCs (gN 5) gNl))))
  (d9 (eh (m2 (b2 dW) (mV 4) (mV 3)) (gT 3 (gCs (gN 6) (gCs (gN 7) (gCs (gN 8) gNl)))))
  (d9 (eh (e6 1 [6] (iJ (mV 4)) (gN 0) (mB (m2 (b2 oT) (m2 (b2 dW) (mV 0) (mC (D.int 0))) (mV 1))) (eI (mV 0))) (gN 9))
  (d9 (eh (sd [((mC (D.str "came")),(mV 7)),((mC (D.str "chalk")),(vv (mB (m2 (b2 i5) (mV 6) (mV 5))) (mC (D.int 1)) (mC (D.int 0)))),((mC (D.str "doors")),(mN (b1 eS) (dS (m2 (b2 dW) (mV 0) (mV 6)) dU))),((mC (D.str "others")),(vv (mB (m2 (b2 (iK λi j=>decide (j<i))) (mN (b1 eS) (dS (mV 9) dU)) (mC (D.int 1)))) (mC (D.int 1)) (mC (D.int 0))))]) (gN 10))
  (fu (mN (b1 gTup) (dS (e6 2 [1,10] (iJ (mC mj)) (gT 2 (gCs (gN 0) (gCs (gN 1) gNl))) gu (eI (vv (mB (m2 (b2 i5) (mV 0) (mV 2))) (m2 (b2 dW) (mV 3) (mV 0)) (mC D.non)))) dU)))))))
noncomputable def gK:FN:=iF 11 nE
theorem rM {f:dE}(F:eM K "sight_of" mF f)(a:CGl K mg "PARTS" mj):
  fO P w K mg base 1 "sight_of" 4 gK:=xq ["web","eyes","whole","k","walkers","chalk","room","came","mood","here","parts"] X G F λb=>
 (qF (qR xv (tg2 gq gq)) (qF (qR (jq xv xv) (gR O (d8 gq (d8 gq (d8 gq gi))))) (qF (gE 9 O (T:=["other"]) (keep:=[6]) ⟨O,by decide+kernel,(kc "room" (cS _))⟩ O (qd xv) (λ_ _ _=>⟨gq,(fA (ct (oq k7) (jq xv qK) xv)),xv⟩) (g0 O) O (by first|exact Or.inl rfl|exact Or.inr rfl)) (qF (sq (re (gh eE xv (gh eE (pF (ct (oq oE) xv xv (by with_unfolding_all rfl)) qK qK) (gh eE (cn fy (a1 (jq xv xv))) (gh eE (pF (ct zd (cn fy (a1 xv)) qK) qK qK) uR)))))) (qG (qU (cz fb (a1 (fk ["eye","many"] (qd (xS a rfl)) ⟨(tg2 gq gq),fK,(pF (ct (oq oE) xv xv (by with_unfolding_all rfl)) (jq xv xv) ge)⟩)))))))))
abbrev om:dQ:=top 10
noncomputable def py:FS:=(d9 (eh (mV 0) (gT 2 (gCs (gN 2) (gCs (gN 3) gNl))))
  (d9 (eh (e6 2 [] (AF (dS (mV 2) (dS (mV 1) dU))) (gT 2 (gCs (gN 0) (gCs (gN 1) gNl))) (mB (m2 (b2 oT) (m2 (b2 dW) (mV 1) (mC (D.int 1))) (mC (D.str "mark")))) (eI (m2 (b2 dW) (mV 0) (mC (D.int 0))))) (gN 4))
  (d9 (eh (e6 2 [] (AF (dS (mV 2) (dS (mV 1) dU))) (gT 2 (gCs (gN 0) (gCs (gN 1) gNl))) (mB (m2 (b2 oT) (m2 (b2 dW) (mV 1) (mC (D.int 1))) (mC (D.str "wipe")))) (eI (m2 (b2 dW) (mV 0) (mC (D.int 0))))) (gN 5))
  (d9 (eh (e6 1 [5] (iJ (mV 3)) (gN 0) (mB (m2 (b2 fG) (mV 0) (mV 1))) (eI (mV 0))) (gN 6))
  (fu (mN (b1 gTup) (dS (mN (b1 i3) (dS (m2 (b2 fS) (mV 6) (mV 4)) dU)) dU)))))))
noncomputable def il:FN:=iF 7 py
theorem ui {f:dE}(F:eM K "handled" om f):
  fO P w K mg base 1 "handled" 2 il:=xq ["whole","deeds","walkers","chalk","marked","wiped","left"] X G F λa=>
 (qF (qR xv (tg2 gq gq)) (qF (gE 4 O (T:=["walker","deed"]) (keep:=[]) ⟨O,by decide+kernel,(cS _)⟩ O (jN O (bz B) (a2 xv xv)) (λ_ _ _=>⟨(tg2 gq gq),(fA (ct (oq k7) (jq xv qK) eE)),(jq xv qK)⟩) (g0 O) O (by first|exact Or.inl rfl|exact Or.inr rfl)) (qF (sq (fk ["walker","deed"] (jN rfl (bz B) (a2 xv xv)) ⟨(tg2 gq gq),(fA (ct (oq k7) (jq xv qK) eE)),(jq xv qK)⟩)) (qF (gE 6 rfl (T:=["room"]) (keep:=[5]) ⟨rfl,by decide+kernel,(kc "wiped" (cS _))⟩ rfl (qd xv) (λ_ _ _=>⟨gq,(fA (ct (oq mW) xv xv (by with_unfolding_all rfl))),xv⟩) (g0 O) O (by first|exact Or.inl rfl|exact Or.inr rfl)) (qG (qU (cz fb (a1 (wl rfl rfl (bz B) rfl (bz B) (qI fT xv xv))))))))))
abbrev ol:dQ:=top 11
noncomputable def px:FS:=(d9 (eh (mV 1) (gT 3 (gCs (gN 3) (gCs (gN 4) (gCs (gN 5) gNl)))))
  (d9 (eh (mV 2) (gT 3 (gCs (gN 6) (gCs (gN 7) (gCs (gN 8) gNl)))))
  (d9 (hL (Fp (mB (m2 (b2 B9) (mV 8) (mC D.non))) (mB (m2 (b2 (iK λi j=>decide (j<=i))) (mV 8) (mN (b1 eS) (dS (m2 (b2 dW) (mV 0) (mV 3)) dU))))) (fu (eQ (dS (mV 3) (dS (mV 4) (dS (mV 6) dU))))) q0)
  (d9 (eh (m2 (b2 dW) (m2 (b2 dW) (mV 0) (mV 3)) (mV 8)) (gT 2 (gCs (gN 9) (gCs (gN 10) gNl))))
  (fu (eQ (dS (mV 9) (dS (m2 (b2 fS) (mC (D.int 1)) (mV 10)) (dS (mV 6) dU)))))))))
noncomputable def ik:FN:=iF 11 px
theorem uh {f:dE}(F:eM K "stepped" ol f):
  fO P w K mg base 1 "stepped" 3 ik:=xq ["web","walker","deed","room","came","past","mood","hand","step","there","back"] X G F λa=>
 (qF (qR xv (gR O (d8 gq (d8 gq (d8 gq gi))))) (qF (qR xv (gR O (d8 gq (d8 gq (d8 gq gi))))) (qF (qV (lp (tJ (ct Gi xv ge) (pB (ct Gm xv (cn fy (a1 (jq xv xv))))))) (qG (qU (ed (a3 xv xv xv)))) qQ) (qF (qR (jq (jq xv xv) xv) (tg2 gq gq)) (qG (qU (ed (a3 xv (qI fT qK xv) xv))))))))
abbrev lA:dQ:=top 15
noncomputable def ja:FS:=(d9 (eh (mC (D.int 0)) (gN 2))
  (d9 (hL (mB (m2 (b2 xG) (mV 1) (mN (b1 eS) (dS (mV 0) dU)))) (eh (m2 (b2 dW) (mV 0) (mV 1)) (gN 2)) q0)
  (d9 (eh (m2 (b2 jr) (m2 (b2 kA) (mV 2) (m2 (b2 jr) (m2 (b2 uz) (mC (D.int 10)) (mC (D.int 60))) (m2 (b2 uz) (mC (D.int 10)) (mC (D.int 30))))) (mN (b1 nV) (dS (m2 (b2 (iK λi j=>decide (j<=i))) (mV 2) (m2 (b2 uz) (mC (D.int 10)) (mC (D.int 18)))) dU))) (gN 3))
  (fu (jE (dS (mV 3) (dS (m2 (b2 kA) (m2 (b2 fS) (m2 (b2 fS) (m2 (b2 kA) (mV 2) (mC (D.int 2305843009213693951))) (m2 (b2 jr) (mC (D.int 7919)) (mV 1))) (mC (D.int 3))) (mC (D.int 2305843009213693951))) (dS (mC (D.int 0)) dU))))))))
noncomputable def fD:FN:=iF 4 ja
theorem p9 {f:dE}(F:eM K "_law_hand" lA f):
  fO P w K mg base 1 "_law_hand" 2 fD:=xq ["_law_script","_law_k","_law_cell","_law_great"] X G F λa=>
 (qF (sq qK) (qF (qV (ct (oq lI) xv (cn fy (a1 xv))) (qG (sq (jq xv xv))) qQ) (qF (sq (qI kd (qI lH xv (qI kd (qI y2 qK qK) (qI y2 qK qK))) (cz v6 (a1 (ce Gm xv (qI y2 qK qK)))))) (qG (qU (gz (a3 xv (qI lH (qI fT (qI fT (qI lH xv qK) (qI kd qK xv)) qK) qK) qK)))))))
abbrev lz:dQ:=top 16
noncomputable def i9:FS:=(d9 (hL (mB (m2 (b2 (iK fun i j=>decide (j<i))) (m2 (b2 dW) (mV 0) (mC (D.int 0))) (mC (D.int 0)))) (d9 (eh (m2 (b2 kA) (m2 (b2 dW) (mV 0) (mC (D.int 0))) (mV 1)) (gN 2))
  (d9 (eh (m2 (b2 nW) (m2 (b2 dW) (mV 0) (mC (D.int 0))) (mV 1)) (gS (b3 i4) (mV 0) (mC (D.int 0))))
  (fu (mV 2)))) q0)
  (d9 (eh (m2 (b2 fS) (m2 (b2 dW) (mV 0) (mC (D.int 2))) (mC (D.int 1))) (gS (b3 i4) (mV 0) (mC (D.int 2))))
  (d9 (eh (m2 (b2 kA) (m2 (b2 jr) (m2 (b2 fS) (m2 (b2 fS) (m2 (b2 dW) (mV 0) (mC (D.int 1))) (m2 (b2 jr) (m2 (b2 jr) (mC (D.int 65537)) (m2 (b2 dW) (mV 0) (mC (D.int 2)))) (m2 (b2 dW) (mV 0) (mC (D.int 2))))) (mC (D.int 11))) (mC (D.int 48271))) (mC (D.int 2305843009213693921))) (gN 3))
  (d9 (eh (m2 (b2 kA) (m2 (b2 jr) (mV 3) (m2 (b2 fS) (m2 (b2 kA) (mV 3) (mC (D.int 1000003))) (m2 (b2 jr) (mC (D.int 99991)) (m2 (b2 dW) (mV 0) (mC (D.int 2)))))) (mC (D.int 2305843009213693907))) (gN 3))
  (fu (m2 (b2 kA) (m2 (b2 fS) (m2 (b2 nW) (mV 3) (mC (D.int 97))) (m2 (b2 nW) (mV 3) (mC (D.int 1000033)))) (mV 1)))))))
noncomputable def dV:FN:=iF 4 i9
theorem p8 {f:dE}(F:eM K "_law_take" lz f):
  fO P w K mg base 1 "_law_take" 2 dV:=xq ["_law_hand_here","_law_many","_law_digit","_law_mixed"] X G F λa=>
 (qF (qV (ct zd (jq xv qK) qK) (qF (sq (qI lH (jq xv qK) xv)) (qF (qR (qI vo (jq xv qK) xv) (l8 xv qK (pU a.units))) (qG (qU xv)))) qQ) (qF (qR (qI fT (jq xv qK) qK) (l8 xv qK (pU a.units))) (qF (sq (qI lH (qI kd (qI fT (qI fT (jq xv qK) (qI kd (qI kd qK (jq xv qK)) (jq xv qK))) qK) qK) qK)) (qF (sq (qI lH (qI kd xv (qI fT (qI lH xv qK) (qI kd qK (jq xv qK)))) qK)) (qG (qU (qI lH (qI fT (qI vo xv qK) (qI vo xv qK)) xv)))))))
abbrev mJ:dQ:=top 18
noncomputable def nI:FS:=(d9 (eh (m2 (b2 dW) (m2 (b2 dW) (mV 1) (m2 (b2 dW) (mV 2) (mC (D.int 0)))) (m2 (b2 gSub) (mC (D.int 1)) (m2 (b2 dW) (mV 2) (mC (D.int 1))))) (gN 3))
  (fu (eQ (dS (mV 3) (dS (oI (b2 zT) (m2 (b2 dW) (mV 0) (mV 3)) (dS (eQ (dS (m2 (b2 dW) (mV 2) (mC (D.int 0))) (dS (m2 (b2 gSub) (mC (D.int 1)) (m2 (b2 dW) (mV 2) (mC (D.int 1)))) dU))) dU)) dU)))))
noncomputable def ga:FN:=iF 4 nI
theorem rR {f:dE}(F:eM K "_law_far" mJ f):
  fO P w K mg base 1 "_law_far" 3 ga:=xq ["_law_ends","_law_pairs","_law_end","_law_room"] X G F λa=>
 (qF (sq (jq (jq xv (jq xv qK)) (qI y1 qK (jq xv qK)))) (qG (qU (ed (a2 xv (qe PySem.F.slot_list_index PySem.F.type_list_index (FB a.units) (jq xv xv) (a1 (ed (a2 (jq xv qK) (qI y1 qK (jq xv qK)))))))))))
abbrev jV:dQ:=top 22
noncomputable def kM:FS:=(d9 (eh (m2 (b2 dW) (m2 (b2 dW) (mV 2) (mC (D.int 0))) (mV 3)) (gT 3 (gCs (gN 4) (gCs (gN 5) (gCs (gN 6) gNl)))))
  (d9 (eh (mN (b1 eS) (dS (e6 1 [4] (iJ (m2 (b2 dW) (mV 2) (mC (D.int 0)))) (gN 0) (mB (m2 (b2 oT) (m2 (b2 dW) (mV 0) (mC (D.int 0))) (mV 1))) (eI (mV 0))) dU)) (gN 7))
  (d9 (eh (sd [((mC (D.str "came")),(mV 5)),((mC (D.str "chalk")),(mN (b1 nV) (dS (m2 (b2 i5) (mV 4) (m2 (b2 dW) (mV 2) (mC (D.int 1)))) dU))),((mC (D.str "doors")),(mN (b1 eS) (dS (m2 (b2 dW) (mV 0) (mV 4)) dU))),((mC (D.str "others")),(mN (b1 nV) (dS (m2 (b2 (iK λi j=>decide (j<i))) (mV 7) (mC (D.int 1))) dU)))]) (gN 8))
  (fu (mN (b1 gTup) (dS (e6 1 [1,8] (iJ (eQ (dS (mC (D.str "came")) (dS (mC (D.str "chalk")) (dS (mC (D.str "doors")) (dS (mC (D.str "others")) dU)))))) (gN 0) gu (eI (vv (mB (m2 (b2 i5) (mV 0) (mV 1))) (m2 (b2 dW) (mV 2) (mV 0)) (mC D.non)))) dU))))))
noncomputable def eX:FN:=iF 9 kM
theorem nP {f:dE}(F:eM K "_law_sight" jV f):
  fO P w K mg base 1 "_law_sight" 4 eX:=xq ["_law_web_here","_law_eyes","_law_whole","_law_k","_law_room","_law_came","_law_mood","_law_crowd","_law_parts"] X G F λa=>
 (qF (qR (jq (jq xv qK) xv) (gR O (d8 gq (d8 gq (d8 gq gi))))) (qF (sq (cn fy (a1 (fk ["_law_walker"] (qd (jq xv qK)) ⟨gq,(fA (ct (oq k7) (jq xv qK) xv)),xv⟩)))) (qF (sq (re (gh eE xv (gh eE (cz v6 (a1 (ce (oq oE) xv (jq xv qK) (by with_unfolding_all rfl)))) (gh eE (cn fy (a1 (jq xv xv))) (gh eE (cz v6 (a1 (ce zd xv qK))) uR)))))) (qG (qU (cz fb (a1 (fk ["_law_eye"] (qd (ed (qA eE (a3 eE eE eE)))) ⟨gq,fK,(pF (ct (oq oE) xv xv (by with_unfolding_all rfl)) (jq xv xv) ge)⟩))))))))
abbrev iQ:dQ:=top 23
noncomputable def ij:FS:=(d9 (eh (e6 2 [4] (AF (dS (m2 (b2 dW) (mV 1) (mC (D.int 0))) (dS (mV 2) dU))) (gT 2 (gCs (gN 0) (gCs (gN 1) gNl))) (mB (m2 (b2 oT) (m2 (b2 dW) (mV 0) (mC (D.int 0))) (mV 2))) (eI (m2 (b2 dW) (mV 1) (mC (D.int 1))))) (gN 5))
  (hL (Fp (mB (m2 (b2 i5) (mC (D.str "mark")) (mV 5))) (se (mB (m2 (b2 i5) (mV 4) (m2 (b2 dW) (mV 1) (mC (D.int 1))))) (mB (m2 (b2 fG) (mC (D.str "wipe")) (mV 5))))) (fi (oI (b2 js) (mV 3) (dS (mV 4) dU))) q0))
noncomputable def jc:FS:=(d9 (eh (jE dU) (gN 3))
  (d9 (iW (uw (dS (mN (b1 eS) (dS (mV 0) dU)) dU)) (gN 4) ij)
  (fu (mN (b1 gTup) (dS (mV 3) dU)))))
noncomputable def fE:FN:=iF 6 jc
theorem lX {f:dE}(F:eM K "_law_chalked" iQ f):
  fO P w K mg base 1 "_law_chalked" 3 fE:=xq ["_law_web_here","_law_whole","_law_dealt","_law_found","_law_room","_law_hands"] X G F λa=>
 (qF (sq (gz qN)) (qF (fo (ir (a1 (cn fy (a1 xv)))) gq (qF (gE 5 O (T:=["_law_walker","_law_deed_here"]) (keep:=[4]) ⟨O,by decide+kernel,(kc "_law_room" (cS _))⟩ O (jN O (bz B) (a2 (jq xv qK) xv)) (λ_ _ _=>⟨(tg2 gq gq),(fA (ct (oq k7) (jq xv qK) xv)),(jq xv qK)⟩) (g0 O) O (by first|exact Or.inl rfl|exact Or.inr rfl)) (qG (qV (lp (tJ (ct (oq oE) eE xv (by with_unfolding_all rfl)) (pB (lp (jL (ct (oq oE) xv (jq xv qK) (by with_unfolding_all rfl)) (iL (ct (oq mW) eE xv (by with_unfolding_all rfl)))))))) (qG (lq ap xv (a1 xv))) qQ)))) (qG (qU (cz fb (a1 xv))))))
abbrev oo:dQ:=top 2
noncomputable def lG:FT:=(se (mB (m2 (b2 xG) (mV 4) (mN (b1 eS) (dS (mV 3) dU)))) (mB (m2 (b2 oT) (m2 (b2 dW) (m2 (b2 dW) (m2 (b2 dW) (mV 3) (mV 4)) (mC (D.int 0))) (mC (D.int 0))) (mV 1))))
noncomputable def lF:FS:=(d9 (hL (mB (m2 (b2 oT) (m2 (b2 dW) (m2 (b2 dW) (m2 (b2 dW) (mV 3) (mV 4)) (mC (D.int 0))) (mC (D.int 1))) (mV 2))) (fu (m2 (b2 dW) (m2 (b2 dW) (mV 3) (mV 4)) (mC (D.int 1)))) q0)
  (BO 4 (b2 zU) (mC (D.int 1))))
noncomputable def pz:FS:=(d9 (eh (m2 (b2 dW) (mV 0) (mC (D.int 1))) (gN 3))
  (d9 (eh (mN (dX 2 gL) (dS (mV 3) (dS (mV 1) dU))) (gN 4))
  (d9 (qT lG lF 100000)
  (fu (eQ (dS (mV 1) (dS (mC (D.str "leave")) (dS (mC D.non) dU))))))))
noncomputable def f0:FN:=iF 5 pz
theorem uj {f:dE}(F:eM K "deed_of" oo f)(a:fO P w K mg base 1 "first_of" 2 gL):
  fO P w K mg base 2 "deed_of" 3 f0:=xq ["machine","mood","sight","rows","at"] X G F λb=>
 (qF (sq (jq xv qK)) (qF (sq (wn a (a2 xv xv))) (qF (kX 100000 PassesOwn.never (lp (jL (ct (oq lI) xv (cn fy (a1 xv))) (iL (ct (oq k7) (jq (jq (jq xv xv) qK) qK) xv)))) (qF (qV (ct (oq k7) (jq (jq (jq xv xv) qK) qK) xv) (qG (qU (jq (jq xv xv) qK))) qQ) (qG (AL 4 (g0 O) O (by first|exact Or.inl rfl|exact Or.inr rfl) qK BY)))) (qG (qU (ed (a3 xv eE ge)))))))
abbrev u6:dQ:=top 7
noncomputable def v8:FS:=(fu (e6 2 [0,1,2] (Fq (dS (m2 (b2 dW) (mV 2) (mC (D.int 0))) dU)) (gT 2 (gCs (gN 0) (gCs (gN 1) gNl))) gu (eI (eQ (dS (m2 (b2 dW) (mV 1) (mC (D.int 2))) (dS (mN (dX 4 gK) (dS (mV 2) (dS (mV 3) (dS (mV 4) (dS (mV 0) dU))))) dU))))))
noncomputable def kh:FN:=iF 3 v8
theorem yX {f:dE}(F:eM K "wants" u6 f)(a:fO P w K mg base 1 "sight_of" 4 gK):
  fO P w K mg base 2 "wants" 3 kh:=xq ["web","eyes","whole"] X G F λb=>
 (qG (qU (fk ["k","walker"] (ie (a1 (jq xv qK))) ⟨(tg2 gq gq),fK,(ed (a2 (jq xv qK) (wn a (qA xv (a3 xv xv xv)))))⟩)))
abbrev u7:dQ:=top 9
noncomputable def v9:FS:=(d9 (eh (mV 1) (gT 2 (gCs (gN 3) (gCs (gN 4) gNl))))
  (d9 (eh (e6 2 [0] (AF (dS (mV 3) (dS (mV 2) dU))) (gT 2 (gCs (gN 0) (gCs (gN 1) gNl))) gu (eI (mN (dX 3 ik) (dS (mV 2) (dS (mV 0) (dS (mV 1) dU)))))) (gN 5))
  (fu (eQ (dS (mN (b1 gTup) (dS (mV 5) dU)) (dS (mN (dX 2 il) (dS (mV 1) (dS (mV 2) dU))) dU))))))
noncomputable def kk:FN:=iF 6 v9
theorem yY {f:dE}(F:eM K "moved" u7 f)(b:fO P w K mg base 1 "handled" 2 il)(a:fO P w K mg base 1 "stepped" 3 ik):
  fO P w K mg base 2 "moved" 3 kk:=xq ["web","whole","deeds","walkers","chalk","behind"] X G F λc=>
 (qF (qR xv (tg2 gq gq)) (qF (gE 5 O (T:=["walker","deed"]) (keep:=[0]) ⟨O,by decide+kernel,(kc "web" (cS _))⟩ O (jN O (bz B) (a2 xv xv)) (λ_ _ _=>⟨(tg2 gq gq),fK,(wn a (a3 xv xv xv))⟩) (g0 O) O (by first|exact Or.inl rfl|exact Or.inr rfl)) (qG (qU (ed (a2 (cz fb (a1 xv)) (wn b (a2 xv xv))))))))
abbrev mI:dQ:=top 17
noncomputable def nH:FS:=(d9 (fi (oI (b3 w6) (m2 (b2 dW) (mV 1) (mV 3)) (dS (mN (dX 2 dV) (dS (mV 0) (dS (m2 (b2 fS) (mN (b1 eS) (dS (m2 (b2 dW) (mV 1) (mV 3)) dU)) (mC (D.int 1))) dU))) (dS (eQ (dS (mN (b1 eS) (dS (mV 2) dU)) (dS (mC (D.int 0)) dU))) dU))))
  (d9 (fi (oI (b3 w6) (m2 (b2 dW) (mV 1) (mV 4)) (dS (mN (dX 2 dV) (dS (mV 0) (dS (m2 (b2 fS) (mN (b1 eS) (dS (m2 (b2 dW) (mV 1) (mV 4)) dU)) (mC (D.int 1))) dU))) (dS (eQ (dS (mN (b1 eS) (dS (mV 2) dU)) (dS (mC (D.int 1)) dU))) dU))))
  (fi (oI (b2 js) (mV 2) (dS (eQ (dS (mV 3) (dS (mV 4) dU))) dU)))))
noncomputable def fQ:FN:=iF 5 nH
theorem rQ {f:dE}(F:eM K "_law_tie" mI f)(a:fO P w K mg base 1 "_law_take" 2 dV):
  fO P w K mg base 2 "_law_tie" 5 fQ:=xq ["_law_hand_here","_law_ends","_law_pairs","_law_one","_law_other"] X G F (hb:=λ_ _ _ _ _ _ c b=>HA b λ_ _ _ _ _=>rfl) λd=>
 (qF (lq ⟨PySem.F.slot_list_insert,PySem.F.type_list_insert,CH⟩ (jq xv xv) (a2 (wn a (a2 xv (qI fT (cn fy (a1 (jq xv xv))) qK))) (ed (a2 (cn fy (a1 xv)) qK)))) (qF (lq ⟨PySem.F.slot_list_insert,PySem.F.type_list_insert,CH⟩ (jq xv xv) (a2 (wn a (a2 xv (qI fT (cn fy (a1 (jq xv xv))) qK))) (ed (a2 (cn fy (a1 xv)) qK)))) (qG (lq ap xv (a1 (ed (a2 xv xv)))))))
abbrev iG:dQ:=top 20
noncomputable def gY:FT:=(mB (m2 (b2 (iK λi j=>decide (j<i))) (mN (b1 eS) (dS (mV 3) dU)) (m2 (b2 fS) (mC (D.int 1)) (mN (dX 2 dV) (dS (mV 0) (dS (mV 2) dU))))))
noncomputable def gX:FS:=(fi (oI (b2 zR) (mV 3) (dS (mN (dX 2 dV) (dS (mV 0) (dS (mN (b1 eS) (dS (mV 3) dU)) dU))) dU)))
noncomputable def iH:FS:=(d9 (eh (zu (dS (mV 1) dU)) (gN 3))
  (d9 (qT gY gX 100000)
  (d9 (eh (mN (dX 2 dV) (dS (mV 0) (dS (mC (D.int 2)) dU))) (gN 4))
  (fu (eQ (dS (mN (b1 gTup) (dS (mV 3) dU)) (dS (mN (b1 gTup) (dS (e6 1 [4,0] (uw (dS (mV 1) dU)) (gN 0) (mB (m2 (b2 oT) (m2 (b2 jr) (mV 1) (mN (dX 2 dV) (dS (mV 2) (dS (mC (D.int 3)) dU)))) (mC (D.int 1)))) (eI (mV 0))) dU)) dU)))))))
noncomputable def ft:FN:=iF 5 iH
theorem k6 {f:dE}(F:eM K "_law_standing" iG f)(a:fO P w K mg base 1 "_law_take" 2 dV):
  fO P w K mg base 2 "_law_standing" 3 ft:=xq ["_law_hand_here","_law_many","_law_most","_law_rooms","_law_some"] X G F λb=>
 (qF (sq (tO O O (bz B) O (bz B) (a1 xv))) (qF (kX 100000 PassesOwn.never (ct zd (cn fy (a1 xv)) (qI fT qK (wn a (a2 xv xv)))) (qG (lq ⟨PySem.F.slot_list_pop,PySem.F.type_list_pop,Fz⟩ xv (a1 (wn a (a2 xv (cn fy (a1 xv)))))))) (qF (sq (wn a (a2 xv qK))) (qG (qU (ed (a2 (cz fb (a1 xv)) (cz fb (a1 (fk ["_law_room"] (ir (a1 xv)) ⟨gq,(fA (ct (oq k7) (qI kd xv (wn a (a2 xv qK))) qK)),xv⟩))))))))))
abbrev ig:dQ:=top 21
noncomputable def io:FS:=(fu (mN (b1 gTup) (dS (e6 1 [0] (iJ (eQ (dS (mC (D.str "came")) (dS (mC (D.str "chalk")) (dS (mC (D.str "doors")) (dS (mC (D.str "others")) dU)))))) (gN 0) (mB (m2 (b2 oT) (mN (dX 2 dV) (dS (mV 1) (dS (mC (D.int 2)) dU))) (mC (D.int 0)))) (eI (mV 0))) dU)))
noncomputable def fc:FN:=iF 1 io
theorem kb {f:dE}(F:eM K "_law_some_eyes" ig f)(a:fO P w K mg base 1 "_law_take" 2 dV):
  fO P w K mg base 2 "_law_some_eyes" 1 fc:=xq ["_law_hand_here"] X G F λb=>
 (qG (qU (cz fb (a1 (fk ["_law_eye"] (qd (ed (qA eE (a3 eE eE eE)))) ⟨gq,(fA (ct (oq k7) (wn a (a2 xv qK)) qK)),xv⟩)))))
abbrev lC:dQ:=top 24
noncomputable def jy:FS:=(d9 (eh (m2 (b2 dW) (m2 (b2 dW) (m2 (b2 dW) (mV 3) (mC (D.int 0))) (mV 6)) (mC (D.int 2))) (gN 7))
  (fi (oI (b2 js) (mV 4) (dS (qi (mV 2) (eQ (dS (mV 7) (dS (mN (dX 4 eX) (dS (mV 0) (dS (mV 1) (dS (mV 3) (dS (mV 6) dU))))) dU))) (eQ (dS (mV 7) (dS (mC (D.str "leave")) (dS (mC D.non) dU))))) dU))))
noncomputable def jx:FS:=(d9 (hL (se (mB (m2 (b2 hA) (mV 12) (mC D.non))) (mB (m2 (b2 xG) (mV 12) (mN (b1 eS) (dS (m2 (b2 dW) (mV 0) (mV 8)) dU))))) (eh (eQ (dS (m2 (b2 dW) (m2 (b2 dW) (m2 (b2 dW) (mV 0) (mV 8)) (mV 12)) (mC (D.int 0))) (dS (m2 (b2 fS) (mC (D.int 1)) (m2 (b2 dW) (m2 (b2 dW) (m2 (b2 dW) (mV 0) (mV 8)) (mV 12)) (mC (D.int 1)))) dU))) (gT 2 (gCs (gN 8) (gCs (gN 9) gNl)))) q0)
  (fi (oI (b2 js) (mV 5) (dS (eQ (dS (mV 8) (dS (mV 9) (dS (mV 10) dU)))) dU))))
noncomputable def lT:FS:=(d9 (eh (eQ (dS (jE dU) (dS (jE dU) dU))) (gT 2 (gCs (gN 4) (gCs (gN 5) gNl))))
  (d9 (iW (uw (dS (mN (b1 eS) (dS (m2 (b2 dW) (mV 3) (mC (D.int 0))) dU)) dU)) (gN 6) jy)
  (d9 (iW (AF (dS (m2 (b2 dW) (mV 3) (mC (D.int 0))) (dS (mV 4) dU))) (gT 2 (gCs (gT 3 (gCs (gN 8) (gCs (gN 9) (gCs (gN 7) gNl)))) (gCs (gT 3 (gCs (gN 10) (gCs (gN 11) (gCs (gN 12) gNl)))) gNl))) jx)
  (fu (eQ (dS (mN (b1 gTup) (dS (mV 5) dU)) (dS (mN (dX 3 fE) (dS (mV 0) (dS (mV 3) (dS (mV 4) dU)))) dU)))))))
noncomputable def gk:FN:=iF 13 lT
theorem qc {f:dE}(F:eM K "_law_beat" lC f)(a:fO P w K mg base 1 "_law_chalked" 3 fE)(c:fO P w K mg base 1 "_law_sight" 4 eX):
  fO P w K mg base 2 "_law_beat" 4 gk:=xq ["_law_web_here","_law_eyes","_law_rows","_law_whole","_law_dealt","_law_walkers","_law_k","_law_mood","_law_room","_law_came","_law_later","_law_hand_here","_law_step"] X G F λb=>
 (qF (l7 4 5 O (g0 O) O O (by decide) O O (a2 (gz qN) (gz qN))) (qF (fo (ir (a1 (cn fy (a1 (jq xv qK))))) gq (qF (sq (jq (jq (jq xv qK) xv) qK)) (qG (lq ap xv (a1 (wm b.units xv (ed (a2 xv (wn c (qA xv (a3 xv xv xv))))) (ed (a3 xv eE ge)))))))) (qF (fo (jN O (bz B) (a2 (jq xv qK) xv)) (tg2 (gR O (d8 gq (d8 gq (d8 gq gi)))) (gR O (d8 gq (d8 gq (d8 gq gi))))) (qF (qV (lp (jL (ct mX xv ge) (iL (ct (oq lI) xv (cn fy (a1 (jq xv xv))))))) (qG (l7 8 9 O (g0 O) O O (by decide) O O (a2 (jq (jq (jq xv xv) xv) qK) (qI fT qK (jq (jq (jq xv xv) xv) qK))))) qQ) (qG (lq ap xv (a1 (ed (a3 xv xv xv))))))) (qG (qU (ed (a2 (cz fb (a1 xv)) (wn a (a3 xv xv xv)))))))))
abbrev lB:dQ:=top 25
noncomputable def lS:FS:=(d9 (eh (m2 (b2 dW) (eQ (dS (mC D.non) (dS (mC (D.int 0)) (dS (mC (D.int 1)) (dS (mC (D.int 2)) (dS (mC (D.int 3)) (dS (mC (D.int 0)) (dS (mC (D.int 1)) dU)))))))) (mN (dX 2 dV) (dS (mV 0) (dS (mC (D.int 7)) dU)))) (gN 1))
  (fu (eQ (dS (mN (dX 2 dV) (dS (mV 0) (dS (mC (D.int 3)) dU))) (dS (m2 (b2 dW) (eQ (dS (mC (D.str "leave")) (dS (mC (D.str "leave")) (dS (mC (D.str "mark")) (dS (mC (D.str "wipe")) dU))))) (mN (dX 2 dV) (dS (mV 0) (dS (mC (D.int 4)) dU)))) (dS (mV 1) dU))))))
noncomputable def gj:FN:=iF 2 lS
theorem qa {f:dE}(F:eM K "_law_deed" lB f)(a:fO P w K mg base 1 "_law_take" 2 dV):
  fO P w K mg base 2 "_law_deed" 1 gj:=xq ["_law_hand_here","_law_step"] X G F λb=>
 (qF (sq (jq (ed (qA ge (qA qK (qA qK (qA qK (a3 qK qK qK)))))) (wn a (a2 xv qK)))) (qG (qU (ed (a3 (wn a (a2 xv qK)) (jq (ed (qA eE (a3 eE eE eE))) (wn a (a2 xv qK))) xv)))))
abbrev yv:dQ:=top 8
noncomputable def As:FS:=(d9 (eh (mN (dX 3 kh) (dS (mV 0) (dS (m2 (b2 dW) (mV 1) (mC (D.int 0))) (dS (mV 2) dU)))) (gN 3))
  (fu (mN (dX 3 kk) (dS (mV 0) (dS (mV 2) (dS (e6 2 [1] (iJ (mV 3)) (gT 2 (gCs (gN 0) (gCs (gN 1) gNl))) gu (eI (mN (dX 3 f0) (dS (mV 2) (dS (mV 0) (dS (mV 1) dU)))))) dU))))))
noncomputable def m3:FN:=iF 4 As
theorem Br {f:dE}(F:eM K "beat" yv f)(c:fO P w K mg base 2 "deed_of" 3 f0)(a:fO P w K mg base 2 "moved" 3 kk)(b:fO P w K mg base 2 "wants" 3 kh):
  fO P w K mg base 3 "beat" 3 m3:=xq ["web","machine","whole","wanted"] X G F λd=>
 (qF (sq (wn b (a3 xv (jq xv qK) xv))) (qG (qU (wn a (a3 xv xv (fk ["mood","sight"] (qd xv) ⟨(tg2 gq gq),fK,(wn c (a3 xv xv xv))⟩))))))
abbrev mH:dQ:=top 19
noncomputable def iz:FS:=(d9 (eh (e6 1 [3] (uw (dS (mV 5) dU)) (gN 0) (mB (m2 (b2 xG) (mN (b1 eS) (dS (m2 (b2 dW) (mV 1) (mV 0)) dU)) (mC (D.int 4)))) (eI (mV 0))) (gN 6))
  (fi (mN (dX 5 fQ) (dS (mV 0) (dS (mV 3) (dS (mV 4) (dS (m2 (b2 dW) (mV 6) (mN (dX 2 dV) (dS (mV 0) (dS (mN (b1 eS) (dS (mV 6) dU)) dU)))) (dS (mV 5) dU))))))))
noncomputable def iy:FS:=(d9 (eh (eQ (dS (mN (dX 2 dV) (dS (mV 0) (dS (mV 2) dU))) (dS (mN (dX 2 dV) (dS (mV 0) (dS (mV 2) dU))) dU))) (gT 2 (gCs (gN 8) (gCs (gN 9) gNl))))
  (hL (se (mB (m2 (b2 xG) (mN (b1 eS) (dS (m2 (b2 dW) (mV 3) (mV 8)) dU)) (mC (D.int 4)))) (mB (m2 (b2 xG) (mN (b1 eS) (dS (m2 (b2 dW) (mV 3) (mV 9)) dU)) (m2 (b2 gSub) (mC (D.int 4)) (mN (b1 nV) (dS (m2 (b2 oT) (mV 8) (mV 9)) dU)))))) (fi (mN (dX 5 fQ) (dS (mV 0) (dS (mV 3) (dS (mV 4) (dS (mV 8) (dS (mV 9) dU))))))) q0))
noncomputable def nG:FS:=(d9 (eh (m2 (b2 fS) (mC (D.int 1)) (mN (dX 2 dV) (dS (mV 0) (dS (mV 1) dU)))) (gN 2))
  (d9 (eh (eQ (dS (e6 1 [] (uw (dS (mV 2) dU)) (gN 0) gu (eI (jE dU))) (dS (jE dU) dU))) (gT 2 (gCs (gN 3) (gCs (gN 4) gNl))))
  (d9 (iW (GJ (dS (mC (D.int 1)) (dS (mV 2) dU))) (gN 5) iz)
  (d9 (iW (uw (dS (mN (dX 2 dV) (dS (mV 0) (dS (mC (D.int 7)) dU))) dU)) (gN 7) iy)
  (fu (mN (b1 gTup) (dS (e6 1 [3,4] (iJ (mV 3)) (gN 0) gu (eI (mN (b1 gTup) (dS (e6 1 [1,2] (iJ (mV 0)) (gN 0) gu (eI (mN (dX 3 ga) (dS (mV 1) (dS (mV 2) (dS (mV 0) dU)))))) dU)))) dU)))))))
noncomputable def gM:FN:=iF 10 nG
theorem rP {f:dE}(F:eM K "_law_web" mH f)(c:fO P w K mg base 1 "_law_far" 3 ga)(b:fO P w K mg base 1 "_law_take" 2 dV)(a:fO P w K mg base 2 "_law_tie" 5 fQ):
  fO P w K mg base 3 "_law_web" 2 gM:=xq ["_law_hand_here","_law_most","_law_many","_law_ends","_law_pairs","_law_room","_law_some","_law_turn","_law_one","_law_other"] X G F λd=>
 (qF (sq (qI fT qK (wn b (a2 xv xv)))) (qF (qR (ed (a2 (fk ["_law_room"] (ir (a1 xv)) ⟨gq,fK,(gz qN)⟩) (gz qN))) (tg2 gq gq)) (qF (fo (tK O (bz B) (a2 qK xv)) gq (qF (gE 6 O (T:=["_law_one"]) (keep:=[3]) ⟨O,by decide+kernel,(kc "_law_ends" (cS _))⟩ O (ir (a1 xv)) (λ_ _ _=>⟨gq,(fA (ct (oq lI) (cn fy (a1 (jq xv xv))) qK)),xv⟩) (g0 O) O (by first|exact Or.inl rfl|exact Or.inr rfl)) (qG (jM (wn a (qA xv (qA xv (a3 xv (jq xv (wn b (a2 xv (cn fy (a1 xv))))) xv)))))))) (qF (fo (ir (a1 (wn b (a2 xv qK)))) gq (qF (l7 8 9 rfl (g0 rfl) rfl rfl (by decide) rfl rfl (a2 (wn b (a2 xv xv)) (wn b (a2 xv xv)))) (qG (qV (lp (jL (ct (oq lI) (cn fy (a1 (jq xv xv))) qK) (iL (ct (oq lI) (cn fy (a1 (jq xv xv))) (qI y1 qK (cz v6 (a1 (ce (oq k7) xv xv)))))))) (qG (jM (wn a (qA xv (qA xv (a3 xv xv xv)))))) qQ)))) (qG (qU (cz fb (a1 (fk ["_law_row"] (qd xv) ⟨gq,fK,(cz fb (a1 (fk ["_law_end"] (qd xv) ⟨gq,fK,(wn c (a3 xv xv xv))⟩)))⟩)))))))))
abbrev jX:dQ:=top 26
noncomputable def iU:FS:=(d9 (eh (eQ (dS (m2 (b2 dW) (m2 (b2 dW) (m2 (b2 dW) (mV 4) (mC (D.int 0))) (mV 5)) (mC (D.int 2))) (dS (mN (dX 4 eX) (dS (mV 1) (dS (mV 2) (dS (mV 4) (dS (mV 5) dU))))) dU))) (gN 6))
  (hL (mB (m2 (b2 jl) (mV 6) (mV 3))) (d9 (eh (mC D.non) (gS (b3 i4) (mV 3) (mV 6)))
  (hL (mB (m2 (b2 (iK λi j=>decide (j<i))) (mN (dX 2 dV) (dS (mV 0) (dS (mC (D.int 12)) dU))) (mC (D.int 0)))) (eh (mN (dX 1 gj) (dS (mV 0) dU)) (gS (b3 i4) (mV 3) (mV 6))) q0)) q0))
noncomputable def kP:FS:=(iW (uw (dS (mN (b1 eS) (dS (m2 (b2 dW) (mV 4) (mC (D.int 0))) dU)) dU)) (gN 5) iU)
noncomputable def fU:FN:=iF 7 kP
theorem nR {f:dE}(F:eM K "_law_grown" jX f)(a:fO P w K mg base 2 "_law_deed" 1 gj)(e:fO P w K mg base 1 "_law_sight" 4 eX)(d:fO P w K mg base 1 "_law_take" 2 dV):
  fO P w K mg base 3 "_law_grown" 5 fU:=xq ["_law_hand_here","_law_web_here","_law_eyes","_law_rows","_law_whole","_law_k","_law_asked"] X G F (hb:=λ_ _ _ _ _ _ g c=>HA c λ_ _ _ _ _=>rfl) λb=>
 (qG (fo (ir (a1 (cn fy (a1 (jq xv qK))))) gq (qF (sq (ed (a2 (jq (jq (jq xv qK) xv) qK) (wn e (qA xv (a3 xv xv xv)))))) (qG (qV (ct (oq za) xv xv (by with_unfolding_all rfl)) (qF (qR ge (l8 xv xv (pU b.units))) (qG (qV (ct zd (wn d (a2 xv qK)) qK) (qG (qR (wn a (a1 xv)) (l8 xv xv (pU b.units)))) qQ))) qQ)))))
abbrev rA:dQ:=top 13
noncomputable def mT:FS:=(fi (oI (b2 js) (mV 4) (dS (mN (dX 3 m3) (dS (mV 0) (dS (mV 1) (dS (m2 (b2 dW) (mV 4) (m1 (b1 sD) (mC (D.int 1)))) dU)))) dU)))
noncomputable def s7:FS:=(d9 (eh (jE (dS (mN (dX 1 km) (dS (mV 2) dU)) dU)) (gN 4))
  (d9 (iW (uw (dS (mV 3) dU)) (gN 5) mT)
  (fu (mN (b1 gTup) (dS (mV 4) dU)))))
noncomputable def iV:FN:=iF 6 s7
theorem wF {f:dE}(F:eM K "walked" rA f)(b:fO P w K mg base 3 "beat" 3 m3)(a:fO P w K mg base 1 "begun" 1 km):
  fO P w K mg base 4 "walked" 4 iV:=xq ["web","machine","standing","beats","wholes","k"] X G F λc=>
 (qF (sq (gz (a1 (wn a (a1 xv))))) (qF (fo (ir (a1 xv)) gq (qG (lq ap xv (a1 (wn b (a3 xv xv (jq xv (xQ CN qK)))))))) (qG (qU (cz fb (a1 xv))))))
abbrev gW:dQ:=top 27
noncomputable def gt:FS:=(d9 (fi (mN (dX 5 fU) (dS (mV 0) (dS (mV 1) (dS (mV 2) (dS (mV 5) (dS (m2 (b2 dW) (mV 6) (mV 7)) dU)))))))
  (d9 (eh (mN (b1 no) (dS (lj 1 [5] (mV 5) (gN 0) (mB (m2 (b2 hA) (m2 (b2 dW) (mV 1) (mV 0)) (mC D.non))) (eI (eQ (dS (mV 0) (dS (m2 (b2 dW) (mV 1) (mV 0)) dU))))) dU)) (gN 8))
  (fi (oI (b2 js) (mV 6) (dS (mN (dX 4 gk) (dS (mV 1) (dS (mV 2) (dS (mV 8) (dS (m2 (b2 dW) (mV 6) (mV 7)) dU))))) dU)))))
noncomputable def hE:FS:=(d9 (eh (eQ (dS zv (dS (jE (dS (eQ (dS (mN (b1 gTup) (dS (e6 1 [] (iJ (m2 (b2 dW) (mV 3) (mC (D.int 0)))) (gN 0) gu (eI (eQ (dS (mV 0) (dS (mC (D.int 0)) (dS (mC (D.int 0)) dU)))))) dU)) (dS (m2 (b2 dW) (mV 3) (mC (D.int 1))) dU))) dU)) dU))) (gT 2 (gCs (gN 5) (gCs (gN 6) gNl))))
  (d9 (iW (uw (dS (mV 4) dU)) (gN 7) gt)
  (d9 (eh (eQ (dS (mV 2) (dS (mN (b1 gTup) (dS (mN (b1 nk) (dS (lj 1 [5] (mV 5) (gN 0) (mB (m2 (b2 hA) (m2 (b2 dW) (mV 1) (mV 0)) (mC D.non))) (eI (eQ (dS (mV 0) (dS (m2 (b2 dW) (mV 1) (mV 0)) dU))))) dU)) dU)) dU))) (gN 9))
  (fu (eQ (dS (mV 9) (dS (mV 6) dU)))))))
noncomputable def eH:FN:=iF 10 hE
theorem jC {f:dE}(F:eM K "_law_drawn_walk" gW f)(b:fO P w K mg base 2 "_law_beat" 4 gk)(a:fO P w K mg base 3 "_law_grown" 5 fU):
  fO P w K mg base 4 "_law_drawn_walk" 5 eH:=xq ["_law_hand_here","_law_web_here","_law_eyes","_law_standing_here","_law_beats","_law_rows","_law_wholes","_law_turn","_law_there","_law_machine"] X G F (hb:=λ_ _ _ _ _ _ e d=>HA d λ_ _ _ _ _=>rfl) λc=>
 (qF (qR (ed (a2 xT (gz (a1 (ed (a2 (cz fb (a1 (fk ["_law_room"] (qd (jq xv qK)) ⟨gq,fK,(ed (a3 xv qK qK))⟩))) (jq xv qK))))))) (tg2 gq gq)) (qF (fo (ir (a1 xv)) gq (qF (jM (wn a (qA xv (qA xv (a3 xv xv (jq xv xv)))))) (qF (sq (cz (Cp c) (a1 (oe O (T:=["_law_asked"]) (keep:=[5]) ⟨O,by decide+kernel,(kc "_law_rows" (cS _))⟩ O xv (λ_ _ _=>⟨gq,(fA (ct mX (jq xv xv) ge)),(ed (a2 xv (jq xv xv)))⟩))))) (qG (lq ap xv (a1 (wn b (qA xv (a3 xv xv (jq xv xv)))))))))) (qF (sq (ed (a2 xv (cz fb (a1 (cn (Cn c.units) (a1 (oe O (T:=["_law_asked"]) (keep:=[5]) ⟨O,by decide+kernel,(kc "_law_rows" (cS _))⟩ O xv (λ_ _ _=>⟨gq,(fA (ct mX (jq xv xv) ge)),(ed (a2 xv (jq xv xv)))⟩))))))))) (qG (qU (ed (a2 xv xv)))))))
abbrev jW:dQ:=top 28
noncomputable def kN:FS:=(fu (m2 (b2 oT) (mN (b1 nl) (dS (mN (dX 4 iV) (dS (mV 0) (dS (mV 1) (dS (mV 2) (dS (mV 4) dU))))) dU)) (mN (b1 nl) (dS (mN (b1 gTup) (dS (wN (mV 3) mY (rS (m2 (b2 fS) (mV 4) (mC (D.int 1))))) dU)) dU))))
noncomputable def fm:FN:=iF 5 kN
theorem nQ {f:dE}(F:eM K "_law_right" jW f)(a:fO P w K mg base 4 "walked" 4 iV):
  fO P w K mg base 5 "_law_right" 5 fm:=xq ["_law_web_here","_law_machine","_law_standing_here","_law_wholes","_law_beats"] X G F (hb:=λ_ _ _ _ _ _ d c=>HA c λ_ _ _ _ _=>rfl) λb=>
 (qG (qU (ce (oq k7) (cn (Ao b) (a1 (wn a (qA xv (a3 xv xv xv))))) (cn (Ao b) (a1 (cz fb (a1 (tN xv xO (xN (qI fT xv qK))))))))))
abbrev rB:dQ:=top 29
noncomputable def p7:FS:=(d9 (eh (mN (dX 2 fD) (dS (mV 0) (dS (mV 2) dU))) (gN 3))
  (d9 (eh (eQ (dS (mN (dX 2 (apart gM)) (dS (mV 3) (dS (mC (D.int 8)) dU))) (dS (mN (dX 1 (apart fc)) (dS (mV 3) dU)) dU))) (gT 2 (gCs (gN 4) (gCs (gN 5) gNl))))
  (d9 (eh (mN (dX 3 (apart ft)) (dS (mV 3) (dS (mN (b1 eS) (dS (mV 4) dU)) (dS (mC (D.int 4)) dU)))) (gN 6))
  (d9 (eh (mN (dX 2 (apart dV)) (dS (mV 3) (dS (mC (D.int 31)) dU))) (gN 7))
  (d9 (hL (se (mB (m2 (b2 oT) (mV 2) (mC (D.int 0)))) (mB (m2 (b2 oT) (mN (dX 2 (apart dV)) (dS (mV 3) (dS (mC (D.int 16)) dU))) (mC (D.int 0))))) (eh (mC (D.int 400)) (gN 7)) q0)
  (d9 (eh (mN (dX 5 (apart eH)) (dS (mV 3) (dS (mV 4) (dS (mV 5) (dS (mV 6) (dS (mV 7) dU)))))) (gT 2 (gCs (gN 8) (gCs (gN 9) gNl))))
  (d9 (hL (wO (Gw (mN (dX 5 fm) (dS (mV 4) (dS (mV 8) (dS (mV 6) (dS (mV 9) (dS (mV 7) dU)))))))) (fu (mC (D.bl J))) q0)
  (d9 (fi (oI (b2 js) (mV 1) (dS (eQ (dS (mV 4) (dS (mV 8) (dS (mV 6) (dS (mV 9) (dS (mN (dX 2 (apart dV)) (dS (mV 3) (dS (m2 (b2 fS) (mV 7) (mC (D.int 1))) dU))) dU)))))) dU)))
  (d9 (eh (eQ (dS (zr (dS (mN (b1 eS) (dS (mV 4) dU)) dU)) (dS (m2 (b2 dW) (mV 6) (mC (D.int 1))) dU))) (gN 6))
  (d9 (eh (mN (dX 5 (apart eH)) (dS (mV 3) (dS (mV 4) (dS (mV 5) (dS (mV 6) (dS (mC (D.int 8)) dU)))))) (gT 2 (gCs (gN 8) (gCs (gN 9) gNl))))
  (fi (oI (b2 js) (mV 1) (dS (eQ (dS (mV 4) (dS (mV 8) (dS (mV 6) (dS (mV 9) (dS (mC (D.int 8)) dU)))))) dU)))))))))))))
noncomputable def pZ:FS:=(hL (Fp (wO (Gw (mN (dX 5 fm) (dS (mV 4) (dS (mV 8) (dS (mV 6) (dS (mV 9) (dS (mV 10) dU)))))))) (wO (Gw (mN (dX 5 fm) (dS (mV 4) (dS (mV 8) (dS (mV 6) (dS (mV 9) (dS (mC (D.int 0)) dU))))))))) (fu (mC (D.bl J))) q0)
noncomputable def Ar:FS:=(d9 (eh (jE dU) (gN 1))
  (d9 (iW (uw (dS (mN (b2 B7) (dS (mC (D.int 1)) (dS (mN (b2 B6) (dS (mC (D.int 4)) (dS (mN (b1 eS) (dS (mV 0) dU)) dU))) dU))) dU)) (gN 2) p7)
  (d9 (iW (iJ (m2 (b2 fS) (mV 1) (oH (mV 1) (m1 (b1 sD) (mC (D.int 1)))))) (gT 5 (gCs (gN 4) (gCs (gN 8) (gCs (gN 6) (gCs (gN 9) (gCs (gN 10) gNl)))))) pZ)
  (fu (mC (D.bl M))))))
noncomputable def m_law:FN:=iF 11 Ar
theorem Ea {f:dE}{fd:dP}(F:xJ K "law" "law" rB f fd)(d:fO P w K mg base 4 "_law_drawn_walk" 5 eH)(g:fO P w K mg base 1 "_law_hand" 2 fD)(c:fO P w K mg base 5 "_law_right" 5 fm)(j:fO P w K mg base 2 "_law_some_eyes" 1 fc)(h:fO P w K mg base 2 "_law_standing" 3 ft)(i:fO P w K mg base 1 "_law_take" 2 dV)(l:fO P w K mg base 3 "_law_web" 2 gM):
  ju P w K mg base tw 6 f fd ["_law_script"] (AD K 1 m_law):=C5 (k:=5) (n:=1) (N:=["_law_script","_law_kept","_law_k","_law_hand_here","_law_web_here","_law_eyes","_law_standing_here","_law_beats","_law_machine","_law_wholes","_law_few"]) (ps:=["_law_script"]) (b:=Ar) F sk O λm A e s H E a=>
 (qF (sq (gz qN)) (qF (fo (ir (a1 (cn (G9 O) (a2 qK (cn (G8 O) (a2 qK (cn fy (a1 xv)))))))) gq (qF (sq (wn g (a2 xv xv))) (qF (l7 4 5 O (g0 O) O O (by decide) O O (a2 (qH l.ap a (by first|decide|omega) rfl (a2 xv qK)) (qH j.ap a (by first|decide|omega) rfl (a1 xv)))) (qF (sq (qH h.ap a (by first|decide|omega) rfl (a3 xv (cn fy (a1 xv)) qK))) (qF (sq (qH i.ap a (by first|decide|omega) rfl (a2 xv qK))) (qF (qV (lp (jL (ct (oq k7) xv qK) (iL (ct (oq k7) (qH i.ap a (by first|decide|omega) rfl (a2 xv qK)) qK)))) (qG (sq qK)) qQ) (qF (qR (qH d.ap a (by first|decide|omega) rfl (qA xv (qA xv (a3 xv xv xv)))) (tg2 gq gq)) (qF (qV (pE (pC (wn c (qA xv (qA xv (a3 xv xv xv)))))) (qG (qU tP)) qQ) (qF (lq ap xv (a1 (ed (qA xv (qA xv (a3 xv xv (qH i.ap a (by first|decide|omega) rfl (a2 xv (qI fT xv qK))))))))) (qF (sq (ed (a2 (xR rfl rfl (bz B) rfl (bz B) (a1 (cn fy (a1 xv)))) (jq xv qK)))) (qF (qR (qH d.ap a (by first|decide|omega) rfl (qA xv (qA xv (a3 xv xv qK)))) (tg2 gq gq)) (qG (lq ap xv (a1 (ed (qA xv (qA xv (a3 xv xv qK)))))))))))))))))) (qF (fo (qd (qI fT xv (ra xv (xQ CN qK)))) (gR rfl (d8 gq (d8 gq (d8 gq (d8 gq (d8 gq gi)))))) (qG (qV (lp (tJ (pE (pC (wn c (qA xv (qA xv (a3 xv xv xv)))))) (pB (pE (pC (wn c (qA xv (qA xv (a3 xv xv qK))))))))) (qG (qU tP)) qQ))) (qG (qU tP)))))
end
theorem all_mk {l:PySem.W.OpenLaw}{w:dH}{K:Fg1}{h:dN}{mg:Str->Option dB}{fa f1 f2 f3 f4 f5 f6 f7 f8 f9 f10 f11 f12 Q o I aq f17 am f19 ao n f22 f23 N U:dE}(X:K.In h)(G:h.Ns dI mg)(F:mg "law"=some (.ref fa))
  {g1 g2 g5 g8 b:dE}
  {t3 t4 t6 t7 t9 T t12 t13:Tok}
  {u m od8 c od1:Option dE} {n2 n5 n8 R n1:Nat} {wq sl5 y d p:Array (Option dB)}
  (a1:eM K "first_of" mG f1)
  (a2:eM K "begun" u8 f2)
  (a3:eM K "sight_of" mF f3)
  (a4:eM K "handled" om f4)
  (a5:eM K "stepped" ol f5)
  (a6:eM K "_law_hand" lA f6)
  (a7:eM K "_law_take" lz f7)
  (a8:eM K "_law_far" mJ f8)
  (a9:eM K "_law_sight" jV f9)
  (a10:eM K "_law_chalked" iQ f10)
  (a11:eM K "deed_of" oo f11)
  (q:eM K "wants" u6 f12)
  (x:eM K "moved" u7 Q)
  (a14:eM K "_law_tie" mI o)
  (E:eM K "_law_standing" iG I)
  (L:eM K "_law_some_eyes" ig aq)
  (au:eM K "_law_beat" lC f17)
  (a18:eM K "_law_deed" lB am)
  (a19:eM K "beat" yv f19)
  (D:eM K "_law_web" mH ao)
  (H:eM K "_law_grown" jX n)
  (a22:eM K "walked" rA f22)
  (W:eM K "_law_drawn_walk" gW f23)
  (a24:eM K "_law_right" jW N)
  (f:eM K "law" rB U)
  (e_PARTS:wN1 K dI "PARTS"=Z (Z (Value.ref g1)))
  (h1:K.lookup g1=Z ⟨.type "tuple",od1,.seq ([(Value.ref g2),(Value.ref g5),(Value.ref g8),(Value.ref b)]:List dB).toArray n1,p⟩)
  (h2:K.lookup g2=Z ⟨.type "tuple",u,.seq ([(Value.str "came" t3),(Value.int (5) t4)]:List dB).toArray n2,wq⟩)
  (h5:K.lookup g5=Z ⟨.type "tuple",m,.seq ([(Value.str "chalk" t6),(Value.int (2) t7)]:List dB).toArray n5,sl5⟩)
  (h8:K.lookup g8=Z ⟨.type "tuple",od8,.seq ([(Value.str "doors" t9),(Value.int (5) T)]:List dB).toArray n8,y⟩)
  (h11:K.lookup b=Z ⟨.type "tuple",c,.seq ([(Value.str "others" t12),(Value.int (2) t13)]:List dB).toArray R,d⟩)
  (z:Hl K BL):∃fd:dP,(∀(s:dD) (v:dB),BindsTo s fd ⟨[v],[]⟩ [("_law_script",v)]) /\ ∀base:dN,K.In base->base.Ns dI mg->ju l.prog w K mg base tw 6 fa fd ["_law_script"] (AD K 1 m_law):=by
 have e:=F.symm.trans (wM1 X G f.ns);cases e;have B:Blt BL mg:=z.blt X G;have c0:CGl K mg "PARTS" mj:=E6 (wM1 X G e_PARTS) (nB h1 (by show 4<=dL;decide) (fx (nB h2 (by show 2<=dL;decide) (fx qy (fx qz kJ))) (fx (nB h5 (by show 2<=dL;decide) (fx qy (fx qz kJ))) (fx (nB h8 (by show 2<=dL;decide) (fx qy (fx qz kJ))) (fx (nB h11 (by show 2<=dL;decide) (fx qy (fx qz kJ))) kJ)))));obtain⟨_,⟨⟨_,_,kV,dc,pm,an,cd,ct,_,rfl,lL,cL⟩,kL⟩⟩:=f.fn;refine⟨wF1 "law" "law" (hC rB) (fq rB) (ec rB) .none kV dc pm an cd ct,λs v=>.of_eq O,λbase _ _=>?_⟩;have o0:=rO (P:=l.prog) (w:=w) (base:=base) X G B a1;have o14:=yZ (P:=l.prog) (w:=w) (base:=base) X G B a2;have o1:=rM (P:=l.prog) (w:=w) (base:=base) X G B a3 c0;have o2:=ui (P:=l.prog) (w:=w) (base:=base) X G B a4;have o3:=uh (P:=l.prog) (w:=w) (base:=base) X G B a5;have o19:=p9 (P:=l.prog) (w:=w) (base:=base) X G B a6;have a:=p8 (P:=l.prog) (w:=w) (base:=base) X G B a7;have A:=rR (P:=l.prog) (w:=w) (base:=base) X G B a8;have o6:=nP (P:=l.prog) (w:=w) (base:=base) X G B a9;have o5:=lX (P:=l.prog) (w:=w) (base:=base) X G B a10;have o7:=uj X G B a11 o0;have o9:=yX X G B q o1;have o8:=yY X G B x o2 o3;have o11:=rQ X G B a14 a;have g:=k6 X G B E a;have C:=kb X G B L a;have k:=qc X G B au o5 o6;have o12:=qa X G B a18 a;have V:=Br X G B a19 o7 o8 o9;have r:=rP X G B D A a o11;have t:=nR X G B H o12 o6 a;have i:=wF X G B a22 V o14;have j:=jC X G B W k t;have S:=nQ X G B a24 i;exact Ea (P:=l.prog) (w:=w) (base:=base) X G B (zV lL cL kL) j o19 S C g a r
noncomputable def hnd(g m c:Int):Ob:=.lst [.int g,.int m,.int c]
noncomputable def Eo(m c:Int):Int:=(m+65537*c*c+11)*48271%2305843009213693921
noncomputable def zl(m c:Int):Int:=Eo m c*(Eo m c%1000003+99991*c)%2305843009213693907
theorem Hb{a b c:D}:tE [a,b,c] 0=Z a:=by rfl
theorem IE{a b c:D}:tE [a,b,c] 1=Z b:=by rfl
theorem ID{a b c:D}:tE [a,b,c] 2=Z c:=by rfl
theorem Dl{T:Sto}{g m c k:Int}(hg:0<g)(hk:0<k)(a:k<1073741824):
  dV [.ref 0,.int k] (hnd g m c::T)=Z (.int (g%k),hnd (g/k) m c::T):=by
 simp[dV,iF,hH,i9,d9,hL,mB,m2,b2,iK,mV,mC,dW,lh,zS,d6,hnd,hg,hk,a,eh,gN,kA,nW,gS,b3,i4,lK,jG,fu,Hb,vE]
theorem Dk{T:Sto}{g m c k:Int}(hg:¬ 0<g)(hk:0<k)(a:k<1073741824)(hc:0<=c)(f:c<2^60):
  dV [.ref 0,.int k] (hnd g m c::T)=Z (.int ((zl m (c+1)/97+zl m (c+1)/1000033)%k),hnd g m (c+1)::T):=by
 have b:eR 65537 (c+1)=M:=oF (by decide) (by decide);have e:eR (65537*(c+1)) (c+1)=M:=vr (by omega) (by omega);have i:eR (m+65537*(c+1)*(c+1)+11) 48271=M:=vr (by decide) (by decide);have h:eR 99991 (c+1)=M:=oF (by decide) (by decide);have q:=Int.emod_lt_of_pos ((m+65537*(c+1)*(c+1)+11)*48271) (show(0:Int)<2305843009213693921 by decide);have j:=Int.emod_nonneg ((m+65537*(c+1)*(c+1)+11)*48271) (show(2305843009213693921:Int)≠0 by decide);have d:eR ((m+65537*(c+1)*(c+1)+11)*48271%2305843009213693921) ((m+65537*(c+1)*(c+1)+11)*48271%2305843009213693921%1000003+99991*(c+1))=M:=oF (by omega) (by omega);simp[dV,iF,hH,i9,d9,hL,mB,m2,b2,iK,mV,mC,dW,lh,zS,d6,hnd,hg,hk,a,eh,gN,kA,nW,gS,b3,i4,lK,jG,fu,Hb,IE,ID,vE,q0,fS,jr,b,e,i,h,d,Eo,zl]
def fY(o:Ob)(n:Nat):Prop:=∃g m c:Int,o=hnd g m c/\0<=c/\c<=n
theorem fY.und{o:Ob}{n k:Nat}(h:fY o n):o.und k=M:=by
 obtain⟨g,m,c,rfl,_⟩:=h;rfl
theorem fY.more{o:Ob}{n k:Nat}(h:fY o n)(hk:n<=k):fY o k:=by
 obtain⟨g,m,c,e,a,h1⟩:=h;exact⟨g,m,c,e,a,by lia⟩
theorem fB{o:Ob}{n:Nat}{k:Int}{T:Sto}{Q:D×Sto->Prop}(ho:fY o n)(hn:n<=2^50)(hk:0<k)(a:k<1073741824)(h:∀(d:Nat) o',fY o' (n+1)->(d:Int)<k->Q (.int d,o'::T)):W (dX 2 dV [.ref 0,.int k] (o::T)) Q:=by
 obtain⟨g,m,c,rfl,f,h1⟩:=ho;have call:∀d o',dV [.ref 0,.int k] (hnd g m c::T)=Z (d,o'::T)->dX 2 dV [.ref 0,.int k] (hnd g m c::T)=Z (d,o'::T):=λd o e=>lm e O (by simp[D.unds,D.und]) (by simp);by_cases i:0<g
 ·have b:=Int.emod_nonneg g (show k≠0 by lia);obtain⟨d,e⟩:=Int.eq_ofNat_of_zero_le b;refine⟨_,call _ _ (Dl i hk a),?_⟩;rw[e];exact h d _ ⟨_,_,_,O,f,by lia⟩ (by rw[<- e];exact Int.emod_lt_of_pos _ hk)
 ·have b:=Int.emod_nonneg (zl m (c+1)/97+zl m (c+1)/1000033) (show k≠0 by lia);obtain⟨d,e⟩:=Int.eq_ofNat_of_zero_le b;refine⟨_,call _ _ (Dk i hk a f (by lia)),?_⟩;rw[e];exact h d _ ⟨_,_,_,O,by lia,by push_cast;lia⟩ (by rw[<- e];exact Int.emod_lt_of_pos _ hk)
theorem zO(ns:List Int)(k:Int)(h0:0<=k)(hk:k<63):∃g m,fD [.rol (ns.map D.int),.int k] []=Z (.ref 0,[hnd g m 0]):=by
 have h:eR (10^60) (10^30)=M:=by decide+kernel
 have c:eR 7919 k=M:=oF (by decide) (by decide);have f:eR 0 0=M:=oF (by decide) (by decide);have d:∀(x:Int) (b:Prop) [Decidable b],eR x (if b then 1 else 0)=M:=λx b _=>by
  split
  ·exact vr (by decide) (by decide)
  ·exact vr (by decide) (by decide)
 have lt:xG (.int k) (.int ns.length) []=Z (.bl (decide (k<ns.length)),[]):=by rfl
 by_cases e:k<ns.length
 ·have a:tE (ns.map D.int) k=some (.int (ns[k.toNat]'(by lia))):=by
   unfold tE vE;rw[ak h0,ak (by simpa using e)];simp[show k.toNat<ns.length by lia]
  generalize i:ns[k.toNat]'(by lia)=x at a
  simp[fD,iF,hH,ja,d9,hL,mB,m2,b2,b1,mN,dS,dU,iK,mV,mC,dW,lh,zS,eS,d6,eh,gN,kA,jr,fS,uz,nV,fu,jE,lt,e,a,c,d,dL,hnd,q0];simp[show eR 1000000000000000000000000000000000000000000000000000000000000 1000000000000000000000000000000=M from h,c,d]
 ·simp[fD,iF,hH,ja,d9,hL,mB,m2,b2,b1,mN,dS,dU,iK,mV,mC,dW,lh,zS,eS,d6,eh,gN,kA,jr,fS,uz,nV,fu,jE,lt,e,c,d,dL,hnd,q0];simp[show eR 1000000000000000000000000000000000000000000000000000000000000 1000000000000000000000000000000=M from h,f,c,d]
noncomputable def ins(k:Nat)(e:Nat×Nat)(row:List (Nat×Nat)):List (Nat×Nat):=row.take k++e::row.drop k
theorem ku{k:Nat}{e:Nat×Nat}{row:List (Nat×Nat)}:(ins k e row).length=row.length+1:=by
 unfold ins;rw[lA1,lC1,aQ,aV];lia
theorem mem_ins{k:Nat}{e x:Nat×Nat}{row:List (Nat×Nat)}:x∈ins k e row↔x=e\/x∈row:=by
 unfold ins;rw[aG,aF]
 conv=>rhs;rhs;rw[<- cK k row,aG]
 constructor
 ·rintro(h|h|h)
  ·exact .inr (.inl h)
  ·exact .inl h
  ·exact .inr (.inr h)
 ·rintro(h|h|h)
  ·exact .inr (.inl h)
  ·exact .inl h
  ·exact .inr (.inr h)
theorem vF{k:Nat}{e:Nat×Nat}{row:List (Nat×Nat)}:(row.map pD).take k++pD e::(row.map pD).drop k=(ins k e row).map pD:=by
 unfold ins;rw[cG,mP1,List.map_take,List.map_drop]
theorem je{t m i:Nat}{T:Sto}{E:List (List (Nat×Nat))}{P:List (Nat×Nat)}{U:Sto}{o:Ob}{Q:D×Sto->Prop}(w:WS t m T E P U)(hi:i<m)(q:Q (.ref (t+i+1),o::U)):W (dW (.ref (t+m+1)) (.int i) (o::U)) Q:=
 tj (xs:=jB (t+1) m) (x:=.ref (t+i+1)) (by rw[gC1];exact w.ends) (by rw[pW hi];congr 2;lia) q
theorem ye{t m a b n:Nat}{T:Sto}{E:List (List (Nat×Nat))}{P:List (Nat×Nat)}{U:Sto}{o:Ob}{Q:D×Sto->Prop}(w:WS t m T E P U)(ho:fY o n)(hn:n<=2^45)(ha:a<m)(hb:b<m){f:List (Nat×Nat)}(u:E[a]? = some f)(am:f.length<100)(H:∀ rb,E[b]? = some rb->rb.length<100)(L:P.length<500)(h:∀g i rb o' A,fY o' (n+2)->(E.set a (ins g (P.length,0) f))[b]?=some rb->WS t m T ((E.set a (ins g (P.length,0) f)).set b (ins i (P.length,1) rb)) (P++[(a,b)]) A->Q (.non,o'::A)):
  W (dX 5 fQ [.ref 0,.ref (t+m+1),.ref (t+m+2),.int a,.int b] (o::U)) Q:=by
 have key:W (fQ [.ref 0,.ref (t+m+1),.ref (t+m+2),.int a,.int b] (o::U)) λp=>p.2.length=(o::U).length/\Q p:=by
  unfold fQ;refine nr ?_;unfold nH;refine eF (λr S=>∃g o',fY o' (n+1)/\r=[Z (.ref 0),Z (.ref (t+m+1)),Z (.ref (t+m+2)),Z (.int a),Z (.int b)]/\S=o'::U.set (t+a) (rD (ins g (P.length,0) f))) ?_ ?_
  ·walk_at"w";refine iI ?_;walk_at"w";refine je w ha ?_;refine⟨t+a+1,f.map pD,O,by rw[gC1];exact w.row a f u,?_⟩;walk_at"w";refine je w ha ?_;walk_at"w";refine eG (xs:=f.map pD) (by rw[gC1];exact w.row a f u) ?_;walk_at"w";rw[lM1,show((f.length:Int)+1)=((f.length+1:Nat):Int) by push_cast;rfl];refine fB ho (by lia) (by lia) (by lia) λg z l B=>?_;walk_at"w";refine eG (xs:=P.map pD) (by rw[gC1];exact w.prs) ?_;walk_at"w";rw[lM1];refine CZ (xs:=f.map pD) (v:=pD (P.length,0)) (k:=g) (by rw[gC1];exact w.row a f u) (by rw[lM1];lia) (by rw[lM1];lia) ?_;refine⟨g,z,l,?_⟩;rw[vF,c9];rfl
  rintro r S ⟨g,z,l,rfl,rfl⟩;have j:=w.setRow (row:=ins g (P.length,0) f) ha;obtain⟨rb,c⟩:∃rb,(E.set a (ins g (P.length,0) f))[b]?=some rb:=by
   have:b<(E.set a (ins g (P.length,0) f)).length:=by rw[j.el];exact hb
   exact⟨_,gG1 this⟩
  have G:rb.length<200:=by
   by_cases e:a=b
   ·subst e;rw[aI (by rw[w.el];exact ha)]at c;cases c;rw[ku];lia
   ·rw[gS1 e]at c;have:=H rb c;lia
  refine eF (λr S=>∃i o',fY o' (n+2)/\r=[Z (.ref 0),Z (.ref (t+m+1)),Z (.ref (t+m+2)),Z (.int a),Z (.int b)]/\S=o'::(U.set (t+a) (rD (ins g (P.length,0) f))).set (t+b) (rD (ins i (P.length,1) rb))) ?_ ?_
  ·walk_at"w";refine iI ?_;walk_at"w";refine je j hb ?_;refine⟨t+b+1,rb.map pD,O,by rw[gC1];exact j.row b rb c,?_⟩;walk_at"w";refine je j hb ?_;walk_at"w";refine eG (xs:=rb.map pD) (by rw[gC1];exact j.row b rb c) ?_;walk_at"w";rw[lM1,show((rb.length:Int)+1)=((rb.length+1:Nat):Int) by push_cast;rfl];refine fB l (by lia) (by lia) (by lia) λi x s I=>?_;walk_at"w";refine eG (xs:=P.map pD) (by rw[gC1];exact j.prs) ?_;walk_at"w";rw[lM1];refine CZ (xs:=rb.map pD) (v:=pD (P.length,1)) (k:=i) (by rw[gC1];exact j.row b rb c) (by rw[lM1];lia) (by rw[lM1];lia) ?_;refine⟨i,x,s,?_⟩;rw[vF,c9];rfl
  rintro r S ⟨i,x,s,rfl,rfl⟩;have y:=j.setRow (row:=ins i (P.length,1) rb) hb;walk_at"w";refine iI ?_;walk_at"w";refine⟨t+m+2,P.map pD,O,by rw[gC1];exact y.prs,?_⟩
  try walk_at"w"
  rw[lU (xs:=P.map pD) (by rw[gC1];exact y.prs)];refine⟨ea (by rw[lM1];lia),?_,?_⟩
  ·simp
  ·have C:=y.setPrs (P':=P++[(a,b)]);rw[c9];have e:P.map pD++[D.tup [D.int ↑a,D.int ↑b]]=(P++[(a,b)]).map pD:=by simp[pD]
   rw[e];exact h g i rb x _ s c C
 obtain⟨⟨d,K⟩,e,F,q⟩:=key;exact⟨_,lm e O O F,q⟩
abbrev ew:=List (List (Nat×Nat))
structure WI (m:Nat)(E:ew)(P:List (Nat×Nat)):Prop where
 len:E.length=m
 pr:∀(i:Nat) (p:Nat×Nat),P[i]?=some p->(∃r0,E[p.1]?=some r0/\(i,0)∈r0) /\ ∃r1,E[p.2]?=some r1/\(i,1)∈r1
 en:∀(i:Nat) (row:List (Nat×Nat)),E[i]?=some row -> ∀e∈row,e.1<P.length/\e.2<=1
 le:∀(i:Nat) (row:List (Nat×Nat)),E[i]?=some row->row.length<=4
 tt:tot E=2*P.length
theorem mE{E:ew}{i k:Nat}{e:Nat×Nat}{row:List (Nat×Nat)}(h:E[i]?=Z row){j:Nat}{r:List (Nat×Nat)}(a:E[j]?=Z r):∃r',(E.set i (ins k e row))[j]?=Z r' /\ ∀x∈r,x∈r':=by
 by_cases z:i=j
 ·subst z;rw[h]at a;cases a;exact⟨_,aI (gE1.mp h).1,λx b=>mem_ins.mpr (.inr b)⟩
 ·exact⟨r,by rw[gS1 z];exact a,λx b=>b⟩
theorem jU{E:ew}{i k:Nat}{e:Nat×Nat}{row:List (Nat×Nat)}(h:E[i]?=Z row){j:Nat}{b:List (Nat×Nat)}(a:(E.set i (ins k e row))[j]?=Z b):(i=j/\b=ins k e row)\/(i≠j/\E[j]?=Z b):=by
 by_cases z:i=j
 ·subst z;rw[aI (gE1.mp h).1]at a;cases a;exact .inl ⟨O,O⟩
 ·rw[gS1 z]at a;exact .inr ⟨z,a⟩
theorem WI.tie{m a b h r:Nat}{E:ew}{P:List (Nat×Nat)}{f v:List (Nat×Nat)}(w:WI m E P)(ha:E[a]? = some f)(am:f.length<4)(hb:(E.set a (ins h (P.length,0) f))[b]? = some v)(K:v.length<4):
  WI m ((E.set a (ins h (P.length,0) f)).set b (ins r (P.length,1) v)) (P++[(a,b)]):=by
 have a1:(E.set a (ins h (P.length,0) f))[a]?=Z (ins h (P.length,0) f):=aI (gE1.mp ha).1;refine⟨by rw[aW,aW];exact w.len,λi p q=>?_,λj c d e g=>?_,λj c d=>?_,?_⟩
 ·by_cases hi:i<P.length
  ·rw[gL1 hi]at q;obtain⟨⟨ao,C,F⟩,L,h1,m1⟩:=w.pr i p q;obtain⟨n,l,B⟩:=mE (k:=h) (e:=(P.length,0)) ha C;obtain⟨s,u,y⟩:=mE (k:=r) (e:=(P.length,1)) hb l;obtain⟨I,A,D⟩:=mE (k:=h) (e:=(P.length,0)) ha h1;obtain⟨t,o,z⟩:=mE (k:=r) (e:=(P.length,1)) hb A;exact⟨⟨s,u,y _ (B _ F)⟩,t,o,z _ (D _ m1)⟩
  ·have x:i=P.length:=by
    have:=(gE1.mp q).1;simp at this;lia
   subst x;rw[List.getElem?_concat_length]at q;cases q;obtain⟨n,l,B⟩:=mE (k:=r) (e:=(P.length,1)) hb a1;exact⟨⟨n,l,B _ (mem_ins.mpr (.inl O))⟩,_,aI (gE1.mp hb).1,mem_ins.mpr (.inl O)⟩
 ·rw [lA1,aY];have old:∀ (j:Nat) (c:List (Nat×Nat)),(E.set a (ins h (P.length,0) f))[j]? = some c -> ∀ e∈c,e.1<P.length+1/\e.2<=1:=fun j c d e g=>by
   rcases jU ha d with⟨_,rfl⟩|⟨_,d⟩
   ·rcases mem_ins.mp g with rfl|g
    ·exact⟨by simp,by simp⟩
    ·have:=w.en a f ha e g;exact⟨by lia,this.2⟩
   ·have:=w.en j c d e g;exact⟨by lia,this.2⟩
  rcases jU hb d with⟨_,rfl⟩|⟨_,d⟩
  ·rcases mem_ins.mp g with rfl|g
   ·exact⟨by simp,by simp⟩
   ·exact old b v hb e g
  ·exact old j c d e g
 ·rcases jU hb d with⟨_,rfl⟩|⟨_,d⟩
  ·rw[ku];lia
  ·rcases jU ha d with⟨_,rfl⟩|⟨_,d⟩
   ·rw[ku];lia
   ·exact w.le j c d
 ·have H:=pK (row':=ins h (P.length,0) f) ha;have G:=pK (row':=ins r (P.length,1) v) hb;have:=w.tt;rw[ku]at H G;rw[lA1,aY];lia
noncomputable def webD(w:ew):D:=.tup (w.map λrow=>.tup (row.map pD))
structure nJ (m:Nat)(w:ew):Prop where
 len:w.length=m
 le:∀row∈w,row.length<=4
 to:∀row∈w,∀e∈row,∃r,w[e.1]?=some r/\e.2<r.length
theorem fL(w:ew):(webD w).und 0=M:=by
 unfold webD;rw[D.und];exact eK λa _=>by rw[D.und];exact eK λ_ _=>rfl
noncomputable def uC(E:ew)(P:List (Nat×Nat))(e:Nat×Nat):Nat×Nat:=
 let p:=P.getD e.1 (0,0)
 let room:=if e.2=0 then p.2 else p.1
 (room,((E.getD room []).findIdx? (· == (e.1,1-e.2))).getD 0)
theorem zZ{m:Nat}{E:ew}{P:List (Nat×Nat)}(w:WI m E P){i:Nat}{row:List (Nat×Nat)}(hr:E[i]? = some row){e:Nat×Nat}(he:e∈row):
  ∃p a r j,P[e.1]?=Z p/\e.2<=1/\a=(if e.2=0 then p.2 else p.1)/\E[a]?=Z r/\r.findIdx? (· == (e.1,1-e.2))=Z j/\j<r.length/\uC E P e=(a,j):=by
 obtain⟨h1,h2⟩:=w.en i row hr e he;obtain⟨p,f⟩:∃p,P[e.1]?=some p:=⟨_,gG1 h1⟩;obtain⟨⟨l,q,s⟩,o,n,m1⟩:=w.pr _ p f;have b:∀(r:List (Nat×Nat)) (x:Nat×Nat),x∈r -> ∃j,r.findIdx? (· == x)=Z j/\j<r.length:=λr x t=>by
  cases h:r.findIdx? (· == x)with
  |none=>
   rw[List.findIdx?_eq_none_iff]at h;have:=h x t;simp at this
  |some j=>exact⟨j,O,(b8.mp h).1⟩
 by_cases g:e.2=0
 ·obtain⟨j,d,k⟩:=b o (e.1,1) m1;refine⟨p,p.2,o,j,f,h2,by rw[ak g],n,by rw[g];exact d,k,?_⟩;simp[uC,bL,f,n,g,d]
 ·have c:e.2=1:=by lia
  obtain⟨j,d,k⟩:=b l (e.1,0) s;refine⟨p,p.1,l,j,f,h2,by rw[aj g],q,by rw[c];exact d,k,?_⟩;simp[uC,bL,f,q,c,d]
theorem C9{m:Nat}{E:ew}{P:List (Nat×Nat)}(w:WI m E P):nJ m (E.map λb=>b.map (uC E P)):=by
 refine⟨by rw[lM1];exact w.len,?_,?_⟩
 ·intro b c;obtain⟨r,a,rfl⟩:=ci.mp c;obtain⟨i,hi⟩:=br a;rw[lM1];exact w.le i r hi
 ·intro b c e l;obtain⟨r,a,rfl⟩:=ci.mp c;obtain⟨i,hi⟩:=br a;obtain⟨x,n,rfl⟩:=ci.mp l;obtain⟨p,d,k,j,_,_,_,f,o,h,g⟩:=zZ w hi n;rw[g];exact⟨k.map (uC E P),by rw[gP1,f];rfl,by rw[lM1];exact h⟩
theorem ow:∀(k n:Nat),jB n (k+1)=jB n k++[.ref (n+k)]
 |0,n=>rfl
 |k+1,n=>by
  rw[jB,ow k (n+1),jB,bj,show n+1+k=n+(k+1) by lia]
theorem xU{t m:Nat}{T:Sto}(tl:T.length=t):WS t m T (aO m []) [] (T++(aO m (.lst [])++[.lst (jB (t+1) m),.lst []])):=by
 refine⟨tl,by rw[<- tl,de],by simp,λi a h=>?_,?_,?_⟩
 ·have hi:i<m:=by have:=(gE1.mp h).1;simpa using this
  rw[aR,ak hi]at h;cases h;rw[<- tl,g9,gL1 (by simpa using hi),aR,ak hi];rfl
 ·rw[<- tl,g9,gR1 (by simp)];simp
 ·rw[<- tl,bm,g9,gR1 (by simp)];simp
theorem xV(m:Nat):WI m (aO m []) []:=by
 refine⟨by simp,λi p h=>by simp at h,λi a h=>?_,λi a h=>?_,by simp[tot]⟩
 ·rw[aR]at h;split at h
  ·cases h;intro e b;simp at b
  ·cases h
 ·rw[aR]at h;split at h
  ·cases h;simp
  ·cases h
theorem Dj{t m i n:Nat}{T U:Sto}{E:ew}{P:List (Nat×Nat)}{o:Ob}{x6:Option D}{Q:Fl×Ev×Sto->Prop}(w:WS t m T E P U)(v:WI m E P)(ho:fY o n)(hn:n<=2^44)(hP:P.length=i)(hi:i+1<m)(hm:m<=8)(he:∀j row,i+1<=j->E[j]?=some row->row=[])(h:∀S am o' V K,WS t m T S am V->WI m S am->fY o' (n+3)->am.length=i+1->(∀j row,i+2<=j->S[j]?=some row->row=[]) ->
   Q (.nx,[Z (.ref 0),Z (.int 8),Z (.int m),Z (.ref (t+m+1)),Z (.ref (t+m+2)),Z (.int ((i+1:Nat):Int)),K,Y,Y,Y],o'::V)):
  W (iz [Z (.ref 0),Z (.int 8),Z (.int m),Z (.ref (t+m+1)),Z (.ref (t+m+2)),Z (.int ((i+1:Nat):Int)),x6,Y,Y,Y] (o::U)) Q:=by
 have e:∀j,j<m -> ∃row,E[j]?=Z row:=λj f=>⟨_,gG1 (by rw[v.len];exact f)⟩
 let k:Nat->Bool:=λj=>decide ((E.getD j []).length<4)
 unfold iz;walk_at"w";rw[ke,Int.toNat_natCast];refine⟨fW (by lia),?_⟩;refine hB k (λj:Nat=>.int j) (λr=>∃x,r=[x,Z (.ref (t+m+1))]) O (af (i+1)) _ ⟨_,O⟩ ?_ ?_
 ·rintro j f r ⟨x,rfl⟩;have p:j<m:=by have:=aB.mp f;lia
  obtain⟨row,c⟩:=e j p;walk_at"w";refine je w p ?_;walk_at"w";refine eG (xs:=row.map pD) (by rw[gC1];exact w.row j row c) ?_;walk_at"w";refine⟨?_,⟨_,O⟩,λ_=>trivial⟩;simp only[k,bL,c,b9,lM1];rw[bS,al,al];lia
 ·rintro r' _;walk_at"w";have A:(List.range (i+1)).filter k≠[]:=by
   intro z;have y:∀j row,j<i+1->E[j]?=Z row->4<=row.length:=λj row f hr=>by
    have:=List.filter_eq_nil_iff.mp z j (aB.mpr f);simp only[k,bL,hr,b9,al]at this;lia
   have:=x9 (E:=E) (k:=i+1) (by rw[v.len];lia) y;have:=v.tt;lia
  generalize aq:(af (i+1)).filter k=L at A;have R:∀j∈L,j<i+1/\k j=M:=λj f=>by
   rw[<- aq,aA]at f;exact⟨aB.mp f.1,f.2⟩
  have hLl:L.length<=8:=by
   rw[<- aq];have:=dq k (af (i+1));simp at this;lia
  refine⟨ea (by rw[lM1];lia),?_⟩;refine eG (xs:=L.map λj:Nat=>D.int j) (by rw[gC1,ee];rfl) ?_;walk_at"w";rw[lM1];have hL0:0<L.length:=da.mpr A;refine fB ho (by lia) (by lia) (by lia) λd o1 ao hd=>?_;have q:d<L.length:=by lia
  refine tj (i:=d) (xs:=L.map λj:Nat=>D.int j) (x:=.int (L[d]:Nat)) (by rw[gC1,ee];rfl) (by rw[gP1,gG1 q];rfl) ?_;generalize f:L[d]=j;obtain⟨wq,C⟩:=R j (by rw[<- f];exact bU q);obtain⟨row,c⟩:=e j (by lia);have au:row.length<4:=by
   simp only[k,bL,c,b9,al]at C;exact C
  obtain⟨I,l⟩:=e (i+1) hi;have s:=he (i+1) I (nR1 _) l;subst s;walk_at"w";refine ye (a:=j) (b:=i+1) (w.app (G:=[Ob.lst (L.map λj:Nat=>D.int j)])) ao (by lia) (by lia) hi c (by lia) (λI X=>by rw[l]at X;cases X;simp) (by lia) λk1 k2 I o2 U2 N g w2=>?_;have u:j≠i+1:=by lia
  have H:I=[]:=by
   rw[gS1 u,l]at g;cases g;rfl
  walk_at"w";refine h _ _ o2 U2 _ w2 (v.tie c au g (by rw[H];simp)) (N.more (by lia)) (by simp[hP]) λj' B p F=>?_;rw[gS1 (by lia),gS1 (by lia)]at F;exact he j' B (by lia) F
theorem En{t m n:Nat}{T U:Sto}{E:ew}{P:List (Nat×Nat)}{o:Ob}{H z C S wq:Option D}{Q:Fl×Ev×Sto->Prop}(w:WS t m T E P U)(v:WI m E P)(ho:fY o n)(hn:n<=2^44)(hP:P.length<100)(au:0<m)(hm:m<=8)(h:∀N u o' L I G,WS t m T N u L->WI m N u->fY o' (n+4)->u.length<=P.length+1 ->
   Q (.nx,[Z (.ref 0),Z (.int 8),Z (.int m),Z (.ref (t+m+1)),Z (.ref (t+m+2)),H,z,C,I,G],o'::L)):
  W (iy [Z (.ref 0),Z (.int 8),Z (.int m),Z (.ref (t+m+1)),Z (.ref (t+m+2)),H,z,C,S,wq] (o::U)) Q:=by
 have g:∀j,j<m -> ∃row,E[j]?=Z row:=λj R=>⟨_,gG1 (by rw[v.len];exact R)⟩;unfold iy;walk_at"w";refine fB ho (by lia) (by lia) (by lia) λa o1 B ha=>?_;walk_at"w";refine fB B (by lia) (by lia) (by lia) λb ao l q=>?_;obtain⟨K,d⟩:=g a (by lia);obtain⟨s,e⟩:=g b (by lia);walk_at"w";refine je w (by lia) ?_;walk_at"w";refine eG (xs:=K.map pD) (by rw[gC1];exact w.row a K d) ?_;walk_at"w";rw[lM1];have f:Q (.nx,[Z (.ref 0),Z (.int 8),Z (.int m),Z (.ref (t+m+1)),Z (.ref (t+m+2)),H,z,C,Z (.int a),Z (.int b)],ao::U):=
  h E P ao U _ _ w v (l.more (by lia)) (by lia)
 split
 ·rename_i F;rw [decide_eq_true_eq] at F;refine je w (by lia) ?_;walk_at"w";refine eG (xs:=s.map pD) (by rw [gC1];exact w.row b s e) ?_;walk_at"w";rw [lM1];have V:((a:Int) == (b:Int))=decide (a=b):=by
   rw[bS,beq_iff_eq,al];lia
  rw[V];by_cases p:a=b
  ·subst p;rw[d]at e;cases e;walk_at"w";split
   ·rename_i i;simp at i;refine ye w l (by lia) (by lia) (by lia) d (by lia) (fun s q=>by rw [d] at q;cases q;lia) (by lia) fun aq X s am A k c x=>?_;have y:s.length<4:=by
     rw[aI (by rw[v.len];lia)]at c;cases c;rw[ku];lia
    exact h _ _ am A _ _ x (v.tie d (by lia) c y) (k.more (by lia)) (by simp)
   ·exact f
  ·simp only[ai p];walk_at"w";split
   ·rename_i i;simp at i;refine ye w l (by lia) (by lia) (by lia) d (by lia) (fun r q=>by rw [e] at q;cases q;lia) (by lia) fun aq X r am A k c x=>?_;have y:r.length<4:=by
     rw[gS1 p,e]at c;cases c;lia
    exact h _ _ am A _ _ x (v.tie d (by lia) c y) (k.more (by lia)) (by simp)
   ·exact f
 ·try walk_at"w"
  exact f
theorem GT{t m i:Nat}{T U:Sto}{E:ew}{P:List (Nat×Nat)}{o:Ob}{row:List (Nat×Nat)}{e:Nat×Nat}{Q:D×Sto->Prop}(w:WS t m T E P U)(v:WI m E P)(hr:E[i]? = some row)(he:e∈row)(q:Q (pD (uC E P e),o::U)):
  W (dX 3 ga [.ref (t+m+1),.ref (t+m+2),pD e] (o::U)) Q:=by
 obtain⟨p,a,r,j,h1,h2,z,c,y,A,n⟩:=zZ v hr he;have key:W (ga [.ref (t+m+1),.ref (t+m+2),pD e] (o::U)) λp=>p.2=o::U/\Q p:=by
  unfold ga;refine nr ?_;unfold nI;have b:a<m:=by rw[<- v.len];exact(gE1.mp c).1
  have f:∀Q:D×Sto->Prop,Q (.int e.1,o::U)->W (dW (pD e) (.int 0) (o::U)) Q:=λQ q=>gy (i:=0) O q;have k:∀Q:D×Sto->Prop,Q (.int e.2,o::U)->W (dW (pD e) (.int 1) (o::U)) Q:=λQ q=>gy (i:=1) O q;have h:((1:Int)-(e.2:Int))=((1-e.2:Nat):Int):=by lia
  walk_at"w";refine f _ ?_;refine tj (i:=e.1) (xs:=P.map pD) (x:=pD p) (by rw[gC1];exact w.prs) (by rw[gP1,h1];rfl) ?_;refine k _ ?_;walk_at"w";rw[h];refine gy (i:=1-e.2) (x:=.int a) ?_ ?_
  ·rw[z];by_cases g:e.2=0
   ·rw[g,ak O];rfl
   ·rw[aj g,show e.2=1 by lia];rfl
  walk_at"w";refine iI ?_;walk_at"w";refine je w b ?_;refine⟨t+a+1,r.map pD,O,by rw[gC1];exact w.row a r c,?_⟩;walk_at"w";refine f _ ?_;refine k _ ?_;walk_at"w";rw[h];refine Fh (e:=(e.1,1-e.2)) (row:=r) (j:=j) (by rw[gC1];exact w.row a r c) (by have:=v.le a r c;lia) y ?_;refine⟨O,?_⟩;rw[n]at q;exact q
 obtain⟨⟨d,B⟩,u,l,s⟩:=key;dsimp only at l;subst l;exact⟨_,lm u O O O,s⟩
theorem Fx{o:Ob}{n:Nat}{T:Sto}{Q:D×Sto->Prop}(ho:fY o n)(hn:n<=2^40)(hT:T.all (Ob.und (T.length+1))=M)(h:∀m w o',0<m->m<=8->nJ m w->fY o' (n+100)->Q (webD w,o'::T)):W (dX 2 gM [.ref 0,.int 8] (o::T)) Q:=by
 refine v4 O O hT ?_;unfold gM;refine nr ?_;unfold nG;generalize aq:T.length=t;refine eF (λr S=>∃(m:Nat) (s:Ob),0<m/\m<=8/\fY s (n+1)/\r=[Z (.ref 0),Z (.int 8),Z (.int m),Y,Y,Y,Y,Y,Y,Y]/\S=s::T) ?_ ?_
 ·walk_at"w";refine fB ho (by lia) (by lia) (by lia) λc s u hc=>?_;walk_at"w";exact⟨c+1,s,by lia,by lia,u,by simp[Int.add_comm],O⟩
 rintro r S ⟨m,s,H,wq,u,rfl,rfl⟩;refine eF (λr S=>∃U,WS t m T (aO m []) [] U/\r=[Z (.ref 0),Z (.int 8),Z (.int m),Z (.ref (t+m+1)),Z (.ref (t+m+2)),Y,Y,Y,Y,Y]/\S=s::U) ?_ ?_
 ·walk_at"w";refine⟨fW (by lia),?_⟩;rw[Int.toNat_natCast];refine jk (λi p r S=>p=jB (t+1) i/\S=s::(T++aO i (.lst [])) /\ ∃x,r=[x]) (gB 0 m) 0 [] _ _ ⟨O,by simp,_,O⟩ (λ_ _ _ _ _=>rfl) ?_ ?_
  ·rintro i d q p r S ⟨rfl,rfl,x,rfl⟩;walk_at"w";rw[bP];refine⟨?_,?_,_,O⟩
   ·rw[ow,aq,lR1]
    congr 3
    lia
   ·rw[List.replicate_succ']
  ·rintro xs r S ⟨e,rfl,_⟩;rw[c4,bP,fC]at e;subst e;rw[bP,fC];walk_at"w";rw[j7];refine⟨ea (by lia),_,xU aq,?_,O⟩;simp[aq]
 rintro r S ⟨U0,w0,rfl,rfl⟩;refine eF (λr S=>∃E P b U k g,WS t m T E P U/\WI m E P/\P.length<=8/\fY b (n+40)/\r=[Z (.ref 0),Z (.int 8),Z (.int m),Z (.ref (t+m+1)),Z (.ref (t+m+2)),k,g,Y,Y,Y]/\S=b::U) ?_ ?_
 ·walk_at"w";refine⟨E9 (by decide) (by decide),fW (by lia),?_⟩;refine fV (λi r S=>i<=m-1 /\ ∃E P b U k g,WS t m T E P U/\WI m E P/\P.length=i/\(∀j row,i+1<=j->E[j]?=Z row->row=[])/\fY b (n+1+3*i)/\r=[Z (.ref 0),Z (.int 8),Z (.int m),Z (.ref (t+m+1)),Z (.ref (t+m+2)),k,g,Y,Y,Y]/\S=b::U) _ 0 _ _ ?_ (λ_ _ _ _=>rfl) ?_ ?_
  ·refine⟨by lia,_,_,s,U0,Y,Y,w0,xV m,O,λj row _ L=>?_,u,O,O⟩;rw[aR]at L;split at L
   ·cases L;rfl
   ·cases L
  ·rintro i d q r S ⟨hi,E,P,b,U,k,g,w,v,I,K,a,rfl,rfl⟩;have l:=(gE1.mp q).1;rw [fC] at l;have ao:d = .int ((i+1:Nat):Int):=by
    rw[qf,gP1,cN l]at q;simp at q;rw[<- q]
    push_cast
    congr 1
    lia
   subst ao;rw[bP]at *
   walk_at"w";refine Dj w v a (by lia) I (by lia) wq K λE' N o' V x6' A R y am au=>?_;exact⟨O,by lia,E',N,o',V,_,_,A,R,am,au,y.more (by lia),O,O⟩
  ·rintro r S ⟨hi,E,P,b,U,k,g,w,v,I,K,a,rfl,rfl⟩;exact⟨O,E,P,b,U,k,g,w,v,by lia,a.more (by lia),O,O⟩
 rintro r S ⟨E,P,b,U,k,g,w,v,I,a,rfl,rfl⟩;refine eF (λr S=>∃E P b U k g C B F,WS t m T E P U/\WI m E P/\fY b (n+100)/\r=[Z (.ref 0),Z (.int 8),Z (.int m),Z (.ref (t+m+1)),Z (.ref (t+m+2)),k,g,C,B,F]/\S=b::U) ?_ ?_
 ·walk_at"w";refine fB a (by lia) (by lia) (by lia) λc o3 X hc=>?_;walk_at"w";refine⟨fW (by lia),?_⟩;rw[Int.toNat_natCast];refine fV (λi r S=>i<=c /\ ∃E P b U k g C B F,WS t m T E P U/\WI m E P/\P.length<=8+i/\fY b (n+41+4*i)/\r=[Z (.ref 0),Z (.int 8),Z (.int m),Z (.ref (t+m+1)),Z (.ref (t+m+2)),k,g,C,B,F]/\S=b::U) _ 0 _ _ ⟨by lia,E,P,o3,U,k,g,Y,Y,Y,w,v,by lia,X,O,O⟩ (λ_ _ _ _=>rfl) ?_ ?_
  ·rintro i d q r S ⟨hi,E,P,b,U,k,g,C,B,F,w,v,I,a,rfl,rfl⟩;have l:=(gE1.mp q).1;rw[fC]at l;rw[bP]at *
   walk_at"w";refine En w v a (by lia) (by lia) H wq λE' N o' V x8' x9' A R y am=>?_;exact⟨O,by lia,E',N,o',V,_,_,_,_,_,A,R,by lia,y.more (by lia),O,O⟩
  ·rintro r S ⟨hi,E,P,b,U,k,g,C,B,F,w,v,I,a,rfl,rfl⟩;rw[fC,bP]at a;exact⟨O,E,P,b,U,_,_,_,_,_,w,v,a.more (by lia),O,O⟩
 rintro r S ⟨E,P,b,U,k,g,C,B,F,w,v,a,rfl,rfl⟩;walk_at"w";refine eG (S:=b::U) (xs:=jB (t+1) m) (by rw[gC1];exact w.ends) ?_;have z:∀j,j<m -> ∃row,E[j]?=Z row:=λj hj=>⟨_,gG1 (by rw[v.len];exact hj)⟩;refine jk (λi p r S=>∃G x,S=b::(U++G)/\r=[x,Z (.ref (t+m+1)),Z (.ref (t+m+2))]/\p=((E.take i).map λrow=>.tup ((row.map (uC E P)).map pD))) (jB (t+1) m) 0 [] _ _ ⟨[],Y,by simp,O,O⟩ ?_ ?_ ?_
 ·rintro i p r S ⟨G,x,rfl,_⟩;exact gZ (by rw[gC1];exact(w.app (G:=G)).ends)
 ·rintro i d q p r S ⟨G,x,rfl,rfl,rfl⟩;have hi:=(gE1.mp q).1;rw[j7]at hi;rw[pW hi]at q;cases q;obtain⟨row,f⟩:=z i hi;have A:=w.app (G:=G);walk_at"w";refine eG (S:=b::(U++G)) (xs:=row.map pD) (by rw[show t+1+i=t+i+1 by lia,gC1];exact A.row i row f) ?_;refine r9 (λe=>pD (uC E P e)) (λr=>∃x,r=[x,Z (.ref (t+m+1)),Z (.ref (t+m+2))]) (gZ (by rw[show t+1+i=t+i+1 by lia,gC1];exact A.row i row f)) row _ ⟨_,O⟩ ?_ ?_
  ·rintro e K r ⟨x,rfl⟩;walk_at"w";refine GT A v f K ?_;exact⟨O,O,_,O⟩
  ·rintro r' _;walk_at"w";have hl:=v.le i row f;refine⟨ea (by rw[lM1];lia),?_⟩;refine eG (xs:=row.map λe=>pD (uC E P e)) (by rw[<- bI,gC1,<- lA1,ee];rfl) ?_;refine⟨G++[Ob.lst (row.map λe=>pD (uC E P e))],_,O,O,?_⟩;rw[bP,cH,f];simp[Function.comp_def]
 ·rintro xs r S ⟨G,x,rfl,rfl,e⟩;rw [c4,bP,j7,<- v.len,b4] at e;subst e;walk_at"w";have hlE:=v.len;refine ⟨ea (by rw [lM1];lia),?_⟩;refine eG (xs:=E.map fun row=>.tup ((row.map (uC E P)).map pD)) (by rw [<- bI,gC1,<- lA1,ee];rfl) ?_;have e:D.tup (E.map fun row=>.tup ((row.map (uC E P)).map pD))=webD (E.map fun row=>row.map (uC E P)):=by
   simp[webD,Function.comp_def]
  refine⟨webD (E.map λrow=>row.map (uC E P)),b,U.drop t++(G++[Ob.lst (E.map λrow=>.tup ((row.map (uC E P)).map pD))]),?_,fL _,a.und,?_⟩
  ·rw[e,<- bI T,<- w.split]
  ·exact h m _ b H wq (C9 v) a
theorem DQ{items:List D}{k:Int}{n:Nat}{o:Ob}{T:Sto}{l:Option D}{Q:List D×Ev×Sto->Prop}(ho:fY o n)(hn:n+items.length<=2^50)(hk:0<k)(f:k<1073741824)(h:∀xs o' m,fY o' (n+items.length)->xs.Sublist items->Q (xs,[m,some (.ref 0)],o'::T)):
  W (fM [] (gN 0) (mB (m2 (b2 oT) (mN (dX 2 dV) (dS (mV 1) (dS (mC (D.int k)) dU))) (mC (D.int (0))))) (eI (mV 0)) items [l,Z (.ref 0)] (o::T)) Q:=by
 refine jk (λi c r S=>∃o x,S=o::T/\r=[x,Z (.ref 0)]/\fY o (n+i)/\i<=items.length/\c.Sublist (items.take i)) items 0 [] _ _ ⟨o,l,O,O,by simpa using ho,by lia,by simp⟩ (λ_ _ _ _ _=>rfl) ?_ ?_
 ·rintro i d g c r S ⟨o,x,rfl,rfl,ho,hi,a⟩;have p:i<items.length:=(gE1.mp g).1;have j:items.take (i+1)=items.take i++[d]:=by rw[cH,g];rfl
  walk_at"w";refine fB ho (by lia) hk f λe o' b q=>?_;walk_at"w";split
  ·exact⟨o',Z d,O,O,b.more (by lia),by lia,by rw[bP,j];simp at a;exact a.append (List.Sublist.refl _)⟩
  ·exact⟨o',Z d,O,O,b.more (by lia),by lia,by rw[bP,j];simp at a;exact a.trans (List.sublist_append_left _ _)⟩
 ·rintro xs r S ⟨o,x,rfl,rfl,ho,_,a⟩;refine h _ _ _ (by simpa using ho) (by simpa using a)
theorem EW{o:Ob}{n:Nat}{T:Sto}{Q:D×Sto->Prop}(ho:fY o n)(hn:n<=2^45)(g:T.all (Ob.und (T.length+1))=M)(h:∀a b c d o',fY o' (n+4)->Q (.tup (fv a b c d),o'::T)):W (dX 1 fc [.ref 0] (o::T)) Q:=by
 refine v4 O O g ?_;unfold fc;refine nr ?_;unfold io;walk_at"w";rw[iR];refine DQ ho (by simp;lia) (by decide) (by decide) λxs f k e i=>?_;obtain⟨a,b,c,d,rfl⟩:=z0 i;walk_at"w";have j:=Aa a b c d;refine⟨ea (by lia),?_⟩;refine eG (xs:=fv a b c d) (by rw[gC1,ee];rfl) ?_;exact⟨_,f,_,O,by rw[D.und];exact kC a b c d,e.und,h a b c d f e⟩
theorem wf{w:ew}{i:Nat}{row:List (Nat×Nat)}{S:Sto}{Q:D×Sto->Prop}(h:w[i]?=Z row)(q:Q (.tup (row.map pD),S)):W (dW (webD w) (.int i) S) Q:=
 gy (x:=.tup (row.map pD)) (by rw[gP1,h];rfl) q
theorem qk{w:ew}{S:Sto}:eS (webD w) S=Z (.int w.length,S):=by simp[webD,eS,d6]
noncomputable def crowd(ws:List Wk)(rm:Nat):Nat:=(ws.filter λu=>u.1 == rm).length
noncomputable def u5(a b c d:Bool)(ws:List Wk)(cs:List Nat)(u:Wk)(row:List (Nat×Nat)):D:=
 t8 a b c d u.2.1 (if cs.contains u.1 then 1 else 0) row.length (if 1<crowd ws u.1 then 1 else 0)
theorem oV{ws:List Wk}{a:Nat}{S:Sto}{c:Option D}{Q:List D×Ev×Sto->Prop}(h:∀ b,Q ((ws.filter fun u=>u.1 == a).map ff,b,S)):
  W (fM [] (gN 0) (mB (m2 (b2 oT) (m2 (b2 dW) (mV 0) (mC (D.int (0)))) (mV 1))) (eI (mV 0)) (eA ws) [c,Z (.int a)] S) Q:=by
 refine hB (λu:Wk=>u.1 == a) ff (λr=>∃x,r=[x,Z (.int a)]) O ws _ ⟨_,O⟩ ?_ λb _=>h b;rintro u d r ⟨x,rfl⟩;walk_at"w";refine gy (i:=0) O ?_;walk_at"w";refine⟨?_,⟨_,O⟩,λ_=>trivial⟩;rw[bS,beq_iff_eq,beq_iff_eq];lia
theorem CY {w x y z:D}{S:Sto}{r:Ev}{m1 m2 b a:FE}{Q:D×Sto->Prop}(h1:m1 r S=some (w,S))(h2:m2 r S=some (x,S))(d:b r S=some (y,S))(c:a r S=some (z,S))
  (q:Q (.ref S.length,S++[.dct [(.inr "came",w),(.inr "chalk",x),(.inr "doors",y),(.inr "others",z)]])):
  W (sd [(mC (.str "came"),m1),(mC (.str "chalk"),m2),(mC (.str "doors"),b),(mC (.str "others"),a)] r S) Q:=by
 refine W.of ?_ q;simp only[sd,BM,mC,h1,h2,d,c,oS1,oP1,vA,ss];rfl
theorem BW {w x y z:D}{S:Sto}{n:Nat}(h:S[n]? = some (.dct [(.inr "came",w),(.inr "chalk",x),(.inr "doors",y),(.inr "others",z)])):
  dW (.ref n) (.str "came") S=Z (w,S)/\dW (.ref n) (.str "chalk") S=Z (x,S)/\dW (.ref n) (.str "doors") S=Z (y,S)/\dW (.ref n) (.str "others") S=Z (z,S):=by
 refine⟨?_,?_,?_,?_⟩<;>(simp only[dW,h,lh,ss,oS1];rfl)
noncomputable def qv:Nat->D
 |0=>.str "came" |1=>.str "chalk" |2=>.str "doors" |_=>.str "others"
noncomputable def CO:Nat->D
 |0=>.int 5|1=>.int 2|2=>.int 5|_=>.int 2
noncomputable def gI(a b c d:Bool)(w x y z:Int):Nat->D
 |0=>if a then .int w else .non
 |1=>if b then .int x else .non
 |2=>if c then .int y else .non
 |_=>if d then .int z else .non
theorem vi {a b c d:Bool}{w x y z:Int}{S:Sto}{n:Nat}(h:S[n]? = some (.dct [(.inr "came",.int w),(.inr "chalk",.int x),(.inr "doors",.int y),(.inr "others",.int z)])){i:Nat}(hi:i∈[0,1,2,3]){r:Ev}{f j g:Nat}
  (h1:r[f]?=Z (Z (qv i))) (h2:r[j]?=Z (Z (.tup (fv a b c d)))) (e:r[g]?=Z (Z (.ref n))):
  vv (mB (m2 (b2 i5) (mV f) (mV j))) (m2 (b2 dW) (mV g) (mV f)) (mC D.non) r S=Z (gI a b c d w x y z i,S):=by
 obtain⟨o,l,k,m⟩:=BW h;simp only[aF,bN,or_false]at hi;rcases hi with rfl|rfl|rfl|rfl
 ·cases a<;>simp only[vv,mB,m2,b2,mV,h1,h2,e,qv,oS1,B2,o,gI,mC]<;>rfl
 ·cases b<;>simp only[vv,mB,m2,b2,mV,h1,h2,e,qv,oS1,zJ,l,gI,mC]<;>rfl
 ·cases c<;>simp only[vv,mB,m2,b2,mV,h1,h2,e,qv,oS1,zI,k,gI,mC]<;>rfl
 ·cases d<;>simp only[vv,mB,m2,b2,mV,h1,h2,e,qv,oS1,wY,m,gI,mC]<;>rfl
theorem AZ{w:ew}{ws:List Wk}{cs:List Nat}{a b c d:Bool}{k:Nat}{u:Wk}{row:List (Nat×Nat)}{S:Sto}{Q:D×Sto->Prop}(h:ws[k]? = Z u)(hr:w[u.1]? = Z row)(o:ws.length<=1000)(q:Q (u5 a b c d ws cs u row,S)):W (dX 4 gK [webD w,.tup (fv a b c d),dZ ws cs,.int k] S) Q:=by
 refine lQ O (by simp[D.unds,fL,fR];rw[D.und];exact⟨kC a b c d,O⟩) ?_;unfold gK;refine nr ?_;unfold nE;refine eF (λr S=>S=[]/\r=[Z (webD w),Z (.tup (fv a b c d)),Z (dZ ws cs),Z (.int k),Z (.tup (eA ws)),Z (.tup (eP cs)),Y,Y,Y,Y,Y]) ?_ ?_
 ·rw[dZ];walk_at"w"
 rintro r S ⟨rfl,rfl⟩;refine eF (λr S=>S=[]/\r=[Z (webD w),Z (.tup (fv a b c d)),Z (dZ ws cs),Z (.int k),Z (.tup (eA ws)),Z (.tup (eP cs)),Z (.int u.1),Z (.int u.2.1),Z (.int u.2.2),Y,Y]) ?_ ?_
 ·walk_at"w";refine gy (i:=k) (x:=ff u) (by rw[eA,gP1,h];rfl) ?_;rw[ff];walk_at"w"
 rintro r S ⟨rfl,rfl⟩;refine eF (λr S=>S=[.lst ((ws.filter λv=>v.1 == u.1).map ff)]/\r=[Z (webD w),Z (.tup (fv a b c d)),Z (dZ ws cs),Z (.int k),Z (.tup (eA ws)),Z (.tup (eP cs)),Z (.int u.1),Z (.int u.2.1),Z (.int u.2.2),Z (.ref 0),Y]) ?_ ?_
 ·walk_at"w";rw[iR];refine oV λn=>?_;walk_at"w";have:=dq (λv:Wk=>v.1 == u.1) ws;have h2:((ws.filter λv:Wk=>v.1 == u.1).map ff).length<=100000:=by rw[lM1];lia
  exact⟨ea h2,trivial⟩
 rintro r S ⟨rfl,rfl⟩;generalize g:[Ob.lst ((ws.filter λv=>v.1 == u.1).map ff)]=S1;have f:S1[0]?=Z (Ob.lst ((ws.filter λv=>v.1 == u.1).map ff)):=by rw[<- g];rfl
 refine eF (λr S=>S=S1++[.dct [(.inr "came",.int u.2.1),(.inr "chalk",.int (if cs.contains u.1 then 1 else 0)),(.inr "doors",.int row.length),(.inr "others",.int (if 1<crowd ws u.1 then 1 else 0))]]/\r=[Z (webD w),Z (.tup (fv a b c d)),Z (dZ ws cs),Z (.int k),Z (.tup (eA ws)),Z (.tup (eP cs)),Z (.int u.1),Z (.int u.2.1),Z (.int u.2.2),Z (.ref 0),Z (.ref S1.length)]) ?_ ?_
 ·unfold eh;rw[d5];have hc:(List.map ff (ws.filter λv=>v.1 == u.1)).length=crowd ws u.1:=by rw[lM1];rfl
  refine CY (w:=.int u.2.1) (x:=.int (if cs.contains u.1 then 1 else 0)) (y:=.int row.length) (z:=.int (if 1<crowd ws u.1 then 1 else 0)) O ?_ ?_ ?_ ?_
  ·simp only[vv,mB,m2,b2,mV,gC1,dk,oS1,zG,mC];split<;>rfl
  ·have:W (dW (webD w) (.int u.1) S1) λp=>p=(.tup (row.map pD),S1):=wf hr O;obtain⟨p,e,rfl⟩:=this;simp only[mN,dS,dU,m2,b1,b2,mV,gC1,dk,oS1,e,gC,lM1]
  ·simp only[vv,mB,mN,dS,dU,m2,b1,b2,mV,mC,gC1,dk,oS1,eS,gU f,oP1,iK,hc];by_cases h1:1<crowd ws u.1
   ·rw[ak h1,ak (by rw[al];lia)]
   ·rw[aj h1,aj (by rw[al];lia)]
  ·walk_at"w"
 rintro r S ⟨rfl,rfl⟩;generalize l:S1++[Ob.dct [(.inr "came",.int u.2.1),(.inr "chalk",.int (if cs.contains u.1 then 1 else 0)),(.inr "doors",.int row.length),(.inr "others",.int (if 1<crowd ws u.1 then 1 else 0))]]=S2;have j:S2[S1.length]?=Z (Ob.dct [(.inr "came",.int u.2.1),(.inr "chalk",.int (if cs.contains u.1 then 1 else 0)),(.inr "doors",.int row.length),(.inr "others",.int (if 1<crowd ws u.1 then 1 else 0))]):=by rw[<- l,ee];rfl
 walk_at"w";have m:mj = .tup ([0,1,2,3].map λi:Nat=>D.tup [qv i,CO i]):=rfl;rw[m,iR];refine r9 (gI a b c d u.2.1 (if cs.contains u.1 then 1 else 0) row.length (if 1<crowd ws u.1 then 1 else 0)) (λr=>∃x y,r=[x,y,Z (.tup (fv a b c d)),Z (.ref S1.length)]) O _ _ ⟨_,_,O⟩ ?_ ?_
 ·rintro i hi r ⟨x,y,rfl⟩;refine⟨([Z (qv i),Z (CO i),Z (.tup (fv a b c d)),Z (.ref S1.length)],S2),O,?_⟩;refine⟨(M,S2),O,O,?_⟩;exact⟨_,vi j hi O O O,O,O,_,_,O⟩
 ·rintro n _;walk_at"w";refine eG (xs:=[gI a b c d u.2.1 (if cs.contains u.1 then 1 else 0) row.length (if 1<crowd ws u.1 then 1 else 0) 0,gI a b c d u.2.1 (if cs.contains u.1 then 1 else 0) row.length (if 1<crowd ws u.1 then 1 else 0) 1,gI a b c d u.2.1 (if cs.contains u.1 then 1 else 0) row.length (if 1<crowd ws u.1 then 1 else 0) 2,gI a b c d u.2.1 (if cs.contains u.1 then 1 else 0) row.length (if 1<crowd ws u.1 then 1 else 0) 3]) (by rw[ee];rfl) ?_;exact⟨oj,q⟩
theorem si{w:ew}{ws:List Wk}{cs:List Nat}{a b c d:Bool}{k:Nat}{u:Wk}{row:List (Nat×Nat)}{S:Sto}{Q:D×Sto->Prop}(j:ws[k]? = Z u)(hr:w[u.1]? = Z row)(t:ws.length<=1000)(q:Q (u5 a b c d ws cs u row,S)):W (dX 4 eX [webD w,.tup (fv a b c d),dZ ws cs,.int k] S) Q:=by
 refine lQ O (by simp[D.unds,fL,fR];rw[D.und];exact⟨kC a b c d,O⟩) ?_;unfold eX;refine nr ?_;unfold kM;have g:∀(S:Sto) (Q:D×Sto->Prop),Q (.tup (eA ws),S)->W (dW (dZ ws cs) (.int 0) S) Q:=λS Q q=>gy (i:=0) O q;have m:∀(S:Sto),dW (dZ ws cs) (.int 1) S=Z (.tup (eP cs),S):=λS=>by
  obtain⟨p,e,h⟩:W (dW (dZ ws cs) (.int 1) S) λp=>p=(.tup (eP cs),S):=gy (i:=1) O O;rw[e,h]
 refine eF (λr S=>S=[]/\r=[Z (webD w),Z (.tup (fv a b c d)),Z (dZ ws cs),Z (.int k),Z (.int u.1),Z (.int u.2.1),Z (.int u.2.2),Y,Y]) ?_ ?_
 ·walk_at"w";refine g _ _ ?_;refine gy (i:=k) (x:=ff u) (by rw[eA,gP1,j];rfl) ?_;rw[ff];walk_at"w"
 rintro r S ⟨rfl,rfl⟩;refine eF (λr S=>r=[Z (webD w),Z (.tup (fv a b c d)),Z (dZ ws cs),Z (.int k),Z (.int u.1),Z (.int u.2.1),Z (.int u.2.2),Z (.int (crowd ws u.1)),Y]) ?_ ?_
 ·walk_at"w";refine g _ _ ?_;rw[iR];refine oV λs=>?_;walk_at"w";have:=dq (λv:Wk=>v.1 == u.1) ws;have h2:((ws.filter λv:Wk=>v.1 == u.1).map ff).length<=100000:=by rw[lM1];lia
  refine⟨ea h2,?_⟩;refine eG (xs:=(ws.filter λv:Wk=>v.1 == u.1).map ff) O ?_;rw[lM1];rfl
 rintro r f rfl;refine eF (λr S=>S=f++[.dct [(.inr "came",.int u.2.1),(.inr "chalk",.int (if cs.contains u.1 then 1 else 0)),(.inr "doors",.int row.length),(.inr "others",.int (if 1<crowd ws u.1 then 1 else 0))]]/\r=[Z (webD w),Z (.tup (fv a b c d)),Z (dZ ws cs),Z (.int k),Z (.int u.1),Z (.int u.2.1),Z (.int u.2.2),Z (.int (crowd ws u.1)),Z (.ref f.length)]) ?_ ?_
 ·unfold eh;rw[d5];refine CY (w:=.int u.2.1) (x:=.int (if cs.contains u.1 then 1 else 0)) (y:=.int row.length) (z:=.int (if 1<crowd ws u.1 then 1 else 0)) O ?_ ?_ ?_ ?_
  ·simp only[mN,dS,dU,b1,m2,b2,mV,gC1,dk,oS1,m,zG,mC,nV]
  ·obtain⟨p,e,rfl⟩:W (dW (webD w) (.int u.1) f) λp=>p=(.tup (row.map pD),f):=wf hr O;simp only[mN,dS,dU,m2,b1,b2,mV,gC1,dk,oS1,e,gC,lM1]
  ·simp only[mN,dS,dU,m2,b1,b2,mV,mC,gC1,dk,oS1,iK,nV];by_cases h1:1<crowd ws u.1
   ·rw[ak h1,ak (by rw[al];lia)]
   ·rw[aj h1,aj (by rw[al];lia)]
  ·walk_at"w"
 rintro r S ⟨rfl,rfl⟩;generalize n:f++[Ob.dct [(.inr "came",.int u.2.1),(.inr "chalk",.int (if cs.contains u.1 then 1 else 0)),(.inr "doors",.int row.length),(.inr "others",.int (if 1<crowd ws u.1 then 1 else 0))]]=S2;have l:S2[f.length]?=Z (Ob.dct [(.inr "came",.int u.2.1),(.inr "chalk",.int (if cs.contains u.1 then 1 else 0)),(.inr "doors",.int row.length),(.inr "others",.int (if 1<crowd ws u.1 then 1 else 0))]):=by rw[<- n,ee];rfl
 walk_at"w";have o:([D.str "came",D.str "chalk",D.str "doors",D.str "others"]:List D)=[0,1,2,3].map qv:=rfl;rw[iR,o];refine r9 (gI a b c d u.2.1 (if cs.contains u.1 then 1 else 0) row.length (if 1<crowd ws u.1 then 1 else 0)) (λr=>∃x,r=[x,Z (.tup (fv a b c d)),Z (.ref f.length)]) O _ _ ⟨_,O⟩ ?_ ?_
 ·rintro i hi r ⟨x,rfl⟩;refine⟨([Z (qv i),Z (.tup (fv a b c d)),Z (.ref f.length)],S2),O,?_⟩;refine⟨(M,S2),O,O,?_⟩;exact⟨_,vi l hi O O O,O,O,_,O⟩
 ·rintro s _;walk_at"w";refine eG (xs:=[gI a b c d u.2.1 (if cs.contains u.1 then 1 else 0) row.length (if 1<crowd ws u.1 then 1 else 0) 0,gI a b c d u.2.1 (if cs.contains u.1 then 1 else 0) row.length (if 1<crowd ws u.1 then 1 else 0) 1,gI a b c d u.2.1 (if cs.contains u.1 then 1 else 0) row.length (if 1<crowd ws u.1 then 1 else 0) 2,gI a b c d u.2.1 (if cs.contains u.1 then 1 else 0) row.length (if 1<crowd ws u.1 then 1 else 0) 3]) (by rw[ee];rfl) ?_;exact⟨oj,q⟩
noncomputable def pt(b:Bool)(x:Nat):D:=if b=M then .int x else .non
noncomputable def IT(a b c d:Bool)(x y z w:Nat):D:=.tup [pt a x,pt b y,pt c z,pt d w]
noncomputable def nj:List D:=[.str "leave",.str "mark",.str "wipe"]
noncomputable def lr:List D:=[.non,.int 0,.int 1,.int 2,.int 3]
structure gb (x:D):Prop where
 is:∃m h t,x = .tup [.int (m:Nat),h,t]/\m<4000/\h∈nj/\t∈lr
theorem gb.und{x:D}(h:gb x):x.und 0=M:=by
 obtain⟨m,x,t,rfl,_,h1,h2⟩:=h.is;have b:x.und 0=M:=by simp[nj]at h1;rcases h1 with z|z|z<;>subst z<;>rfl
 have a:t.und 0=M:=by simp[lr]at h2;rcases h2 with z|z|z|z|z<;>subst z<;>rfl
 simp[D.und,D.unds,b,a]
noncomputable def cx(b:Bool)(x:Nat):Nat:=if b=M then x else 0
noncomputable def i8:List Bool->List Nat->Nat
 |b::bs,x::xs=>cx b x*8^bs.length+i8 bs xs
 |_,_=>0
theorem ll:∀{bs:List Bool} {xs:List Nat},(∀x∈xs,x<=7)->i8 bs xs<8^bs.length
 |[],_,_=>by rw[i8];simp;simp
 |b::bs,[],_=>by
  rw[i8]
  ·exact Nat.pos_of_ne_zero (by simp)
  ·simp
 |b::bs,x::xs,h=>by
  have h1:=ll (bs:=bs) λy a=>h y (mC1 _ a);have h2:cx b x<=7:=by unfold cx;split;exact h x mS1;lia
  rw[i8,lC1,Nat.pow_succ];have c:cx b x*8^bs.length<=7*8^bs.length:=dr _ h2;lia
theorem GX{S:Sto}{n:Nat}{xs ys:List D}:gp S (n+1) (.tup xs) (.tup ys)=nL (gp S n) xs ys:=by
 rw[gp];simp[d6]
theorem Ip{S:Sto}{n:Nat}{xs ys:List D}:jK S (n+1) (.tup xs) (.tup ys)=nS (gp S n) (jK S n) xs ys:=by
 rw[jK];simp[Hz,d6]
theorem CU{S:Sto}{n:Nat}{b:Bool}{x y:Nat}:gp S (n+1) (pt b x) (pt b y)=Z (decide (cx b x=cx b y)):=by
 cases b with
 |false=>rfl
 |true=>
  show Z ((x:Int) == (y:Int))=Z (decide (x=y))
  congr 1
  rw[bS,beq_iff_eq,al];lia
theorem GB{S:Sto}{n:Nat}{b:Bool}{x y:Nat}(h:cx b x≠cx b y):jK S (n+1) (pt b x) (pt b y)=Z (decide (cx b x<cx b y)):=by
 cases b with
 |false=>exact absurd O h
 |true=>
  show Z (decide ((x:Int)<(y:Int)))=Z (decide (x<y))
  congr 1
  rw[bS,al,al];omega
theorem GZ{A B P u v:Nat}(a:u<P)(hv:v<P):(A*P+u=B*P+v↔A=B/\u=v)/\(A*P+u<B*P+v↔A<B\/(A=B/\u<v)):=by
 rcases Nat.lt_trichotomy A B with h|h|h
 ·have:=dr P (show A+1<=B from h);rw[Nat.succ_mul]at this;constructor<;>lia
 ·subst h;constructor<;>lia
 ·have:=dr P (show B+1<=A from h);rw[Nat.succ_mul]at this;constructor<;>lia
theorem qx{S:Sto}{n:Nat}:∀ {bs:List Bool} {xs ys:List Nat},xs.length=bs.length->ys.length=bs.length->(∀ x∈xs,x<=7)->(∀ y∈ys,y<=7) ->
  nL (gp S (n+1)) (dw pt bs xs) (dw pt bs ys)=Z (decide (i8 bs xs=i8 bs ys))
 |[],xs,ys,_,_,_,_=>by simp[nL,i8]
 |b::bs,[],ys,h,_,_,_=>by simp at h
 |b::bs,x::xs,[],_,h,_,_=>by simp at h
 |b::bs,x::xs,y::ys,h1,h2,hx,hy=>by
  have ih:=qx (S:=S) (n:=n) (bs:=bs) (xs:=xs) (ys:=ys) (by simpa using h1) (by simpa using h2) (λz a=>hx z (mC1 _ a)) (λz a=>hy z (mC1 _ a));have b1:=ll (bs:=bs) (xs:=xs) λz a=>hx z (mC1 _ a);have b2:=ll (bs:=bs) (xs:=ys) λz a=>hy z (mC1 _ a);rw[dy,dy,nL,CU,ih,i8,i8];have c:=(GZ (A:=cx b x) (B:=cx b y) b1 b2).1;rw[oS1,oP1]
  congr 1
  rw[bS,bA1,al,al,al];exact c.symm
theorem zw{S:Sto}{n:Nat}:∀ {bs:List Bool} {xs ys:List Nat},xs.length=bs.length->ys.length=bs.length->(∀ x∈xs,x<=7)->(∀ y∈ys,y<=7) ->
  nS (gp S (n+1)) (jK S (n+1)) (dw pt bs xs) (dw pt bs ys)=Z (decide (i8 bs xs<i8 bs ys))
 |[],xs,ys,_,_,_,_=>by simp[nS,i8]
 |b::bs,[],ys,h,_,_,_=>by simp at h
 |b::bs,x::xs,[],_,h,_,_=>by simp at h
 |b::bs,x::xs,y::ys,h1,h2,hx,hy=>by
  have ih:=zw (S:=S) (n:=n) (bs:=bs) (xs:=xs) (ys:=ys) (by simpa using h1) (by simpa using h2) (λz a=>hx z (mC1 _ a)) (λz a=>hy z (mC1 _ a));have b1:=ll (bs:=bs) (xs:=xs) λz a=>hx z (mC1 _ a);have b2:=ll (bs:=bs) (xs:=ys) λz a=>hy z (mC1 _ a);have c:=(GZ (A:=cx b x) (B:=cx b y) b1 b2).2;rw[dy,dy,nS,CU,oS1,i8,i8];by_cases z:cx b x=cx b y
  ·rw[ak (ah z),ih]
   congr 1
   rw[bS,al,al];lia
  ·rw[aj (by rw[al];exact z),GB z]
   congr 1
   rw[bS,al,al];lia
structure Ky where
 m:Nat
 x:Nat
 y:Nat
 z:Nat
 w:Nat
structure Ky.Ok (k:Ky):Prop where
 m:k.m<4000
 x:k.x<=4
 y:k.y<=4
 z:k.z<=4
 w:k.w<=4
abbrev E4:=Bool×Bool×Bool×Bool
noncomputable def E4.bs(e:E4):List Bool:=[e.1,e.2.1,e.2.2.1,e.2.2.2]
noncomputable def Ky.xs(k:Ky):List Nat:=[k.x,k.y,k.z,k.w]
noncomputable def CM(b:Bool)(x:Nat):TK:=if b=M then .int x else .non
noncomputable def Ky.sg(k:Ky)(e:E4):D:=IT e.1 e.2.1 e.2.2.1 e.2.2.2 k.x k.y k.z k.w
noncomputable def Ky.d(k:Ky)(e:E4):D:=.tup [.int k.m,k.sg e]
noncomputable def Ky.tk(k:Ky)(e:E4):TK:=.tup [.int k.m,.tup [CM e.1 k.x,CM e.2.1 k.y,CM e.2.2.1 k.z,CM e.2.2.2 k.w]]
noncomputable def Ky.code(k:Ky)(e:E4):Nat:=k.m*4096+i8 e.bs k.xs
theorem Ky.keyT(k:Ky)(e:E4):Mi.keyT (k.d e)=Z (k.tk e):=by
 obtain⟨a,b,c,d⟩:=e;cases a<;>cases b<;>cases c<;>cases d<;>rfl
theorem Ky.tkD(k:Ky)(e:E4):Mi.tkD (k.tk e)=k.d e:=(vB (k.keyT e)).1
theorem Ky.sg_zip(k:Ky)(e:E4):k.sg e = .tup (dw pt e.bs k.xs):=rfl
theorem Ky.Ok.all{k:Ky}(h:k.Ok):∀x∈k.xs,x<=7:=by
 intro x a;have:=h.x;have:=h.y;have:=h.z;have:=h.w
 simp[Ky.xs]at a;lia
theorem gm{k:Ky}(h:k.Ok)(e:E4):i8 e.bs k.xs<4096:=ll (bs:=e.bs) h.all
theorem Ky.eq{k l:Ky}{e:E4}{S:Sto}{n:Nat}(hk:k.Ok)(a:l.Ok):gp S (n+3) (k.d e) (l.d e)=Z (decide (k.code e=l.code e)):=by
 have d:gp S (n+2) (.int k.m) (.int l.m)=Z ((k.m:Int) == (l.m:Int)):=rfl;have b:gp S (n+2) (k.sg e) (l.sg e)=Z (decide (i8 e.bs k.xs=i8 e.bs l.xs)):=by rw[Ky.sg_zip,Ky.sg_zip,GX,qx O O hk.all a.all]
 unfold Ky.d Ky.code;rw[GX,nL,d,oS1,nL,b,nL];have c:=(GZ (A:=k.m) (B:=l.m) (gm hk e) (gm a e)).1;show Z (((k.m:Int) == (l.m:Int))&&(decide (i8 e.bs k.xs=i8 e.bs l.xs)&&M))=_
 congr 1
 rw[bS,bO,bA1,al,al,beq_iff_eq,c];lia
theorem Ky.lt{k l:Ky}{e:E4}{S:Sto}{n:Nat}(hk:k.Ok)(a:l.Ok):jK S (n+3) (k.d e) (l.d e)=Z (decide (k.code e<l.code e)):=by
 have f:gp S (n+2) (.int k.m) (.int l.m)=Z ((k.m:Int) == (l.m:Int)):=rfl;have d:jK S (n+2) (.int k.m) (.int l.m)=Z (decide ((k.m:Int)<(l.m:Int))):=rfl;have c:gp S (n+2) (k.sg e) (l.sg e)=Z (decide (i8 e.bs k.xs=i8 e.bs l.xs)):=by rw[Ky.sg_zip,Ky.sg_zip,GX,qx O O hk.all a.all]
 have g:jK S (n+2) (k.sg e) (l.sg e)=Z (decide (i8 e.bs k.xs<i8 e.bs l.xs)):=by rw[Ky.sg_zip,Ky.sg_zip,Ip,zw O O hk.all a.all]
 unfold Ky.d Ky.code;have h:=(GZ (A:=k.m) (B:=l.m) (gm hk e) (gm a e)).2;rw[Ip,nS,f,oS1];by_cases z:k.m=l.m
 ·rw[ak (by rw[beq_iff_eq];lia),nS,c,oS1];by_cases b:i8 e.bs k.xs=i8 e.bs l.xs
  ·rw[ak (ah b),nS]
   congr 1
   rw[eq_comm,decide_eq_false_iff_not];lia
  ·rw[aj (by rw[al];exact b),g]
   congr 1
   rw[bS,al,al];lia
 ·rw[aj (by rw[beq_iff_eq];lia),d]
  congr 1
  rw[bS,al,al];lia
theorem Ky.und(k:Ky)(e:E4)(n:Nat):(k.d e).und n=M:=by
 rw[<- k.tkD e];exact tS _
theorem Ky.sgu(k:Ky)(e:E4)(n:Nat):(k.sg e).und n=M:=by
 have:=k.und e n;unfold Ky.d at this;simp only[D.und,D.unds,bO,Bool.true_and]at this;exact this
noncomputable def dO(F:List (TK×D)):Ob:=match F with
 |[]=>.dct []
 |_=>.dcT F
theorem G5{F:List (TK×D)}(h:F≠[]):dO F = .dcT F:=by
 cases F with
 |nil=>exact absurd O h
 |cons _ _=>rfl
structure RW (e:E4)(F:List (TK×D)):Prop where
 row:∀p∈F,∃k:Ky,k.Ok/\p.1=k.tk e/\gb p.2
 nd:(F.map (·.1)).Nodup
theorem RW.und{e:E4}{F:List (TK×D)}(h:RW e F)(n:Nat):(dO F).und n=M:=by
 have:D.unds n (F.map (·.2))=M:=Mi.eK λp b=>by
  obtain⟨_,_,_,a⟩:=h.row p b;exact fr a.und
 cases F with
 |nil=>rfl
 |cons _ _=>exact this
theorem FZ{e:E4}{F:List (TK×D)}{k:Ky}{x:D}{n:Nat}{S:Sto}(b:S[n]?=Z (dO F))(c:F.length<=100000):i4 (.ref n) (k.d e) x S=Z (.non,S.set n (dO (e9 F (k.tk e) x))):=by
 cases F with
 |nil=>
  have a:S[n]?=Z (.dct []):=b;simp only[i4,a,k.keyT e];rfl
 |cons p F=>
  have a:S[n]?=Z (.dcT (p::F)):=b;rw[G5 DH];simp only[i4,a,k.keyT e,oS1];rw[ak (bJ c (by decide))]
abbrev Rw:=Ky×D
noncomputable def fF(e:E4)(p:Rw):D:=.tup [p.1.d e,p.2]
def nK(p:Rw):Prop:=p.1.Ok/\gb p.2
theorem RW.list{e:E4}:∀{F:List (TK×D)},(∀p∈F,∃k:Ky,k.Ok/\p.1=k.tk e/\gb p.2) -> ∃L:List Rw,L.map (λp=>(p.1.tk e,p.2))=F /\ ∀p∈L,nK p
 |[],_=>⟨[],O,λp a=>by cases a⟩
 |x::F,h=>by
  obtain⟨L,h1,h2⟩:=RW.list (F:=F) λp a=>h p (mC1 _ a);obtain⟨k,d,c,b⟩:=h x mS1;refine⟨(k,x.2)::L,by rw[mP1,h1,<- c],λp a=>?_⟩;rcases aF.mp a with z|z
  ·subst z;exact⟨d,b⟩
  ·exact h2 p z
theorem DJ(b:Bool)(x:Nat):CM b x=if b=M then .int (cx b x)else .non:=by unfold CM cx;cases b<;>rfl
theorem vW{b:Bool}{x y:Nat}(h:CM b x=CM b y):cx b x=cx b y:=by
 cases b with
 |false=>rfl
 |true=>
  have h':TK.int (x:Int)=TK.int (y:Int):=h;injection h' with h';exact(by lia:x=y)
theorem G6(a b c d x y z w:_):i8 [a,b,c,d] [x,y,z,w]=((cx a x*8+cx b y)*8+cx c z)*8+cx d w:=by
 simp only[i8,lC1,bf];lia
theorem uX{k l:Ky}{e:E4}(hk:k.Ok)(f:l.Ok):k.tk e=l.tk e↔k.code e=l.code e:=by
 obtain⟨a,b,c,d⟩:=e;have q:k.code (a,b,c,d)=k.m*4096+(((cx a k.x*8+cx b k.y)*8+cx c k.z)*8+cx d k.w):=by unfold Ky.code;rw[<- G6];rfl
 have g:l.code (a,b,c,d)=l.m*4096+(((cx a l.x*8+cx b l.y)*8+cx c l.z)*8+cx d l.w):=by unfold Ky.code;rw[<- G6];rfl
 have le:∀(b:Bool) (x:Nat),x<=4->cx b x<=4:=λb x h=>by unfold cx;split<;>lia
 rw[q,g];constructor
 ·intro h;unfold Ky.tk at h;injection h with h;injection h with h1 h2;injection h1 with h1;injection h2 with h2 _;injection h2 with h2;injection h2 with n h2;injection h2 with p2 h2;injection h2 with i h2;injection h2 with j _;rw[vW n,vW p2,vW i,vW j,show k.m=l.m by lia]
 ·intro h;have z:=le a _ hk.x;have A:=le b _ hk.y;have t:=le c _ hk.z;have v:=le d _ hk.w
  have y:=le a _ f.x;have r2:=le b _ f.y;have w:=le c _ f.z;have u:=le d _ f.w
  have m:k.m=l.m:=by lia
  have p:cx a k.x=cx a l.x:=by lia
  have s:cx b k.y=cx b l.y:=by lia
  have r:cx c k.z=cx c l.z:=by lia
  have o:cx d k.w=cx d l.w:=by lia
  unfold Ky.tk;simp only[DJ,m,p,s,r,o]
def C4(e:E4)(L:List Rw):Prop:=L.Pairwise λp q=>p.1.code e<q.1.code e
theorem nw{α:Type}{p q:α->Bool}:∀{l:List α},(∀x∈l,p x=q x)->l.find? p=l.find? q
 |[],_=>rfl
 |a::l,h=>by
  rw[bc,bc,h a mS1,nw λx b=>h x (mC1 _ b)]
theorem im{α:Type}{f:α->Nat}{c:Nat}{a:α}:∀{l:List α},(l.map f).Nodup->((l.find? λx=>decide (f x=c))=Z a↔a∈l/\f a=c)
 |[],_=>by simp
 |b::l,nd=>by
  rw[mP1,aN]at nd;rw[bc];by_cases z:f b=c
  ·rw[ah z];constructor
   ·intro h;cases h;exact⟨mS1,z⟩
   ·rintro⟨h1,h2⟩;rcases aF.mp h1 with y|y
    ·rw[y]
    ·exact absurd (ci.mpr ⟨a,y,h2.trans z.symm⟩) nd.1
  ·rw[ai z];show(l.find? λx=>decide (f x=c))=Z a↔_;rw[im nd.2];constructor
   ·rintro⟨h1,h2⟩;exact⟨mC1 _ h1,h2⟩
   ·rintro⟨h1,h2⟩;rcases aF.mp h1 with y|y
    ·rw[y]at h2;exact absurd h2 z
    ·exact⟨y,h2⟩
theorem w9{α:Type}{f:α->Nat}{c:Nat}{l m:List α}(p:l.Perm m)(nd:(m.map f).Nodup):(l.find? λx=>decide (f x=c))=m.find? λx=>decide (f x=c):=by
 have b:(l.map f).Nodup:=(p.map f).nodup_iff.mpr nd;apply Option.ext;intro a;rw[im b,im nd,p.mem_iff]
theorem C4.le{e:E4}{L:List Rw}(h:C4 e L)(ok:∀p∈L,nK p){i j:Nat}{p q:Rw}(hi:L[i]?=Z p)(a:L[j]?=Z q)(d:i<=j):p.1.m<=q.1.m/\(i<j->p.1.code e<q.1.code e):=by
 have g:=(ok p (gM1 hi)).1;have c:=(ok q (gM1 a)).1;by_cases z:i=j
 ·subst z;rw[hi]at a;cases a;exact⟨nR1 _,λz=>by lia⟩
 ·obtain⟨h1,f⟩:=gE1.mp hi;obtain⟨h2,b⟩:=gE1.mp a;have:=cw.mp h i j h1 h2 (by lia);rw[f,b]at this;refine⟨?_,λ_=>this⟩;have k:=gm g e;have l:=gm c e;unfold Ky.code at this;lia
theorem Iv{e:E4}{L:List Rw}{i:Nat}{p:Rw}{S:Sto}(h:L[i]?=Z p):dW (.tup (L.map (fF e))) (.int (i:Nat)) S=Z (fF e p,S):=by
 obtain⟨x,b,a⟩:=(gy (i:=i) (xs:=L.map (fF e)) (x:=fF e p) (S:=S) (Q:=λx=>x=(fF e p,S)) (by rw[gP1,h];rfl) O);rw[b,a]
theorem Iw{e:E4}{p:Rw}{S:Sto}:dW (fF e p) (.int 0) S=Z (p.1.d e,S):=rfl
theorem JO{e:E4}{p:Rw}{S:Sto}:dW (fF e p) (.int 1) S=Z (p.2,S):=rfl
theorem I9{e:E4}{k:Ky}{S:Sto}:dW (k.d e) (.int 0) S=Z (.int k.m,S):=rfl
theorem JN{e:E4}{k:Ky}{S:Sto}:dW (k.d e) (.int 1) S=Z (k.sg e,S):=rfl
theorem jY{e:E4}{L:List Rw}(ok:∀p∈L,nK p)(n:Nat):(D.tup (L.map (fF e))).und n=M:=by
 rw[D.und];refine Mi.eK λp a=>?_;have h1:=p.1.und e n;have h2:=fr (n:=n) (ok p a).2.und;simp[fF,D.und,D.unds,h1,h2]
theorem EH{e:E4}{L:List Rw}{S:Sto}:eS (.tup (L.map (fF e))) S=Z (.int L.length,S):=by simp[eS,d6]
theorem CC{c:FT}{b:FS}{Q:Fl×Ev×Sto->Prop}(I:Nat->Ev->Sto->Prop)(N:Nat)(step:∀k r S,I k r S->W (c r S) fun p=>if p.1=true then k<N/\W (b r p.2) fun q=>q.1 = .nx/\I (k+1) q.2.1 q.2.2 else Q (.nx,r,p.2)):
  ∀(a k:Nat) (r:Ev) (S:Sto),N-k<a->I k r S->W (qT c b a r S) Q
 |0,k,r,S,hf,_=>by lia
 |a+1,k,r,S,hf,hi=>by
  rw[qT];dsimp only;rw[d5];obtain⟨⟨t,n⟩,e,h⟩:=step k r S hi;refine⟨_,e,?_⟩;dsimp only at h ⊢;cases t with
  |true=>
   rw[ak O]at h ⊢;obtain⟨m,⟨f,l,j⟩,i,d,g⟩:=h;dsimp only at d g;subst d;rw[i,oS1];exact CC I N step a (k+1) l j (by lia) g
  |false=>
   rw[aj (by decide)]at h ⊢;exact eB.mpr h
theorem Ce{e:E4}{L:List Rw}{q:Nat}{S:Sto}{Q:D×Sto->Prop}(c:C4 e L)(ok:∀ p∈L,nK p)(v:L.length<=4000)(h:∀a:Nat,a<=L.length->(∀i p,L[i]?=Z p->i<a->p.1.m<q)->(∀i p,L[i]?=Z p->a<=i->q<=p.1.m)->Q (.int a,S)):W (dX 2 gL [.tup (L.map (fF e)),.int (q:Nat)] S) Q:=by
 refine lQ O (by rw[D.unds,jY ok,D.unds,D.und];rfl) ?_;unfold gL;refine nr ?_;unfold nF;generalize m:D.tup (L.map (fF e))=R;refine eF (λr S=>S=[]/\r=[Z R,Z (.int (q:Nat)),Z (.int ((0:Nat):Int)),Y,Y]) ?_ ?_
 ·walk_at"w";rfl
 rintro r n ⟨rfl,rfl⟩;refine eF (λr S=>S=[]/\r=[Z R,Z (.int (q:Nat)),Z (.int ((0:Nat):Int)),Z (.int (L.length:Nat)),Y]) ?_ ?_
 ·subst m
  ((try walk_at"w");repeat(simp only[EH];try walk_at"w"))
  rw[lM1]
 rintro r n ⟨rfl,rfl⟩;refine eF (λr S=>∃(a:Nat) (d:Option D),S=[]/\a<=L.length/\(∀i p,L[i]?=Z p->i<a->p.1.m<q)/\(∀i p,L[i]?=Z p->a<=i->q<=p.1.m)/\r=[Z R,Z (.int (q:Nat)),Z (.int (a:Nat)),Z (.int (a:Nat)),d]) ?_ ?_
 ·refine CC (λk r S=>∃(a high:Nat) (d:Option D),S=[]/\a<=high/\high<=L.length/\high-a+k<=L.length/\(∀i p,L[i]?=Z p->i<a->p.1.m<q)/\(∀i p,L[i]?=Z p->high<=i->q<=p.1.m)/\r=[Z R,Z (.int (q:Nat)),Z (.int (a:Nat)),Z (.int (high:Nat)),d]) L.length ?_ 100000 0 _ _ (by lia) ⟨0,L.length,_,O,by lia,by lia,by lia,λi p _ z=>by lia,λi p g z=>?_,O⟩
  ·rintro k r S ⟨a,high,d,rfl,h1,h2,s,l,o,rfl⟩;unfold ka;walk_at"w";by_cases z:a<high
   ·rw[ak (by rw[al];lia)];refine⟨by lia,?_⟩;unfold j9;have f:(a+high)/2<L.length:=by lia
    obtain⟨p,g⟩:∃p,L[(a+high)/2]?=some p:=⟨_,gG1 f⟩;have j:nW (.int ((a:Int)+(high:Int))) (.int 2) []=Z (.int (((a+high)/2:Nat):Int),[]):=by
     simp only[nW];rw[ak ⟨by lia,by lia⟩]
     push_cast
     rfl
    subst m
    ((try walk_at"w");repeat(simp only[j,Iv g,Iw,I9];try walk_at"w"))
    by_cases t:p.1.m<q
    ·rw[ak (by rw[al];lia)];refine⟨(a+high)/2+1,high,_,by lia,h2,by lia,λi u b hi=>?_,o,by push_cast;rfl⟩;exact bJ (c.le ok b g (by lia)).1 t
    ·rw[aj (by rw[al];lia)];refine⟨a,(a+high)/2,_,by lia,by lia,by lia,l,λi u b hi=>?_,O⟩;exact aC (by lia) (c.le ok g b hi).1
   ·rw[aj (by rw[al];lia)];have:a=high:=by lia
    subst this;exact⟨a,_,h2,l,o,O⟩
  ·have:=(gE1.mp g).1;lia
 rintro r n ⟨a,d,rfl,h1,h2,s,rfl⟩;walk_at"w";exact⟨O,h a h1 h2 s⟩
theorem xY{c:FT}{b:FS}{Q:Fl×Ev×Sto->Prop}(I:Nat->Ev->Sto->Prop)(N:Nat)(step:∀k r S,I k r S->W (c r S) fun p=>if p.1=true then k<N/\W (b r p.2) fun q=>(q.1 = .nx/\I (k+1) q.2.1 q.2.2) \/ ∃d,q.1 = .rt d/\Q q else Q (.nx,r,p.2)):
  ∀(a k:Nat) (r:Ev) (S:Sto),N-k<a->I k r S->W (qT c b a r S) Q
 |0,k,r,S,hf,_=>by lia
 |a+1,k,r,S,hf,hi=>by
  rw[qT];dsimp only;rw[d5];obtain⟨⟨t,u⟩,e,h⟩:=step k r S hi;refine⟨_,e,?_⟩;dsimp only at h ⊢;cases t with
  |true=>
   rw[ak O]at h ⊢;obtain⟨s,⟨f,o,n⟩,l,j⟩:=h;rw[l,oS1];rcases j with⟨g,i⟩|⟨d,g,m⟩
   ·dsimp only at g i;subst g;exact xY I N step a (k+1) o n (by lia) i
   ·dsimp only at g;subst g;exact eB.mpr m
  |false=>
   rw[aj (by decide)]at h ⊢;exact eB.mpr h
theorem GW{k l:Ky}{e:E4}{S:Sto}(hk:k.Ok)(a:l.Ok):oT (k.sg e) (l.sg e) S=Z (.bl (decide (i8 e.bs k.xs=i8 e.bs l.xs)),S):=by
 show(gp S (58+1+1) (k.sg e) (l.sg e)).map _=_;rw[Ky.sg_zip,Ky.sg_zip,GX,qx O O hk.all a.all];rfl
theorem C4.nd{e:E4}:∀{L:List Rw},C4 e L->(L.map λp=>p.1.code e).Nodup:=λh=>
 dj.mpr (List.Pairwise.imp (λz=>nN1 z) h)
noncomputable def uE(k:Ky):D:=.tup [.int k.m,.str "leave",.non]
noncomputable def kG(e:E4)(L:List Rw)(k:Ky):D:=((L.find? λp=>decide (p.1.code e=k.code e)).map (·.2)).getD (uE k)
theorem Ak{e:E4}{L:List Rw}{k:Ky}{E:D}{S:Sto}{Q:D×Sto->Prop}(l:C4 e L)(ok:∀ p∈L,nK p)(H:L.length<=4000)(hk:k.Ok)(N:E.und 0=M)(q:Q (kG e L k,S)):W (dX 3 f0 [.tup [E,.tup (L.map (fF e))],.int k.m,k.sg e] S) Q:=by
 refine lQ O (by
  have C:=jY (e:=e) ok 0;have r2:=k.sgu e 0;rw[D.und]at C;simp[D.unds,D.und,N,C,r2]) ?_
 unfold f0;refine nr ?_;unfold pz;generalize F:D.tup [E,.tup (L.map (fF e))]=ao;refine eF (λr S=>S=[]/\r=[Z ao,Z (.int k.m),Z (k.sg e),Z (.tup (L.map (fF e))),Y]) ?_ ?_
 ·subst F;have am:dW (.tup [E,.tup (L.map (fF e))]) (.int 1) []=Z (.tup (L.map (fF e)),[]):=rfl
  ((try walk_at"w");repeat(simp only[am];try walk_at"w"))
 rintro r au ⟨rfl,rfl⟩;refine eF (λr S=>∃a:Nat,S=[]/\a<=L.length/\(∀i p,L[i]?=Z p->i<a->p.1.m<k.m)/\(∀i p,L[i]?=Z p->a<=i->k.m<=p.1.m)/\r=[Z ao,Z (.int k.m),Z (k.sg e),Z (.tup (L.map (fF e))),Z (.int (a:Nat))]) ?_ ?_
 ·walk_at"w";refine Ce l ok H λa h1 h2 u=>?_;exact⟨a,O,h1,h2,u,O⟩
 rintro r au ⟨a,rfl,h1,h2,u,rfl⟩;have hnd:=l.nd;have d:(∀(i:Nat) (p:Rw),L[i]?=Z p->p.1.code e≠k.code e)->kG e L k=uE k:=λh=>by
  unfold kG;rw[List.find?_eq_none.mpr λp c=>?_]
  ·rfl
  ·obtain⟨i,hi⟩:=br c;rw[al];exact h i p hi
 have o:∀p,p∈L->p.1.m≠k.m->p.1.code e≠k.code e:=λp c v z=>by
  have:=(GZ (A:=p.1.m) (B:=k.m) (gm (ok p c).1 e) (gm hk e)).1.mp z;exact v this.1
 unfold d9;refine d5.mpr ?_;refine xY (λj r S=>S=[]/\a+j<=L.length/\(∀i p,L[i]?=Z p->i<a+j->p.1.code e≠k.code e)/\r=[Z ao,Z (.int k.m),Z (k.sg e),Z (.tup (L.map (fF e))),Z (.int ((a+j:Nat):Int))]) L.length ?_ 100000 0 _ _ (by lia) ⟨O,by lia,λi p c hi=>o p (gM1 c) (by have:=h2 i p c (by lia);lia),O⟩;rintro j r S ⟨rfl,P,t,rfl⟩;unfold lG;by_cases y:a+j<L.length
 ·obtain⟨p,c⟩:∃p,L[a+j]?=some p:=⟨_,gG1 y⟩;have m:=gM1 c
  ((try walk_at"w");repeat(simp only[EH,Iv c,Iw,I9,lM1];try walk_at"w"))
  rw[ak (by rw[al];lia)];by_cases K:p.1.m=k.m
  ·rw[ak (by rw[beq_iff_eq];lia)];refine⟨by lia,?_⟩;unfold lF
   ((try walk_at"w");repeat(simp only[Iv c,Iw,JN,JO,GW (ok p m).1 hk];try walk_at"w"))
   have g:p.1.code e=k.code e↔i8 e.bs p.1.xs=i8 e.bs k.xs:=by unfold Ky.code;rw[K];lia
   by_cases hc:i8 e.bs p.1.xs=i8 e.bs k.xs
   ·rw[ak (ah hc)];right;have G:(L.find? λp=>decide (p.1.code e=k.code e))=Z p:=(im (f:=λp:Rw=>p.1.code e) hnd).mpr ⟨m,g.mpr hc⟩;have I:kG e L k=p.2:=by unfold kG;rw[G];rfl
    rw[I]at q;exact⟨_,O,(ok p m).2.und,q⟩
   ·rw[aj (by rw[al];exact hc)];refine W.of (x:=(.nx,[Z ao,Z (.int k.m),Z (k.sg e),Z (.tup (L.map (fF e))),Z (.int (((a+j:Nat):Int)+1))],[])) O ?_;left;refine⟨O,O,by lia,λi n b hi=>?_,by push_cast;rfl⟩;by_cases s:i=a+j
    ·subst s;rw[c]at b;cases b;exact λz=>hc (g.mp z)
    ·exact t i n b (by lia)
  ·rw [if_neg (by rw [beq_iff_eq];lia)];have w:kG e L k=uE k:=d fun i n b=>by
    by_cases hi:i<a+j
    ·exact t i n b hi
    ·have b1:=u (a+j) p c (by lia);have b2:=(l.le ok c b (by lia)).1;exact o n (gM1 b) (by lia)
   rw[w]at q;exact⟨O,q⟩
 ·((try walk_at"w");repeat(simp only[EH,lM1];try walk_at"w"))
  rw[aj (by rw[al];lia)];have w:kG e L k=uE k:=d λi n b=>by
   have:=(gE1.mp b).1;exact t i n b (by lia)
  rw[w]at q;exact⟨O,q⟩
noncomputable def dm:D->Nat
 | .tup [.int m,_,_]=>m.toNat
 |_=>0
noncomputable def dh:D->Str
 | .tup [_,.str h,_]=>h
 |_=>""
noncomputable def dt:D->Option Nat
 | .tup [_,_,.int t]=>Z t.toNat
 |_=>Y
noncomputable def tD:Option Nat->D
 |none=>.non
 |some t=>.int (t:Nat)
theorem gb.eta{x:D}(h:gb x):x = .tup [.int (dm x:Nat),.str (dh x),tD (dt x)]/\dm x<4000:=by
 obtain⟨m,y,t,rfl,a,h1,h2⟩:=h.is;simp only[nj,aF,bN,or_false]at h1;simp only[lr,aF,bN,or_false]at h2;rcases h1 with e|e|e<;>subst e<;>rcases h2 with e|e|e|e|e<;>subst e<;>exact⟨O,a⟩
noncomputable def eL(w:ew)(u:Wk)(x:D):Wk:=match dt x with
 |some t=>match (w[u.1]?).bind (·[t]?)with
  |some p=>(p.1,p.2+1,dm x)
  |none=>(u.1,u.2.1,dm x)
 |none=>(u.1,u.2.1,dm x)
theorem zF{t:Nat}{S:Sto}:B9 (.int (t:Nat)) .non S=Z (.bl J,S):=rfl
theorem EV{S:Sto}:B9 .non .non S=Z (.bl M,S):=rfl
theorem wx{w:ew}{u:Wk}{row:List (Nat×Nat)}{x:D}{S:Sto}{Q:D×Sto->Prop}(hr:w[u.1]?=Z row)(hx:gb x)(q:Q (ff (eL w u x),S)):W (dX 3 ik [webD w,ff u,x] S) Q:=by
 refine lQ O (by simp[D.unds,fL,hx.und];rfl) ?_;unfold ik;refine nr ?_;unfold px;have ex:=hx.eta.1;unfold eL at q;simp only[hr,oS1]at q;generalize o:dm x=m at *
 generalize l:dh x=h at *
 generalize n:dt x=t at *
 refine eF (λr V=>V=[]/\r=[Z (webD w),Z (ff u),Z x,Z (.int u.1),Z (.int u.2.1),Z (.int u.2.2),Y,Y,Y,Y,Y]) ?_ ?_
 ·generalize k:ff u=U;have b:U = .tup [.int u.1,.int u.2.1,.int u.2.2]:=k.symm;subst b;walk_at"w"
 rintro r V ⟨rfl,rfl⟩;refine eF (λr V=>V=[]/\r=[Z (webD w),Z (ff u),Z x,Z (.int u.1),Z (.int u.2.1),Z (.int u.2.2),Z (.int (m:Nat)),Z (.str h),Z (tD t),Y,Y]) ?_ ?_
 ·subst ex;walk_at"w"
 rintro r V ⟨rfl,rfl⟩;cases t with
 |none=>
  have c:tD Y = .non:=rfl;rw[c]
  ((try walk_at"w");repeat(simp only[EV];try walk_at"w"))
  exact⟨O,q⟩
 |some t=>
  have c:tD (Z t) = .int (t:Nat):=rfl;rw[c];have d:∀a,dW (webD w) (.int (u.1:Nat)) a=Z (.tup (row.map pD),a):=λa=>by
   obtain⟨p,e,h⟩:W (dW (webD w) (.int (u.1:Nat)) a) λp=>p=(.tup (row.map pD),a):=wf hr O;rw[e,h]
  dsimp only at q;by_cases j:t<row.length
  ·have f:=gG1 j;rw[f]at q;refine eF (λr V=>V=[]/\r=[Z (webD w),Z (ff u),Z x,Z (.int u.1),Z (.int u.2.1),Z (.int u.2.2),Z (.int (m:Nat)),Z (.str h),Z (.int (t:Nat)),Y,Y]) ?_ ?_
   ·((try walk_at"w");repeat(simp only[zF,d,gC,lM1];try walk_at"w"))
    rw[aj (by rw[al];lia)];trivial
   rintro r V ⟨rfl,rfl⟩;have g:∀a,dW (.tup (row.map pD)) (.int (t:Nat)) a=Z (pD row[t],a):=λa=>by
    obtain⟨p,e,h⟩:W (dW (.tup (row.map pD)) (.int (t:Nat)) a) λp=>p=(pD row[t],a):=gy (by rw[gP1,f];rfl) O;rw[e,h]
   generalize row[t]=p at *
   refine eF (λr V=>V=[]/\r=[Z (webD w),Z (ff u),Z x,Z (.int u.1),Z (.int u.2.1),Z (.int u.2.2),Z (.int (m:Nat)),Z (.str h),Z (.int (t:Nat)),Z (.int p.1),Z (.int p.2)]) ?_ ?_
   ·((try walk_at"w");repeat(simp only[d,g,pD];try walk_at"w"))
   rintro r V ⟨rfl,rfl⟩;walk_at"w";have i:(1:Int)+(p.2:Int)=((p.2+1:Nat):Int):=by lia
   rw[i];exact⟨O,q⟩
  ·rw[b6 (by lia)]at q
   ((try walk_at"w");repeat(simp only[zF,d,gC,lM1];try walk_at"w"))
   rw[ak (by rw[al];lia)];exact⟨O,q⟩
theorem wH{S:Sto}{x n:Nat}{cs:List Nat}(h:S[n]?=Z (.lst (eP cs))):fG (.int x) (.ref n) S=Z (.bl (!cs.contains x),S):=by
 simp only[fG,iE,lg,h,d6,oS1,eN,show(60:Nat)=59+1 from rfl,uv,oP1]
theorem vD{x:D}(h:gb x)(S:Sto):dW x (.int 1) S=Z (.str (dh x),S):=by
 have e:=h.eta.1;generalize dm x=a at e;generalize dt x=c at e;generalize dh x=b at *
 subst e;rfl
theorem vC{u:Wk}{S:Sto}:dW (ff u) (.int 0) S=Z (.int u.1,S):=rfl
theorem ql{u:Wk}{S:Sto}:dW (ff u) (.int 2) S=Z (.int u.2.2,S):=rfl
noncomputable def gQ(ws:List Wk)(dd:Wk->D)(h:Str)(r:Nat):Bool:=ws.any λu=>u.1 == r&&dh (dd u) == h
noncomputable def ej(m:Nat)(ws:List Wk)(dd:Wk->D)(cs:List Nat):List Nat:=(af m).filter λr=>gQ ws dd "mark" r||(cs.contains r && !gQ ws dd "wipe" r)
theorem Ed(a b:List Nat):eP a++eP b=eP (a++b):=by simp[eP]
noncomputable def nM(ws:List Wk)(dd:Wk->D)(h:Str):List Nat:=(ws.filter λu=>dh (dd u) == h).map (·.1)
theorem wc{ws:List Wk}{dd:Wk->D}{h:Str}{r:Nat}:r∈nM ws dd h↔gQ ws dd h r=M:=by
 unfold nM gQ;rw[ci,bT];constructor
 ·rintro⟨u,a,rfl⟩;obtain⟨h1,h2⟩:=aA.mp a;exact⟨u,h1,by simp[h2]⟩
 ·rintro⟨u,a,e⟩;rw[bA1,beq_iff_eq]at e;exact⟨u,aA.mpr ⟨a,e.2⟩,e.1⟩
theorem zP{h:Str}{ws:List Wk}{dd:Wk->D}{n:Nat}{S:Sto}{Q:D×Sto->Prop}{m:FA}{r:Ev}(hd:∀ u∈ws,gb (dd u))(c:ws.length<=8)(a:S[n]? = Z (.lst (ws.map dd)))(hm:m r S=Z ([.tup (eA ws),.ref n],S))(hr:nT 2 [] r=[Y,Y])(q:Q (.ref S.length,S++[.lst (eP (nM ws dd h))])):W (e6 2 [] (AF m) (gT 2 (gCs (gN 0) (gCs (gN 1) gNl))) (mB (m2 (b2 oT) (m2 (b2 dW) (mV 1) (mC (D.int (1)))) (mC (D.str h)))) (eI (m2 (b2 dW) (mV 0) (mC (D.int (0))))) r S) Q:=by
 rw[kT];refine qM hm a ?_;dsimp only;rw[hr,eA,mq];refine hB (λu:Wk=>dh (dd u) == h) (λu:Wk=>D.int u.1) (λr=>∃x y,r=[x,y]) (gZ a) ws _ ⟨_,_,O⟩ ?_ λf _=>?_
 ·rintro u b r ⟨x,y,rfl⟩
  ((try walk_at"w");repeat(simp only[vD (hd u b)];try walk_at"w"))
  refine⟨⟨_,_,O⟩,λ_=>?_⟩
  ((try walk_at"w");repeat(simp only[vC];try walk_at"w"))
 ·have e:(ws.filter λu:Wk=>dh (dd u) == h).map (λu:Wk=>D.int (u.1:Nat))=eP (nM ws dd h):=by unfold eP nM;rw[bv];rfl
  rw[e];have d:=dq (λu:Wk=>dh (dd u) == h) ws;refine⟨ea ?_,q⟩;dsimp only;rw[jD];unfold nM;rw[lM1];lia
theorem w5{m:Nat}{ws:List Wk}{cs:List Nat}{dd:Wk->D}{n:Nat}{S:Sto}{Q:D×Sto->Prop}(hd:∀ u∈ws,gb (dd u))(p:ws.length<=8)(hc:cs.length<=8)(hw:∀ u∈ws,u.1<m)(o:∀ r∈cs,r<m)(l:S[n]? = Z (.lst (ws.map dd)))(k:S.all (Ob.und S.length)=M)(q:Q (.tup (eP (ej m ws dd cs)),S)):W (dX 2 il [dZ ws cs,.ref n] S) Q:=by
 refine lP O (by simp[D.unds,D.und]) ?_;unfold il;refine nr ?_;unfold py;have C:=(gE1.mp l).1;refine eF (λr V=>V=S/\r=[Z (dZ ws cs),Z (.ref n),Z (.tup (eA ws)),Z (.tup (eP cs)),Y,Y,Y]) ?_ ?_
 ·generalize z:dZ ws cs=ao;have j:ao = .tup [.tup (eA ws),.tup (eP cs)]:=z.symm;subst j;walk_at"w"
 rintro r V ⟨F,rfl⟩;subst F;refine eF (λr g=>g=V++[.lst (eP (nM ws dd "mark"))]/\r=[Z (dZ ws cs),Z (.ref n),Z (.tup (eA ws)),Z (.tup (eP cs)),Z (.ref V.length),Y,Y]) ?_ ?_
 ·unfold eh;refine d5.mpr (zP hd p l O O ?_);walk_at"w"
 rintro r a ⟨b,rfl⟩;have B:a[n]?=Z (.lst (ws.map dd)):=by rw[b,gL1 C];exact l
 have w:a[V.length]?=Z (.lst (eP (nM ws dd "mark"))):=by rw[b,ee];rfl
 refine eF (λr g=>g=a++[.lst (eP (nM ws dd "wipe"))]/\r=[Z (dZ ws cs),Z (.ref n),Z (.tup (eA ws)),Z (.tup (eP cs)),Z (.ref V.length),Z (.ref a.length),Y]) ?_ ?_
 ·unfold eh;refine d5.mpr (zP hd p B O O ?_);walk_at"w"
 rintro r i ⟨d,rfl⟩;have s:i[V.length]?=Z (.lst (eP (nM ws dd "mark"))):=by rw[d,gL1 (gE1.mp w).1];exact w
 have H:i[a.length]?=Z (.lst (eP (nM ws dd "wipe"))):=by rw[d,ee];rfl
 refine eF (λr g=>g=i++[.lst (eP (cs.filter λr=> !(nM ws dd "wipe").contains r))]/\r=[Z (dZ ws cs),Z (.ref n),Z (.tup (eA ws)),Z (.tup (eP cs)),Z (.ref V.length),Z (.ref a.length),Z (.ref i.length)]) ?_ ?_
 ·walk_at"w";rw[iR];refine hB (f:=λr:Nat=>D.int r) (λr:Nat=> !(nM ws dd "wipe").contains r) (λr:Nat=>D.int r) (λr=>∃x,r=[x,Z (.ref a.length)]) O cs _ ⟨_,O⟩ ?_ λI _=>?_
  ·rintro u t r ⟨x,rfl⟩
   ((try walk_at"w");repeat(simp only[wH H];try walk_at"w"))
   exact⟨⟨_,O⟩,λ_=>trivial⟩
  ·walk_at"w";have A:=dq (λr:Nat=> !(nM ws dd "wipe").contains r) cs;exact⟨ea (by rw[lM1];lia),O,trivial⟩
 rintro r v ⟨c,rfl⟩;have G:v[V.length]?=Z (.lst (eP (nM ws dd "mark"))):=by rw[c,gL1 (gE1.mp s).1];exact s
 have y:v[i.length]?=Z (.lst (eP (cs.filter λr=> !(nM ws dd "wipe").contains r))):=by rw[c,ee];rfl
 have A:=dq (λr:Nat=> !(nM ws dd "wipe").contains r) cs;have am:(nM ws dd "mark").length<=ws.length:=by unfold nM;rw[lM1];exact dq _ _
 walk_at"w";refine(Ay y G).mpr ⟨ea (by rw[jD,jD];lia),?_⟩;rw[Ed];refine xA (xs:=cs.filter (λr=> !(nM ws dd "wipe").contains r)++nM ws dd "mark") (m:=m) (f:=λr=>gQ ws dd "mark" r||(cs.contains r && !gQ ws dd "wipe" r)) (by rw[ee];rfl) (λr=>?_) (by rw[lA1];lia) ?_
 ·have E:(nM ws dd "wipe").contains r=gQ ws dd "wipe" r:=by
   rw[bS,cR,wc]
  rw[aG,aA,wc,E];constructor
  ·rintro(⟨h1,h2⟩|h1)
   ·exact⟨o r h1,by rw[cR.mpr h1,h2];simp⟩
   ·refine⟨?_,by rw[h1];rfl⟩;unfold gQ at h1;obtain⟨u,t,e⟩:=bT.mp h1;rw[bA1,beq_iff_eq]at e;rw[<- e.1];exact hw u t
  ·rintro⟨_,h⟩;rw[bQ,bA1]at h;rcases h with h|⟨h1,h2⟩
   ·exact .inr h
   ·exact .inl ⟨cR.mp h1,h2⟩
 ·walk_at"w";refine eG (xs:=eP (ej m ws dd cs)) (by rw[g9];rfl) ?_;rw[qt (by rw[D.und];exact qg _) k (by rw[c,d,b];simp only[bI];exact bw _ _)];exact q
theorem BA{m:Nat}{w:ew}{ws:List Wk}{cs:List Nat}{dd:Wk->D}{n:Nat}{S:Sto}{Q:D×Sto->Prop}(h:w.length=m)(hd:∀ u∈ws,gb (dd u))(s:ws.length<=8)(hc:cs.length<=8)(hw:∀ u∈ws,u.1<m)(i:∀ r∈cs,r<m)(f:S[n]? = Z (.lst (ws.map dd)))(b:S.all (Ob.und S.length)=M)(q:Q (dZ (ws.map λu=>eL w u (dd u)) (ej m ws dd cs),S)):W (dX 3 kk [webD w,dZ ws cs,.ref n] S) Q:=by
 refine lP O (by simp[D.unds,D.und]) ?_;unfold kk;refine nr ?_;unfold v9;have z:=(gE1.mp f).1;refine eF (λr V=>V=S/\r=[Z (webD w),Z (dZ ws cs),Z (.ref n),Z (.tup (eA ws)),Z (.tup (eP cs)),Y]) ?_ ?_
 ·generalize k:dZ ws cs=ao;have g:ao = .tup [.tup (eA ws),.tup (eP cs)]:=k.symm;subst g;walk_at"w"
 rintro r V ⟨A,rfl⟩;subst A;refine eF (λr t=>t=V++[.lst (eA (ws.map λu=>eL w u (dd u)))]/\r=[Z (webD w),Z (dZ ws cs),Z (.ref n),Z (.tup (eA ws)),Z (.tup (eP cs)),Z (.ref V.length)]) ?_ ?_
 ·unfold eh;refine d5.mpr ?_;rw[kT];refine qM (xs:=eA ws) (ys:=ws.map dd) (n:=n) O f ?_;dsimp only;rw[eA,mq];refine r9 (λu:Wk=>ff (eL w u (dd u))) (λr=>∃x y,r=[x,y,Z (webD w)]) (gZ f) ws _ ⟨_,_,O⟩ ?_ λE _=>?_
  ·rintro u j r ⟨x,y,rfl⟩;obtain⟨row,c⟩:∃row,w[u.1]?=some row:=⟨_,gG1 (by rw[h];exact hw u j)⟩;walk_at"w";refine wx c (hd u j) ?_;exact⟨O,O,_,_,O⟩
  ·have e:ws.map (λu:Wk=>ff (eL w u (dd u)))=eA (ws.map λu=>eL w u (dd u)):=by unfold eA;rw[bv];rfl
   rw[e];refine⟨ea (by dsimp only;rw[jg,lM1];lia),?_⟩;walk_at"w"
 rintro r d ⟨a,rfl⟩;have l:d[n]?=Z (.lst (ws.map dd)):=by rw[a,gL1 z];exact f
 have B:d[V.length]?=Z (.lst (eA (ws.map λu=>eL w u (dd u)))):=by rw[a,ee];rfl
 have p:d.all (Ob.und d.length)=M:=by
  rw[a,dz,bA1,lA1];rw[bD]at b;refine⟨bD.mpr λo C=>gJ (bt _ _) (b o C),?_⟩;rw[bR,Ob.und,hU (jO _)];rfl
 walk_at"w";refine eG B ?_;refine w5 hd s hc hw i l p ?_;walk_at"w";have v:D.tup [.tup (eA (ws.map λu=>eL w u (dd u))),.tup (eP (ej m ws dd cs))]=dZ (ws.map λu=>eL w u (dd u)) (ej m ws dd cs):=rfl;rw[v,qt fR b (by rw[a];exact bw _ _)];exact q
noncomputable def eyD(e:E4):D:=.tup (fv e.1 e.2.1 e.2.2.1 e.2.2.2)
theorem kE(e:E4):(eyD e).und 0=M:=by unfold eyD;rw[D.und];exact kC _ _ _ _
noncomputable def mcD(e:E4)(L:List Rw):D:=.tup [eyD e,.tup (L.map (fF e))]
theorem mi{e:E4}{L:List Rw}(ok:∀p∈L,nK p):(mcD e L).und 0=M:=by
 have h1:=kE e;have h2:=jY (e:=e) ok 0;unfold mcD;rw[D.und,D.unds,D.unds,h1,h2];rfl
theorem Ah{e:E4}{L:List Rw}{k:Ky}(ok:∀p∈L,nK p)(hk:k.Ok):gb (kG e L k):=by
 unfold kG;cases h:L.find? λp=>decide (p.1.code e=k.code e)with
 |none=>exact⟨k.m,_,_,O,hk.m,by simp[nj],by simp[lr]⟩
 |some p=>exact(ok p (List.mem_of_find?_eq_some h)).2
noncomputable def ky(w:ew)(ws:List Wk)(cs:List Nat)(u:Wk):Ky:=⟨u.2.2,u.2.1,if cs.contains u.1 then 1 else 0,((w[u.1]?).getD []).length,if 1<crowd ws u.1 then 1 else 0⟩
theorem pT{w:ew}{ws:List Wk}{cs:List Nat}{u:Wk}{row:List (Nat×Nat)}{e:E4}(h:w[u.1]?=Z row):u5 e.1 e.2.1 e.2.2.1 e.2.2.2 ws cs u row=(ky w ws cs u).sg e:=by
 have c:∀b:Bool,((if b=M then 1 else 0:Nat):Int)=if b=M then(1:Int)else 0:=λb=>by cases b<;>rfl
 have a:((if 1<crowd ws u.1 then 1 else 0:Nat):Int)=if 1<crowd ws u.1 then(1:Int)else 0:=by split<;>rfl
 unfold u5 t8 Ky.sg IT ky pt;rw[h];dsimp only;rw[c,a];rfl
structure jd (m:Nat)(w:ew)(ws:List Wk)(cs:List Nat):Prop where
 web:nJ m w
 m8:m<=8
 few:ws.length<=8
 cl:cs.length<=8
 wk:∀u∈ws,∃row,w[u.1]?=some row/\u.2.1<=row.length/\u.2.2<4000
 ch:∀r∈cs,r<m
theorem jd.lt{m:Nat}{w:ew}{ws:List Wk}{cs:List Nat}(h:jd m w ws cs):∀u∈ws,u.1<m:=λu a=>by
 obtain⟨b,e,_⟩:=h.wk u a;have:=(gE1.mp e).1;rw[h.web.len]at this;exact this
theorem jd.ky{m:Nat}{w:ew}{ws:List Wk}{cs:List Nat}(h:jd m w ws cs):∀u∈ws,(ky w ws cs u).Ok:=λu b=>by
 obtain⟨a,e,h1,h2⟩:=h.wk u b;have c:=h.web.le a (gM1 e);refine⟨h2,?_,?_,?_,?_⟩
 ·show u.2.1<=4;lia
 ·show(if cs.contains u.1 then 1 else 0)<=4;split<;>lia
 ·show((w[u.1]?).getD []).length<=4;rw[e];exact c
 ·show(if 1<crowd ws u.1 then 1 else 0)<=4;split<;>lia
theorem AS{m:Nat}{w:ew}{ws:List Wk}{cs:List Nat}{e:E4}{S:Sto}{Q:D×Sto->Prop}(h:jd m w ws cs)(q:Q (.ref S.length,S++[.lst (ws.map λu=>(ky w ws cs u).d e)])):W (dX 3 kh [webD w,eyD e,dZ ws cs] S) Q:=by
 refine G7 O (by simp[D.unds,fL,fR,kE]) ?_;unfold kh;refine nr ?_;unfold v8 fu;rw[d5,kT];refine Hh (xs:=eA ws) O ?_;dsimp only;have g:=h.few;rw[eA,Ag];refine r9 (λp:Wk×Nat=>(ky w ws cs p.1).d e) (λr=>∃x y,r=[x,y,Z (webD w),Z (eyD e),Z (dZ ws cs)]) O ws.zipIdx _ ⟨_,_,O⟩ ?_ λi _=>?_
 ·rintro⟨u,k⟩ c r ⟨x,y,rfl⟩;have a:ws[k]?=Z u:=wj c;obtain⟨d,b,_⟩:=h.wk u (gM1 a)
  ((try walk_at"w");repeat(simp only[ql];try walk_at"w"))
  refine AZ a b (by lia) ?_;walk_at"w";rw[pT b];exact⟨O,_,_,O⟩
 ·have f:(ws.zipIdx.map λp:Wk×Nat=>(ky w ws cs p.1).d e)=ws.map λu=>(ky w ws cs u).d e:=tI (λu=>(ky w ws cs u).d e) ws;rw[f];refine⟨ea (by dsimp only;rw[lM1];lia),?_⟩;walk_at"w";exact⟨_,O,Mi.eK λu _=>Ky.und _ e 0,q⟩
noncomputable def ddW(w:ew)(ws:List Wk)(cs:List Nat)(e:E4)(L:List Rw)(u:Wk):D:=kG e L (ky w ws cs u)
noncomputable def pu(m:Nat)(w:ew)(ws:List Wk)(cs:List Nat)(e:E4)(L:List Rw):D:=dZ (ws.map λu=>eL w u (ddW w ws cs e L u)) (ej m ws (ddW w ws cs e L) cs)
theorem Fb{m:Nat}{w:ew}{ws:List Wk}{cs:List Nat}{e:E4}{L:List Rw}{S:Sto}{Q:D×Sto->Prop}(h:jd m w ws cs)(b:C4 e L)(ok:∀p∈L,nK p)(d:L.length<=4000)(q:Q (pu m w ws cs e L,S)):W (dX 3 m3 [webD w,mcD e L,dZ ws cs] S) Q:=by
 refine lQ O (by simp[D.unds,fL,fR,mi ok]) ?_;unfold m3
 refine nr ?_;unfold As
 have i:=h.few;have c:∀u∈ws,gb (ddW w ws cs e L u):=λu a=>Ah ok (h.ky u a);refine eF (λr V=>V=[.lst (ws.map λu=>(ky w ws cs u).d e)]/\r=[Z (webD w),Z (mcD e L),Z (dZ ws cs),Z (.ref 0)]) ?_ ?_
 ·have g:∀S,dW (mcD e L) (.int 0) S=Z (eyD e,S):=λS=>rfl
  ((try walk_at"w");repeat(simp only[g];try walk_at"w"))
  refine AS h ?_;walk_at"w"
 rintro r V ⟨rfl,rfl⟩;unfold fu;rw[d5];have key:W (e6 2 [1] (iJ (mV 3)) (gT 2 (gCs (gN 0) (gCs (gN 1) gNl))) gu (eI (mN (dX 3 f0) (dS (mV 2) (dS (mV 0) (dS (mV 1) dU))))) [Z (webD w),Z (mcD e L),Z (dZ ws cs),Z (.ref 0)] [.lst (ws.map λu=>(ky w ws cs u).d e)]) λp=>p=(.ref 1,[.lst (ws.map λu=>(ky w ws cs u).d e),.lst (ws.map (ddW w ws cs e L))]):=by
  walk_at"w";refine eG (xs:=ws.map λu=>(ky w ws cs u).d e) O ?_;refine r9 (ddW w ws cs e L) (λr=>∃x y,r=[x,y,Z (mcD e L)]) (gZ O) ws _ ⟨_,_,O⟩ ?_ λj _=>?_
  ·rintro u a r ⟨x,y,rfl⟩;unfold Ky.d;walk_at"w";refine Ak b ok d (h.ky u a) (kE e) ?_;exact⟨O,O,_,_,O⟩
  ·refine⟨ea (by dsimp only;rw[lM1];lia),?_⟩;walk_at"w"
 obtain⟨p,f,rfl⟩:=key;generalize e6 2 [1] (iJ (mV 3)) (gT 2 (gCs (gN 0) (gCs (gN 1) gNl))) gu (eI (mN (dX 3 f0) (dS (mV 2) (dS (mV 0) (dS (mV 1) dU)))))=G at *
 ((try walk_at"w");repeat(simp only[f];try walk_at"w"))
 refine BA h.web.len c h.few h.cl h.lt h.ch (dd:=ddW w ws cs e L) O ?_ ?_
 ·rw[bR,bR,Ob.und,Ob.und,Mi.eK λu _=>Ky.und _ e _,Mi.eK λu a=>fr (c u a).und];rfl
 ·exact⟨fR,q⟩
theorem qq{S:Sto}{n:Nat}{x:Str}:∀a:List Str,AE (gp S (n+1)) (.str x) (a.map D.str)=Z (a.contains x)
 |[]=>rfl
 |c::a=>by
  have d:gp S (n+1) (.str c) (.str x)=Z (c == x):=rfl;have b:(c == x)=(x == c):=by rw[bS,beq_iff_eq,beq_iff_eq];exact eq_comm
  rw[mP1,AE,d,b,qq a,List.contains_cons];rfl
theorem B1{S:Sto}{x:Str}{n:Nat}{cs:List Str}(h:S[n]?=Z (.lst (cs.map D.str))):i5 (.str x) (.ref n) S=Z (.bl (cs.contains x),S):=by
 simp only[i5,uA,Ft,h,d6,oS1,eN,show(60:Nat)=59+1 from rfl,qq,oP1]
theorem uk{S:Sto}{x:Str}{n:Nat}{cs:List Str}(h:S[n]?=Z (.lst (cs.map D.str))):fG (.str x) (.ref n) S=Z (.bl (!cs.contains x),S):=by
 simp only[fG,iE,lg,h,d6,oS1,eN,show(60:Nat)=59+1 from rfl,qq,oP1]
noncomputable def nU(ws:List Wk)(dd:Wk->D)(r:Nat):List Str:=(ws.filter λu=>u.1 == r).map λu=>dh (dd u)
theorem B3{ws:List Wk}{dd:Wk->D}{r:Nat}{h:Str}:(nU ws dd r).contains h=gQ ws dd h r:=by
 unfold nU gQ;rw[bS,cR,ci,bT];constructor
 ·rintro⟨u,b,e⟩;obtain⟨h1,h2⟩:=aA.mp b;exact⟨u,h1,by rw[h2,e];simp⟩
 ·rintro⟨u,b,e⟩;rw[bA1,beq_iff_eq (a:=dh (dd u))]at e;exact⟨u,aA.mpr ⟨b,e.1⟩,e.2⟩
theorem pI{ws:List Wk}{cs:List Nat}{S:Sto}:dW (dZ ws cs) (.int 0) S=Z (.tup (eA ws),S):=rfl
theorem C7{ws:List Wk}{cs:List Nat}{S:Sto}:dW (dZ ws cs) (.int 1) S=Z (.tup (eP cs),S):=rfl
theorem xl{m:Nat}{w:ew}{ws:List Wk}{cs:List Nat}{dd:Wk->D}{n:Nat}{S:Sto}{Q:D×Sto->Prop}(A:w.length=m)(hm:m<=8)(hd:∀ u∈ws,gb (dd u))(T:ws.length<=8)(am:S[n]? = Z (.lst (ws.map dd)))(z:S.all (Ob.und S.length)=M)(q:Q (.tup (eP (ej m ws dd cs)),S)):W (dX 3 fE [webD w,dZ ws cs,.ref n] S) Q:=by
 refine lP O (by simp[D.unds,D.und]) ?_;unfold fE;refine nr ?_;unfold jc;have P:=(gE1.mp am).1;refine eF (λr V=>V=S++[.lst (eP [])]/\r=[Z (webD w),Z (dZ ws cs),Z (.ref n),Z (.ref S.length),Y,Y]) ?_ ?_
 ·walk_at"w";exact⟨O,trivial⟩
 rintro r V ⟨R,rfl⟩;refine eF (λr V=>∃G a c,V=S ++ .lst (eP (ej m ws dd cs))::G/\r=[Z (webD w),Z (dZ ws cs),Z (.ref n),Z (.ref S.length),a,c]) ?_ ?_
 ·((try walk_at"w");repeat(simp only[qk];try walk_at"w"))
  rw[ke,Int.toNat_natCast,A];refine⟨fW (by lia),?_⟩;refine fV (λi r V=>∃G a c,i<=m/\V=S ++ .lst (eP (ej i ws dd cs))::G/\r=[Z (webD w),Z (dZ ws cs),Z (.ref n),Z (.ref S.length),a,c]) _ 0 _ _ ⟨[],_,_,by lia,R,O⟩ (λ_ _ _ _=>rfl) ?_ ?_
  ·rintro i d g r H ⟨G,a,c,hi,rfl,rfl⟩;have t:=(gE1.mp g).1;rw[lM1,dA]at t;rw[bP]at *
   have v:d = .int (i:Nat):=by
    rw[gP1,cN t]at g;exact(Option.some.inj g).symm
   subst v;walk_at"w";unfold ij;have C:(S++Ob.lst (eP (ej i ws dd cs))::G)[n]?=Z (.lst (ws.map dd)):=by rw[gL1 P];exact am
   have F:(S++Ob.lst (eP (ej i ws dd cs))::G)[S.length]?=Z (.lst (eP (ej i ws dd cs))):=by rw[ee];rfl
   refine eF (λr V=>V=S ++ .lst (eP (ej i ws dd cs))::G++[.lst ((nU ws dd i).map D.str)]/\r=[Z (webD w),Z (dZ ws cs),Z (.ref n),Z (.ref S.length),Z (.int (i:Nat)),Z (.ref (S++Ob.lst (eP (ej i ws dd cs))::G).length)]) ?_ ?_
   ·unfold eh;rw[d5,kT];refine qM (xs:=eA ws) (ys:=ws.map dd) (n:=n) O C ?_;dsimp only;rw[eA,mq];refine hB (λu:Wk=>u.1 == i) (λu:Wk=>D.str (dh (dd u))) (λr=>∃x y,r=[x,y,Z (.int (i:Nat))]) (gZ C) ws _ ⟨_,_,O⟩ ?_ λU _=>?_
    ·rintro u au r ⟨x,y,rfl⟩
     ((try walk_at"w");repeat(simp only[vC];try walk_at"w"))
     refine⟨?_,⟨_,_,O⟩,λ_=>?_⟩
     ·rw[bS,beq_iff_eq,beq_iff_eq];lia
     ·((try walk_at"w");repeat(simp only[vD (hd u au)];try walk_at"w"))
    ·have e:(ws.filter λu:Wk=>u.1 == i).map (λu:Wk=>D.str (dh (dd u)))=(nU ws dd i).map D.str:=by unfold nU;rw[bv];rfl
     rw[e];have o:=dq (λu:Wk=>u.1 == i) ws;refine⟨ea (by dsimp only;unfold nU;rw[lM1,lM1];lia),?_⟩;walk_at"w"
   rintro r j ⟨k,rfl⟩;have E:j[(S++Ob.lst (eP (ej i ws dd cs))::G).length]?=Z (.lst ((nU ws dd i).map D.str)):=by rw[k,ee];rfl
   have B:j[S.length]?=Z (.lst (eP (ej i ws dd cs))):=by rw[k,gL1 (gE1.mp F).1];exact F
   have f:j=S++Ob.lst (eP (ej i ws dd cs))::(G++[Ob.lst ((nU ws dd i).map D.str)]):=by rw[k];simp
   have p:j.set S.length (.lst (eP (ej i ws dd cs)++[.int (i:Nat)]))=S++Ob.lst (eP (ej i ws dd cs++[i]))::(G++[Ob.lst ((nU ws dd i).map D.str)]):=by
    rw[f,c6 _ _ (nR1 _),cQ,c7];simp[eP]
   have K:∀b:Bool,(gQ ws dd "mark" i||(cs.contains i && !gQ ws dd "wipe" i))=b->ej (i+1) ws dd cs=if b=M then ej i ws dd cs++[i]else ej i ws dd cs:=λb N=>by
    unfold ej;rw[List.range_succ,List.filter_append,di,N];cases b<;>simp
   have L:(ej i ws dd cs).length<=8:=by
    have:=dq (λr=>gQ ws dd "mark" r||(cs.contains r && !gQ ws dd "wipe" r)) (af i);rw[dA]at this;exact aC this (by lia)
   generalize X:(S++Ob.lst (eP (ej i ws dd cs))::G).length=o at *
   have app:∀ Q':D×Sto->Prop,Q' (.non,S++Ob.lst (eP (ej i ws dd cs++[i]))::(G++[Ob.lst ((nU ws dd i).map D.str)])) ->
     W (oI (b2 js) (mV 3) (dS (mV 4) dU) [Z (webD w),Z (dZ ws cs),Z (.ref n),Z (.ref S.length),Z (.int (i:Nat)),Z (.ref o)] j) Q':=λQ' ao=>by
    refine iI ?_;walk_at"w";refine⟨S.length,_,O,B,?_⟩;refine(lU B).mpr ⟨ea (by rw[jD];lia),?_⟩;rw[p];exact ao
   unfold hL;rw[d5]
   ((try walk_at"w");repeat(simp only[B1 E,uk E,C7,zG,B3];try walk_at"w"))
   have l:(gQ ws dd "mark" i||(cs.contains i && !gQ ws dd "wipe" i))=M->W (oI (b2 js) (mV 3) (dS (mV 4) dU) [Z (webD w),Z (dZ ws cs),Z (.ref n),Z (.ref S.length),Z (.int (i:Nat)),Z (.ref o)] j) λx=>∃G a c,i+1<=m/\x.2=S++Ob.lst (eP (ej (i+1) ws dd cs))::G/\[Z (webD w),Z (dZ ws cs),Z (D.ref n),Z (.ref S.length),Z (.int (i:Nat)),Z (.ref o)]=[Z (webD w),Z (dZ ws cs),Z (.ref n),Z (.ref S.length),a,c]:=λh=>by
    have h2:=K M h;rw[ak O]at h2;exact app _ ⟨_,_,_,by lia,by rw[h2],O⟩
   have I:(gQ ws dd "mark" i||(cs.contains i && !gQ ws dd "wipe" i))=J -> ∃G a c,i+1<=m/\j=S++Ob.lst (eP (ej (i+1) ws dd cs))::G/\[Z (webD w),Z (dZ ws cs),Z (D.ref n),Z (.ref S.length),Z (.int (i:Nat)),Z (.ref o)]=[Z (webD w),Z (dZ ws cs),Z (.ref n),Z (.ref S.length),a,c]:=λh=>by
    have h2:=K J h;rw[aj (by decide)]at h2;exact⟨_,_,_,by lia,by rw[h2];exact f,O⟩
   generalize gQ ws dd "mark" i=b1 at *
   generalize cs.contains i=b2 at *
   generalize gQ ws dd "wipe" i=b3 at *
   cases b1
   ·rw[aj (by decide)];cases b2
    ·rw[aj (by decide)];exact I O
    ·rw[ak O];cases b3
     ·rw[ak (by decide)];exact l O
     ·rw[aj (by decide)];exact I O
   ·rw[ak O];exact l O
  ·rintro r H ⟨G,a,c,hi,rfl,rfl⟩;rw[lM1,dA,bP];exact⟨O,_,_,_,O,O⟩
 rintro r H ⟨G,a,c,s,rfl⟩;walk_at"w";refine eG (xs:=eP (ej m ws dd cs)) (by rw[s,ee];rfl) ?_;rw[qt (by rw[D.und];exact qg _) z (by rw[s];exact bw _ _)];exact q
theorem Ci{F:List (TK×D)}{n:Nat}{S:Sto}(h:S[n]?=Z (dO F)):xh S n=Z F:=by
 unfold xh;rw[h];cases F<;>rfl
structure RL (e:E4)(F:List (TK×D))(L:List Rw):Prop where
 inc:C4 e L
 ok:∀p∈L,nK p
 len:L.length<=4000
 lk:∀k:Ky,k.Ok->d3 F (k.tk e)=(L.find? λp=>decide (p.1.code e=k.code e)).map (·.2)
theorem GN{e:E4}{F:List (TK×D)}{L:List Rw}{k:Ky}{n:Nat}{S:Sto}{a b c:FE}{r:Ev}{Q:D×Sto->Prop}(d:RL e F L)(hk:k.Ok)(ha:a r S=Z (.ref n,S))(f:S[n]?=Z (dO F))(hb:b r S=Z (k.d e,S))(hc:c r S=Z (uE k,S))(q:Q (kG e L k,S)):W (qi a b c r S) Q:=by
 refine W.of (x:=(kG e L k,S)) ?_ q;simp only[qi,ha,hb,hc,oS1,Ci f,k.keyT e];rw[oP1,d.lk k hk];rfl
theorem BP{m:Nat}{w:ew}{ws:List Wk}{cs:List Nat}{e:E4}{F:List (TK×D)}{L:List Rw}{n:Nat}{S:Sto}{Q:D×Sto->Prop}(h:jd m w ws cs)(rl:RL e F L)(hS:S[n]? = some (dO F))(H:S.all (Ob.und S.length)=true)(q:Q (pu m w ws cs e L,S)):
  W (dX 4 gk [webD w,eyD e,.ref n,dZ ws cs] S) Q:=by
 refine lP O (by simp[D.unds,D.und]) ?_;unfold gk
 refine nr ?_;unfold lT
 have hn:=(gE1.mp hS).1;have hf:=h.few;have hd:∀u∈ws,gb (ddW w ws cs e L u):=λu A=>Ah rl.ok (h.ky u A);have N:∀a b:Ob,(S++[a,b])[S.length]?=Z a:=λa b=>by rw[ee];rfl
 have K:∀a b:Ob,(S++[a,b])[S.length+1]?=Z b:=λa b=>by rw[g9];rfl
 have st:∀a b c:Ob,(S++[a,b]).set S.length c=S++[c,b]:=λa b c=>by rw[c6 _ _ (nR1 _),cQ];rfl
 have T:∀a b c:Ob,(S++[a,b]).set (S.length+1) c=S++[a,c]:=λa b c=>by rw[c6 _ _ (by lia),show S.length+1-S.length=1 by lia];rfl
 have hSn:∀a b:Ob,(S++[a,b])[n]?=Z (dO F):=λa b=>by rw[gL1 hn];exact hS
 refine eF (λr V=>V=S++[.lst [],.lst []]/\r=[Z (webD w),Z (eyD e),Z (.ref n),Z (dZ ws cs),Z (.ref S.length),Z (.ref (S.length+1)),Y,Y,Y,Y,Y,Y,Y]) ?_ ?_
 ·walk_at"w"
 rintro r V ⟨rfl,rfl⟩;refine eF (λr V=>∃j y,V=S++[.lst (ws.map (ddW w ws cs e L)),.lst []]/\r=[Z (webD w),Z (eyD e),Z (.ref n),Z (dZ ws cs),Z (.ref S.length),Z (.ref (S.length+1)),j,y,Y,Y,Y,Y,Y]) ?_ ?_
 ·((try walk_at"w");repeat(simp only[pI,gC,jg];try walk_at"w"))
  rw[ke,Int.toNat_natCast];refine⟨fW (by lia),?_⟩;refine fV (λi r V=>∃j y,i<=ws.length/\V=S++[.lst ((ws.take i).map (ddW w ws cs e L)),.lst []]/\r=[Z (webD w),Z (eyD e),Z (.ref n),Z (dZ ws cs),Z (.ref S.length),Z (.ref (S.length+1)),j,y,Y,Y,Y,Y,Y]) _ 0 _ _ ⟨_,_,by lia,O,O⟩ (λ_ _ _ _=>rfl) ?_ ?_
  ·rintro i d x r au ⟨j,y,hi,rfl,rfl⟩;have z:=(gE1.mp x).1;rw[lM1,dA]at z;rw[bP]at *
   have R:d = .int (i:Nat):=by
    rw[gP1,cN z]at x;exact(Option.some.inj x).symm
   subst R;walk_at"w";unfold jy;obtain⟨u,A⟩:∃u,ws[i]?=some u:=⟨_,gG1 z⟩;have B:=gM1 A;obtain⟨g,ao,_⟩:=h.wk u B;have U:∀f,dW (.tup (eA ws)) (.int (i:Nat)) f=Z (ff u,f):=λf=>by
    obtain⟨p,e,h⟩:W (dW (.tup (eA ws)) (.int (i:Nat)) f) λp=>p=(ff u,f):=gy (by rw[eA,gP1,A];rfl) O;rw[e,h]
   refine eF (λr V=>V=S++[.lst ((ws.take i).map (ddW w ws cs e L)),.lst []]/\r=[Z (webD w),Z (eyD e),Z (.ref n),Z (dZ ws cs),Z (.ref S.length),Z (.ref (S.length+1)),Z (.int (i:Nat)),Z (.int u.2.2),Y,Y,Y,Y,Y]) ?_ ?_
   ·((try walk_at"w");repeat(simp only[pI,U,ql];try walk_at"w"))
   rintro r au ⟨rfl,rfl⟩;unfold fi;rw[d5];refine iI ?_;walk_at"w";refine⟨S.length,_,O,N _ _,?_⟩;have es:W (eQ (dS (mV 7) (dS (mN (dX 4 eX) (dS (mV 0) (dS (mV 1) (dS (mV 3) (dS (mV 6) dU))))) dU)) [Z (webD w),Z (eyD e),Z (.ref n),Z (dZ ws cs),Z (.ref S.length),Z (.ref (S.length+1)),Z (.int (i:Nat)),Z (.int u.2.2),Y,Y,Y,Y,Y] (S++[.lst ((ws.take i).map (ddW w ws cs e L)),.lst []])) λp=>p=((ky w ws cs u).d e,S++[.lst ((ws.take i).map (ddW w ws cs e L)),.lst []]):=by
    walk_at"w";refine si A ao (by lia) ?_;walk_at"w";rw[pT ao];rfl
   obtain⟨p,es,rfl⟩:=es;refine GN (n:=n) (F:=F) (L:=L) (e:=e) (k:=ky w ws cs u) rl (h.ky u B) O (hSn _ _) es O ?_;walk_at"w";refine(lU (N _ _)).mpr ⟨ea (by rw[lM1,aQ];lia),?_⟩;refine⟨_,_,by lia,?_,O⟩;rw[st,cH,A,cG];rfl
  ·rintro r au ⟨j,y,hi,rfl,rfl⟩;rw[lM1,dA,bP,b4];exact⟨O,_,_,O,O⟩
 rintro r V ⟨j,y,rfl,rfl⟩;refine eF (λr V=>∃j y E C v l s,V=S++[.lst (ws.map (ddW w ws cs e L)),.lst (eA (ws.map λu=>eL w u (ddW w ws cs e L u)))]/\r=[Z (webD w),Z (eyD e),Z (.ref n),Z (dZ ws cs),Z (.ref S.length),Z (.ref (S.length+1)),j,y,E,C,v,l,s]) ?_ ?_
 ·unfold iW;rw[d5];refine qM (xs:=eA ws) (ys:=ws.map (ddW w ws cs e L)) (n:=S.length) O (N _ _) ?_;dsimp only;have wq:tH (eA ws) (ws.map (ddW w ws cs e L))=ws.map λu=>D.tup [ff u,ddW w ws cs e L u]:=mq ws;rw[wq];refine fV (λi r V=>∃j y E C v l s,i<=ws.length/\V=S++[.lst (ws.map (ddW w ws cs e L)),.lst (eA ((ws.take i).map λu=>eL w u (ddW w ws cs e L u)))]/\r=[Z (webD w),Z (eyD e),Z (.ref n),Z (dZ ws cs),Z (.ref S.length),Z (.ref (S.length+1)),j,y,E,C,v,l,s]) _ 0 _ _ ⟨_,_,_,_,_,_,_,by lia,O,O⟩ (λ_ _ V ⟨_,_,_,_,_,_,_,_,hv,_⟩=>by rw[hv];exact gZ (N _ _)) ?_ ?_
  ·rintro i d x r au ⟨j,y,E,C,v,l,s,hi,rfl,rfl⟩;have z:=(gE1.mp x).1;rw[lM1]at z;rw[bP]at *
   obtain ⟨u,A⟩:∃ u,ws[i]? = some u:=⟨_,gG1 z⟩;have B:=gM1 A;obtain ⟨g,ao,_⟩:=h.wk u B;rw [gP1,A] at x;obtain rfl:d=D.tup [ff u,ddW w ws cs e L u]:=(Option.some.inj x).symm;have hx:=hd u B;have I:eL w u (ddW w ws cs e L u)=match dt (ddW w ws cs e L u) with
     |some t=>match g[t]? with
      |some p=>(p.1,p.2+1,dm (ddW w ws cs e L u))
      |none=>(u.1,u.2.1,dm (ddW w ws cs e L u))
     |none=>(u.1,u.2.1,dm (ddW w ws cs e L u)):=by
    unfold eL;rw[ao];rfl
   have eT:(ws.take (i+1)).map (λu=>eL w u (ddW w ws cs e L u))=(ws.take i).map (λu=>eL w u (ddW w ws cs e L u))++[eL w u (ddW w ws cs e L u)]:=by
    rw[cH,A,cG];rfl
   have ex:=hx.eta.1;generalize hX:ddW w ws cs e L u=X at *
   generalize hm:dm X=dmx at *
   generalize hh:dh X=dhx at *
   generalize ht:dt X=dtx at *
   have U:ff u = .tup [.int u.1,.int u.2.1,.int u.2.2]:=rfl;rw[U,ex];walk_at"w";unfold jx;have G:∀f,dW (webD w) (.int (u.1:Nat)) f=Z (.tup (g.map pD),f):=λf=>by
    obtain⟨p,e,h⟩:W (dW (webD w) (.int (u.1:Nat)) f) λp=>p=(.tup (g.map pD),f):=wf ao O;rw[e,h]
   have lw:((ws.take i).map λu=>eL w u (ddW w ws cs e L u)).length<=8:=by rw[lM1,aQ];lia
   have am:∀(a b:Nat) (j:Option D),eL w u X=(a,b,dmx)->W (fi (oI (b2 js) (mV 5) (dS (eQ (dS (mV 8) (dS (mV 9) (dS (mV 10) dU)))) dU)) [Z (webD w),Z (eyD e),Z (.ref n),Z (dZ ws cs),Z (.ref S.length),Z (.ref (S.length+1)),j,Z (.int u.2.2),Z (.int (a:Nat)),Z (.int (b:Nat)),Z (.int (dmx:Nat)),Z (.str dhx),Z (tD dtx)] (S++[.lst (ws.map (ddW w ws cs e L)),.lst (eA ((ws.take i).map λu=>eL w u (ddW w ws cs e L u)))])) λq=>q.1 = .nx /\ ∃j y E C v l s,i+1<=ws.length/\q.2.2=S++[.lst (ws.map (ddW w ws cs e L)),.lst (eA ((ws.take (i+1)).map λu=>eL w u (ddW w ws cs e L u)))]/\q.2.1=[Z (webD w),Z (eyD e),Z (.ref n),Z (dZ ws cs),Z (.ref S.length),Z (.ref (S.length+1)),j,y,E,C,v,l,s]:=by
    intro a b j aq;unfold fi;rw[d5];refine iI ?_;walk_at"w";refine⟨S.length+1,_,O,K _ _,?_⟩;refine(lU (K _ _)).mpr ⟨ea (by rw[jg];lia),?_⟩;refine⟨_,_,_,_,_,_,_,by lia,?_,O⟩;rw[T,eT,aq];simp[eA,ff]
   cases dtx with
   |none=>
    dsimp only at I;refine eF (λr V=>V=S++[.lst (ws.map (ddW w ws cs e L)),.lst (eA ((ws.take i).map λu=>eL w u (ddW w ws cs e L u)))]/\r=[Z (webD w),Z (eyD e),Z (.ref n),Z (dZ ws cs),Z (.ref S.length),Z (.ref (S.length+1)),j,Z (.int u.2.2),Z (.int u.1),Z (.int u.2.1),Z (.int (dmx:Nat)),Z (.str dhx),Z (tD Y)]) ?_ ?_
    ·have P:hA (tD Y) .non (S++[.lst (ws.map (ddW w ws cs e L)),.lst (eA ((ws.take i).map λu=>eL w u (ddW w ws cs e L u)))])=Z (.bl J,S++[.lst (ws.map (ddW w ws cs e L)),.lst (eA ((ws.take i).map λu=>eL w u (ddW w ws cs e L u)))]):=rfl
     ((try walk_at"w");repeat(simp only[P];try walk_at"w"))
    rintro r V ⟨rfl,rfl⟩;exact am u.1 u.2.1 j I
   |some t=>
    dsimp only at I;have P:∀f,hA (tD (Z t)) .non f=Z (.bl M,f):=λf=>rfl;have el:∀f,xG (tD (Z t)) (.int (g.length:Nat)) f=Z (.bl (decide ((t:Int)<(g.length:Int))),f):=λf=>rfl;by_cases hl:t<g.length
    ·have eg:=gG1 hl;rw [eg] at I;have e2:∀ f,dW (.tup (g.map pD)) (tD (some t)) f=some (pD g[t],f):=fun f=>by
      obtain⟨p,e,h⟩:W (dW (.tup (g.map pD)) (.int (t:Nat)) f) λp=>p=(pD g[t],f):=gy (by rw[gP1,eg];rfl) O;show dW (.tup (g.map pD)) (.int (t:Nat)) f=_;rw[e,h]
     generalize g[t]=p at *
     refine eF (λr V=>V=S++[.lst (ws.map (ddW w ws cs e L)),.lst (eA ((ws.take i).map λu=>eL w u (ddW w ws cs e L u)))]/\r=[Z (webD w),Z (eyD e),Z (.ref n),Z (dZ ws cs),Z (.ref S.length),Z (.ref (S.length+1)),j,Z (.int u.2.2),Z (.int p.1),Z (.int ((p.2+1:Nat):Int)),Z (.int (dmx:Nat)),Z (.str dhx),Z (tD (Z t))]) ?_ ?_
     ·have p0:∀f,dW (pD p) (.int 0) f=Z (.int p.1,f):=λf=>rfl;have p1:∀f,dW (pD p) (.int 1) f=Z (.int p.2,f):=λf=>rfl
      ((try walk_at"w");repeat(simp only[P,G,gC,lM1,el];try walk_at"w"))
      rw[ak (by rw[al];lia)]
      ((try walk_at"w");repeat(simp only[G,e2,p0,p1];try walk_at"w"))
      rw[show(1:Int)+(p.2:Int)=((p.2+1:Nat):Int) by lia]
     rintro r V ⟨rfl,rfl⟩;exact am p.1 (p.2+1) j I
    ·rw[b6 (by lia)]at I;refine eF (λr V=>V=S++[.lst (ws.map (ddW w ws cs e L)),.lst (eA ((ws.take i).map λu=>eL w u (ddW w ws cs e L u)))]/\r=[Z (webD w),Z (eyD e),Z (.ref n),Z (dZ ws cs),Z (.ref S.length),Z (.ref (S.length+1)),j,Z (.int u.2.2),Z (.int u.1),Z (.int u.2.1),Z (.int (dmx:Nat)),Z (.str dhx),Z (tD (Z t))]) ?_ ?_
     ·((try walk_at"w");repeat(simp only[P,G,gC,lM1,el];try walk_at"w"))
      rw[aj (by rw[al];lia)];trivial
     rintro r V ⟨rfl,rfl⟩;exact am u.1 u.2.1 j I
  ·rintro r au ⟨j,y,E,C,v,l,s,hi,rfl,rfl⟩;rw[lM1,bP,b4];exact⟨O,_,_,_,_,_,_,_,O,O⟩
 rintro r V ⟨j,y,E,C,v,l,s,rfl,rfl⟩;walk_at"w";refine eG (K _ _) ?_;refine xl (dd:=ddW w ws cs e L) h.web.len h.m8 hd h.few (N _ _) ?_ ?_
 ·rw[dz,bA1,lA1];rw[bD]at H;refine⟨bD.mpr λo ho=>gJ (bt _ _) (H o ho),?_⟩;rw[bR,bR,Ob.und,Ob.und,hU (jO _),Mi.eK λu A=>fr (hd u A).und];rfl
 walk_at"w";have e2:D.tup [.tup (eA (ws.map λu=>eL w u (ddW w ws cs e L u))),.tup (eP (ej m ws (ddW w ws cs e L) cs))]=pu m w ws cs e L:=rfl;rw[e2,qt (d:=pu m w ws cs e L) fR H (bw _ _)];exact q
noncomputable def pN:List D:=[.non,.int 0,.int 1,.int 2,.int 3,.int 0,.int 1]
noncomputable def nh:List D:=[.str "leave",.str "leave",.str "mark",.str "wipe"]
theorem ww:∀x∈pN,x∈lr:=by
 intro x a;simp only[pN,aF,bN,or_false]at a;rcases a with e|e|e|e|e|e|e<;>subst e<;>simp[lr]
theorem w4:∀x∈nh,x∈nj:=by
 intro x a;simp only[nh,aF,bN,or_false]at a;rcases a with e|e|e|e<;>subst e<;>simp[nj]
theorem E3{o:Ob}{n:Nat}{T:Sto}{Q:D×Sto->Prop}(ho:fY o n)(hn:n<=2^45)(g:T.all (Ob.und (T.length+1))=M)(q:∀x o',gb x->fY o' (n+5)->Q (x,o'::T)):W (dX 1 gj [.ref 0] (o::T)) Q:=by
 refine v4 O O g ?_;unfold gj;refine nr ?_;unfold lS;refine eF (λr S=>∃(t:D) (d:Ob),t∈lr/\fY d (n+1)/\S=d::T/\r=[Z (.ref 0),Z t]) ?_ ?_
 ·walk_at"w";refine fB ho (by lia) (by lia) (by lia) λy b a j=>?_;refine gy (i:=y) (xs:=pN) (x:=pN[y]'(by show y<7;lia)) (gG1 _) ?_;exact⟨_,b,ww _ (bU _),a,O,O⟩
 rintro r S ⟨t,d,h,e,rfl,rfl⟩;walk_at"w";refine fB e (by lia) (by lia) (by lia) λm k c p=>?_;walk_at"w";refine fB c (by lia) (by lia) (by lia) λx b a l=>?_;refine gy (i:=x) (xs:=nh) (x:=nh[x]'(by show x<4;lia)) (gG1 _) ?_;walk_at"w";have f:gb (.tup [.int (m:Nat),nh[x]'(by show x<4;lia),t]):=⟨m,_,_,O,by lia,w4 _ (bU _),h⟩;exact⟨_,b,[],by rw[aM],f.und,a.und,q _ b f (a.more (by lia))⟩
structure RN (e:E4)(F:List (TK×D)):Prop where
 row:∀p∈F,∃k:Ky,k.Ok/\p.1=k.tk e/\(gb p.2\/p.2 = .non)
 nd:(F.map (·.1)).Nodup
theorem RN.nil{e:E4}:RN e []:=⟨λp a=>(by cases a),bq⟩
theorem RN.vu{e:E4}{F:List (TK×D)}(h:RN e F){p:TK×D}(hp:p∈F)(n:Nat):p.2.und n=M:=by
 obtain⟨_,_,_,a⟩:=h.row p hp;rcases a with a|a
 ·exact fr a.und
 ·rw[a];rfl
theorem RN.und{e:E4}{F:List (TK×D)}(h:RN e F)(n:Nat):(dO F).und n=M:=by
 have:D.unds n (F.map (·.2))=M:=Mi.eK λp a=>h.vu a n;cases F with
 |nil=>rfl
 |cons _ _=>exact this
theorem RN.put{e:E4}{F:List (TK×D)}{k:Ky}{x:D}(h:RN e F)(hk:k.Ok)(hx:gb x\/x = .non):RN e (e9 F (k.tk e) x):=by
 unfold e9;split
 ·refine⟨λp c=>?_,?_⟩
  ·obtain⟨g,d,rfl⟩:=ci.mp c;obtain⟨l,h1,h2,n⟩:=h.row g d;by_cases z:g.1=k.tk e
   ·rw[ak z];exact⟨l,h1,h2,hx⟩
   ·rw[aj z];exact⟨l,h1,h2,n⟩
  ·rw [bv];have:(F.map ((fun p:TK×D=>p.1)∘fun p=>if p.1=k.tk e then (p.1,x) else p))=F.map (·.1):=by
    apply dg;intro p _;simp only[Function.comp];split<;>rfl
   rw[this];exact h.nd
 ·rename_i i;refine⟨λp c=>?_,?_⟩
  ·rcases aG.mp c with z|z
   ·exact h.row p z
   ·simp at z;subst z;exact⟨k,hk,O,hx⟩
  ·rw[cG,bB];refine⟨h.nd,by simp,λa j b f z=>?_⟩;simp at f;subst f;subst z;obtain⟨p,c,m⟩:=ci.mp j;exact i (bT.mpr ⟨p,c,ah m⟩)
theorem Ec{S:Sto}{n:Nat}{F:List (TK×D)}{d:D}{k:TK}(h:S[n]?=Z (dO F))(hk:keyT d=Z k):jl d (.ref n) S=Z (.bl (!(d3 F k).isSome),S):=by
 cases F with
 |nil=>
  have h':S[n]?=Z (.dct []):=h;simp only[jl,h',hk];rfl
 |cons p F=>
  have h':S[n]?=Z (.dcT (p::F)):=h;simp only[jl,fG,h',hk,oP1]
theorem gc_same{n:Nat}{p:D×Sto}(h:p.2.length=n):gc n p=p:=by
 unfold gc;rw[<- h,b4];split<;>rfl
def Sub(F F':List (TK×D)):Prop:=∀k d,d3 F k=Z d->d3 F' k=Z d
theorem Sub.refl(F:List (TK×D)):Sub F F:=λ_ _ h=>h
theorem Sub.trans{F G am:List (TK×D)}(a:Sub F G)(b:Sub G am):Sub F am:=λk d h=>b k d (a k d h)
theorem Sub.put{F a:List (TK×D)}{k:TK}{v:D}(s:Sub F a)(h:(d3 F k).isSome=J):Sub F (e9 a k v):=λb d e=>by
 rw[sm];split
 ·rename_i z;subst z;rw[e]at h;cases h
 ·exact s b d e
theorem A6{F:List (TK×D)}{k:TK}{a b:D}:e9 (e9 F k a) k b=e9 F k b:=by
 by_cases h:(F.any λp=>decide (p.1=k))=M
 ·have h2:((F.map fun p=>if p.1=k then (p.1,a) else p).any fun p=>decide (p.1=k))=true:=by
   obtain⟨p,c,e⟩:=bT.mp h;have e:=of_decide_eq_true e;exact bT.mpr ⟨(p.1,a),ci.mpr ⟨p,c,by rw[ak e]⟩,ah e⟩
  unfold e9;rw[ak h,ak h2,ak h,bv];apply dg;intro p _;simp only[Function.comp];by_cases z:p.1=k
  ·rw[ak z,ak z,ak z]
  ·rw[aj z,aj z]
 ·have h2:((F++[(k,a)]).any fun p=>decide (p.1=k))=true:=bT.mpr ⟨(k,a),mA1 _ (cY.mpr rfl),decide_eq_true rfl⟩;unfold e9;rw [if_neg h,if_neg h,if_pos h2,cG];have e:F.map (fun p=>if p.1=k then (p.1,b) else p)=F:=by
   conv=>rhs;rw[<- List.map_id F]
   apply dg;intro p c;rw[aj λz=>h (bT.mpr ⟨p,c,ah z⟩)];rfl
  rw[e];simp
theorem B5{m:Nat}{w:ew}{ws:List Wk}{cs:List Nat}{e:E4}{F:List (TK×D)}{o:Ob}{n:Nat}{T:Sto}{Q:D×Sto->Prop}(h:jd m w ws cs)(U:RN e F)(hT:T.all (Ob.und 0)=true)(ho:fY o n)(hn:n<=2^40)(hl:F.length<=10000)(q:∀s o',RN e s->s.length<=F.length+ws.length->fY o' (n+100)->Sub F s->(∀u∈ws,(d3 s ((ky w ws cs u).tk e)).isSome=true)->Q (.non,o'::dO s::T)):
  W (dX 5 fU [.ref 0,webD w,eyD e,.ref 1,dZ ws cs] (o::dO F::T)) Q:=by
 refine lP O O ?_;unfold fU;refine nr ?_;unfold kP;have hf:=h.few;have aq:∀F,RN e F->(dO F::T).all (Ob.und ((dO F::T).length+1))=M:=λF U=>by
  rw[bR,U.und,Bool.true_and,bD];exact λx V=>gJ (bi _) (bD.mp hT x V)
 ((try walk_at"w");repeat(simp only[pI,gC,jg];try walk_at"w"))
 rw[ke,Int.toNat_natCast];refine⟨fW (by lia),?_⟩;refine fV (λi r S=>∃s o' R wq,i<=ws.length/\RN e s/\s.length<=F.length+i/\fY o' (n+10*i)/\Sub F s/\(∀j u,j<i->ws[j]?=Z u->(d3 s ((ky w ws cs u).tk e)).isSome=M)/\S=o'::dO s::T/\r=[Z (.ref 0),Z (webD w),Z (eyD e),Z (.ref 1),Z (dZ ws cs),R,wq]) _ 0 _ _ ⟨F,o,_,_,by lia,U,by lia,ho,Sub.refl F,λj u ao _=>by lia,O,O⟩ (λ_ _ _ _=>rfl) ?_ ?_
 ·rintro i d C r S ⟨a,y,R,wq,hi,l,K,B,b,f,rfl,rfl⟩;have E:=(gE1.mp C).1;rw[lM1,dA]at E;rw[bP]at *
  have au:d = .int (i:Nat):=by
   rw[gP1,cN E]at C;exact(Option.some.inj C).symm
  subst au;walk_at"w";unfold iU;obtain⟨u,G⟩:∃u,ws[i]?=some u:=⟨_,gG1 E⟩;have am:=gM1 G;obtain⟨row,er,_,hmd⟩:=h.wk u am;have hk:=h.ky u am;have eu:∀L,dW (.tup (eA ws)) (.int (i:Nat)) L=Z (ff u,L):=λL=>by
   obtain⟨p,e,h⟩:W (dW (.tup (eA ws)) (.int (i:Nat)) L) λp=>p=(ff u,L):=gy (by rw[eA,gP1,G];rfl) O;rw[e,h]
  refine eF (λr S=>S=y::dO a::T/\r=[Z (.ref 0),Z (webD w),Z (eyD e),Z (.ref 1),Z (dZ ws cs),Z (.int (i:Nat)),Z ((ky w ws cs u).d e)]) ?_ ?_
  ·((try walk_at"w");repeat(simp only[pI,eu,ql];try walk_at"w"))
   refine si G er (by lia) ?_;rw[pT er];walk_at"w";rfl
  rintro r S ⟨rfl,rfl⟩;have up:∀(N:List (TK×D)),(∀k d,d3 a k=Z d->d3 N k=Z d)->(d3 N ((ky w ws cs u).tk e)).isSome=M -> ∀j v,j<i+1->ws[j]?=Z v->(d3 N ((ky w ws cs v).tk e)).isSome=M:=λN h1 h2 j v ao P=>by
   by_cases z:j=i
   ·subst z;rw[G]at P;cases P;exact h2
   ·obtain⟨d,hd⟩:=aP.mp (f j v (by lia) P);rw[h1 _ _ hd];rfl
  have A:=Ec (S:=y::dO a::T) (n:=1) (F:=a) O ((ky w ws cs u).keyT e);cases hin:(d3 a ((ky w ws cs u).tk e)).isSome with
  |true=>
   rw[hin]at A
   ((try walk_at"w");repeat(simp only[A];try walk_at"w"))
   exact⟨a,y,_,_,by lia,l,by lia,B.more (by lia),b,up a (λ_ _ h=>h) hin,O,O⟩
  |false=>
   rw[hin]at A;have s1:=FZ (e:=e) (F:=a) (k:=ky w ws cs u) (x:=.non) (n:=1) (S:=y::dO a::T) O (by lia);have H:=l.put hk (x:=.non) (.inr O);have l2:(e9 a ((ky w ws cs u).tk e) D.non).length<=a.length+1:=va;have g:∀x,(d3 (e9 a ((ky w ws cs u).tk e) x) ((ky w ws cs u).tk e)).isSome=M:=λx=>by rw[sm,ak O];rfl
   have c:∀x,Sub a (e9 a ((ky w ws cs u).tk e) x):=λx=>(Sub.refl a).put hin
   ((try walk_at"w");repeat(simp only[A,s1];try walk_at"w"))
   refine fB B (by lia) (by lia) (by lia) λt o2 I ht=>?_;walk_at"w";split
   ·refine E3 I (by lia) (aq _ H) λx o3 V X=>?_;have s2:=FZ (e:=e) (F:=e9 a ((ky w ws cs u).tk e) .non) (k:=ky w ws cs u) (x:=x) (n:=1) (S:=o3::dO (e9 a ((ky w ws cs u).tk e) .non)::T) O (by lia)
    ((try walk_at"w");repeat(simp only[s2];try walk_at"w"))
    have e2:e9 (e9 a ((ky w ws cs u).tk e) .non) ((ky w ws cs u).tk e) x=e9 a ((ky w ws cs u).tk e) x:=A6;rw[e2];have l3:(e9 a ((ky w ws cs u).tk e) x).length<=a.length+1:=va;exact⟨_,o3,_,_,by lia,l.put hk (.inl V),by lia,X.more (by lia),b.trans (c x),up _ (c x) (g x),O,O⟩
   ·exact⟨_,o2,_,_,by lia,H,by lia,I.more (by lia),b.trans (c .non),up _ (c .non) (g .non),O,O⟩
 ·rintro r S ⟨a,y,R,wq,hi,l,K,B,b,f,rfl,rfl⟩;rw[lM1,dA,bP]at *
  have e1:gc (T.length+2) (D.non,y::dO a::T)=(D.non,y::dO a::T):=gc_same O;show Q (gc (T.length+2) (D.non,y::dO a::T));rw[e1];exact q a y l K (B.more (by lia)) b λu G=>by
   obtain⟨j,ao⟩:=br G;exact f j u (gE1.mp ao).1 ao
noncomputable def isT:D->Bool
 | .tup _=>M
 |_=>J
noncomputable def dv(d:D):Option D:=if isT d=M then Z d else Y
noncomputable def fX(F:List (TK×D)):List (TK×D):=F.filter λp=>isT p.2
noncomputable def vc(p:TK×D):D:=.tup [Mi.tkD p.1,p.2]
theorem gb.isT{x:D}(h:gb x):isT x=M:=by
 obtain⟨_,_,_,rfl,_⟩:=h.is;rfl
theorem ko{e:E4}{F:List (TK×D)}(h:RN e F):RW e (fX F):=by
 refine⟨λp d=>?_,List.Sublist.nodup (List.Sublist.map _ List.filter_sublist) h.nd⟩;obtain⟨h1,h2⟩:=aA.mp d;obtain⟨k,c,b,a⟩:=h.row p h1;rcases a with a|a
 ·exact⟨k,c,b,a⟩
 ·rw[a]at h2;cases h2
theorem live_len(F:List (TK×D)):(fX F).length<=F.length:=dq _ _
theorem oK:∀{F:List (TK×D)} (k:TK),(F.map (·.1)).Nodup->d3 (fX F) k=(d3 F k).bind dv
 |[],_,_=>rfl
 |(a,d)::F,k,nd=>by
  rw[mP1,aN]at nd;have ih:=oK (F:=F) k nd.2;unfold fX at ih ⊢;rw[di,eV];by_cases z:a=k
  ·have b:d3 F k=none:=k9 (by
    rw[Bool.eq_false_iff];intro y;obtain⟨p,c,e⟩:=bT.mp y;exact nd.1 (ci.mpr ⟨p,c,(of_decide_eq_true e).trans z.symm⟩))
   rw[b]at ih;rw[ak z];cases hd:isT d with
   |true=>rw[ak O,eV,ak z];simp[dv,hd]
   |false=>rw[aj (by simp),ih];simp[dv,hd]
  ·rw[aj z];cases hd:isT d with
   |true=>rw[ak O,eV,aj z,ih]
   |false=>rw[aj (by simp),ih]
theorem vN:∀(ps acc:List (TK×D)),((acc++ps).map (·.1)).Nodup->ps.foldl (λF p=>e9 F p.1 p.2) acc=acc++ps
 |[],acc,_=>by simp
 |p::ps,acc,nd=>by
  have e:e9 acc p.1 p.2=acc++[p]:=by
   unfold e9;rw[aj];intro y;obtain⟨q,a,e⟩:=bT.mp y;rw[cG,bB]at nd;exact nd.2.2 _ (ci.mpr ⟨q,a,O⟩) _ (ci.mpr ⟨p,mS1,O⟩) (of_decide_eq_true e)
  rw[cb,e,vN ps (acc++[p]) (by rw[bI];exact nd),bI];rfl
theorem oB:∀{F:List (TK×D)},(∀p∈F,Mi.keyT (Mi.tkD p.1)=Z p.1)->iT (F.map vc)=Z F
 |[],_=>rfl
 |p::F,h=>by
  rw[mP1,iT,oB λq a=>h q (mC1 _ a)];have:=h p mS1;simp only[vc,vk,this,oP1,oS1]
theorem RN.key{e:E4}{F:List (TK×D)}(h:RN e F){p:TK×D}(hp:p∈F):Mi.keyT (Mi.tkD p.1)=Z p.1:=by
 obtain⟨k,_,h2,_⟩:=h.row p hp;rw[h2,k.tkD,k.keyT e]
theorem E5(F:List (TK×D)):Jd F=dO F:=by cases F<;>rfl
theorem Bc{e:E4}{F:List (TK×D)}(h:RN e F)(n:Nat):D.unds n ((fX F).map vc)=M:=Mi.eK λp a=>by
 have a:=(aA.mp a).1;unfold vc;simp only[D.und,D.unds,h.vu a,tS,df]
theorem vy:∀{F:List (TK×D)},(F.map (·.1)).Nodup -> ∀{p:TK×D},p∈F->d3 F p.1=Z p.2
|[],_,_,hp=>by cases hp
|y::F,nd,p,hp=>by
 rw[mP1,aN]at nd;obtain⟨a,b⟩:=y;rw[eV];rcases aF.mp hp with z|z
 ·subst z;rw[ak rfl]
 ·rw[aj (λw=>nd.1 (ci.mpr ⟨p,z,w.symm⟩))];exact vy nd.2 z
theorem vj{e:E4}{F:List (TK×D)}{n:Nat}{r:Ev}{S:Sto}{Q:D×Sto->Prop}(g:RN e F)(o:F.length<=10000)(d:S[n]? = Z (dO F))(hr:r[5]? = Z (Z (.ref n)))(q:Q (.ref S.length,S++[.lst ((fX F).map vc)])):W (lj 1 [5] (mV 5) (gN 0) (mB (m2 (b2 hA) (m2 (b2 dW) (mV 1) (mV 0)) (mC D.non))) (eI (eQ (dS (mV 0) (dS (m2 (b2 dW) (mV 1) (mV 0)) dU)))) r S) Q:=by
 have m:=(gE1.mp d).1;have v:mV 5 r S=Z (.ref n,S):=by simp[mV,hr]
 have j:nT 1 [5] r=[Y,Z (.ref n)]:=by simp[nT,hr]
 have c:(S.set n (.dcF F))[n]?=Z (.dcF F):=by rw[aI m]
 unfold lj;rw[v,oS1];dsimp only;have s:zC (dO F)=Z F:=by cases F<;>rfl
 rw[d,oS1,s,oS1,d5,j];refine hB (f:=λq:TK×D=>Mi.tkD q.1) (λp:TK×D=>isT p.2) vc (λr=>∃z,r=[z,Z (.ref n)]) O F _ ⟨_,O⟩ ?_ λw _=>?_
 ·rintro p l r ⟨z,rfl⟩;have u:dW (.ref n) (Mi.tkD p.1) (S.set n (.dcF F))=some (p.2,S.set n (.dcF F)):=by
   simp only[dW,c];rw[g.key l,oS1,vy g.nd l];rfl
  have t:hA p.2 .non (S.set n (.dcF F))=Z (.bl (isT p.2),S.set n (.dcF F)):=by
   obtain⟨k,_,_,a⟩:=g.row p l;rcases a with a|a
   ·obtain⟨_,_,_,z,_⟩:=a.is;rw[z];rfl
   ·rw[a];rfl
  ((try walk_at"w");repeat(simp only[u,t];try walk_at"w"))
  exact⟨⟨_,O⟩,λ_=>⟨O,trivial⟩⟩
 ·dsimp only;have b:=live_len F;rw [if_pos (by rw [lM1];exact aC (aC b o) (by decide)),eB,aW,List.set_set];have:S.set n (dO F)=S:=by
   apply b5;intro i;by_cases h:n=i
   ·subst h;rw[aI m,d]
   ·rw[gS1 h]
  rw[this];exact q
theorem EY{e:E4}{F:List (TK×D)}{n:Nat}{S:Sto}{Q:D×Sto->Prop}(a:RN e F)(d:F.length<=10000)(c:S[n]?=Z (.lst ((fX F).map vc)))(q:Q (.ref S.length,S++[dO (fX F)])):W (no (.ref n) S) Q:=by
 refine W.of ?_ q;unfold no;rw[gU c];dsimp only;rw[oB (F:=fX F) λp b=>a.key (aA.mp b).1,oS1,lM1,ak (aC (live_len F) (by lia))];have:lM (fX F)=fX F:=by
  unfold lM;rw[vN _ _ (by rw[c4];exact(ko a).nd),c4]
 rw[this,E5]
theorem vH{α:Type}{f:α->D}{c:α->Nat}{a:α}:∀ {zs:List α},(∀ b∈zs,jK [] 51 (f a) (f b)=some (decide (c a<c b)))->(∀ b∈zs,c b≠c a)->zs.Pairwise (fun x y=>c x<c y) ->
  ∃ys:List α,wX (f a) (zs.map f)=ys.map f/\ys.Perm (a::zs)/\ys.Pairwise (λx y=>c x<c y)
 |[],_,_,_=>⟨[a],O,.refl _,by simp⟩
 |b::zs,h,hn,hp=>by
  rw[cf]at hp;rw[mP1,wX];have j:=h b mS1;unfold Iq;rw[j];by_cases z:c a<c b
  ·rw[ah z,ak (show(Z M == Z M)=M from rfl)];refine⟨a::b::zs,O,.refl _,cf.mpr ⟨λy d=>?_,cf.mpr hp⟩⟩;rcases aF.mp d with rfl|d
   ·exact z
   ·exact bh z (hp.1 y d)
  ·rw[ai z,aj (by decide)];obtain⟨ys,e,i,k⟩:=vH (λx g=>h x (mC1 _ g)) (λx g=>hn x (mC1 _ g)) hp.2;refine⟨b::ys,by rw[e];rfl,(i.cons b).trans (.swap _ _ _),cf.mpr ⟨λy d=>?_,k⟩⟩;rcases aF.mp (i.mem_iff.mp d)with rfl|d
   ·have:=hn b mS1;lia
   ·exact hp.1 y d
theorem rz{α:Type}{f:α->D}{c:α->Nat}:∀ {ks:List α},(∀ a∈ks,∀ b∈ks,jK [] 51 (f a) (f b)=some (decide (c a<c b)))->(ks.map c).Nodup ->
  ∃zs:List α,jR (ks.map f)=zs.map f/\zs.Perm ks/\zs.Pairwise (λx y=>c x<c y)/\lD (zs.map f)=M
 |[],_,_=>⟨[],O,.refl _,.nil,O⟩
 |a::ks,h,hn=>by
  rw[mP1,aN]at hn;obtain⟨zs,e,o,s,_⟩:=rz (ks:=ks) (λx j y k=>h x (mC1 _ j) y (mC1 _ k)) hn.2;obtain⟨ys,p,l,i⟩:=vH (a:=a) (zs:=zs) (λb m=>h a mS1 b (mC1 _ (o.mem_iff.mp m))) (λb m z=>hn.1 (ci.mpr ⟨b,o.mem_iff.mp m,z⟩)) s;have g:ys.Perm (a::ks):=l.trans (o.cons a);refine⟨ys,by rw[mP1,jR,e,p],g,i,?_⟩;have k:∀x∈ys,∀y∈ys,jK [] 51 (f x) (f y)=Z (decide (c x<c y)):=λx j y k=>h x (g.mem_iff.mp j) y (g.mem_iff.mp k);clear p l g
  induction ys with
  |nil=>rfl
  |cons y ys ih=>
   rw[cf]at i;rw[mP1,lD,ih i.2 λx j z q=>k x (mC1 _ j) z (mC1 _ q),bO,bD];intro d r;obtain⟨x,j,rfl⟩:=ci.mp r;unfold oM;have n:=i.1 x j;rw[k y mS1 x (mC1 _ j),k x (mC1 _ j) y mS1,ah n,ai (by lia)];rfl
theorem Ch{x:D}{S:Sto}{n:Nat}(h:gb x):gp S (n+3) x x=Z M:=by
 have e:=h.eta.1;generalize dm x=a at e;generalize dh x=b at e;generalize dt x=c at e;subst e;have d:∀i:Int,gp S (n+2) (.int i) (.int i)=Z M:=λi=>by show Z (i == i)=_;simp
 have f:gp S (n+2) (.str b) (.str b)=Z M:=by show Z (b == b)=_;simp
 have g:gp S (n+2) (tD c) (tD c)=Z M:=by
  cases c with
  |none=>rfl
  |some t=>exact d t
 rw[GX,nL,d,oS1,nL,f,oS1,nL,g,oS1,nL];rfl
theorem DA{e:E4}{p q:Rw}(hp:nK p)(a:nK q)(h:p.1.code e=q.1.code e->p=q):jK [] 51 (fF e p) (fF e q)=Z (decide (p.1.code e<q.1.code e)):=by
 unfold fF;rw[Ip,nS,Ky.eq (n:=47) hp.1 a.1,oS1];by_cases z:p.1.code e=q.1.code e
 ·rw[ak (ah z),nS];have:=h z;subst this;rw[Ch (n:=47) hp.2,oS1,ak O,nS];simp
 ·rw[aj (by rw[al];exact z),Ky.lt (n:=47) hp.1 a.1]
theorem pl_tk:∀k:TK,pl (Mi.tkD k)=M:=λk=>k.rec (motive_1:=λk=>pl (Mi.tkD k)=M) (motive_2:=λks=>me (Mi.hG ks)=M) O (λ_=>rfl) (λ_ ih=>by rw[Mi.tkD,pl];exact ih) O (λ_ _ a b=>by rw[Mi.hG,me,a,b];rfl)
theorem Bg{x:D}(h:gb x):pl x=M:=by
 have e:=h.eta.1;generalize dm x=a at e;generalize dh x=b at e;generalize dt x=c at e;subst e;cases c<;>rfl
theorem vd{α:Type}{f:α->D}:∀{l:List α},(∀x∈l,pl (f x)=M)->me (l.map f)=M
 |[],_=>rfl
 |x::l,h=>by rw[mP1,me,h x mS1,vd λy a=>h y (mC1 _ a)];rfl
theorem ux{e:E4}:∀L:List Rw,∃f,ng (L.map (fF e))=Z f
 |[]=>⟨_,O⟩
 |p::L=>by
  refine⟨J,?_⟩;have a:∀q:Rw,i0 (fF e q)=Z J:=λq=>rfl;rw[mP1,ng,a];dsimp only;rw[ak];rw[bD];intro d b;obtain⟨q,_,rfl⟩:=ci.mp b;rw[a];rfl
theorem my{e:E4}{F:List (TK×D)}(h:RW e F)(C:F.length<=4000):
  ∃L:List Rw,RL e F L /\ ∀(n:Nat) (S:Sto),S[n]?=Z (.lst (F.map vc))->nk (.ref n) S=Z (.ref S.length,S++[.lst (L.map (fF e))]):=by
 obtain⟨d,l,ok⟩:=RW.list h.row;have q:∀p∈d,p.1.Ok:=λp g=>(ok p g).1;have nd:(d.map λp=>p.1.code e).Nodup:=by
  have:=h.nd;rw[<- l,bv]at this;refine(dj.mpr ((dj.mp this).imp_of_mem λ{a b} j i m z=>?_));exact m ((uX (q a j) (q b i)).mpr z)
 have inj:∀a∈d,∀b∈d,a.1.code e=b.1.code e->a=b:=λa j b i z=>by
  have A:=(im (f:=λp:Rw=>p.1.code e) (c:=b.1.code e) (a:=a) nd).mpr ⟨j,z⟩;have s:=(im (f:=λp:Rw=>p.1.code e) (c:=b.1.code e) (a:=b) nd).mpr ⟨i,O⟩;rw[A]at s;exact Option.some.inj s
 obtain⟨L,y,o,x,B⟩:=rz (f:=fF e) (c:=λp:Rw=>p.1.code e) (ks:=d) (λa j b i=>DA (ok a j) (ok b i) (inj a j b i)) nd;have t:d.length=F.length:=by rw[<- l,lM1]
 have w:∀k:Ky,k.Ok->d3 F (k.tk e)=(L.find? λp=>decide (p.1.code e=k.code e)).map (·.2):=λk v=>by
  have a1:d3 F (k.tk e)=(d.find? λp=>decide (p.1.code e=k.code e)).map (·.2):=by
   rw[<- l];unfold d3;rw[List.find?_map,Option.map_map];have:(d.find? ((λp:TK×D=>decide (p.1=k.tk e))∘λp:Rw=>(p.1.tk e,p.2)))=d.find? λp=>decide (p.1.code e=k.code e):=by
    apply nw;intro p g;simp only[Function.comp];rw[bS,al,al];exact uX (q p g) v
   rw[this];rfl
  rw[a1,w9 (f:=λp:Rw=>p.1.code e) o nd]
 refine⟨L,⟨x,λp g=>ok p (o.mem_iff.mp g),by rw[o.length_eq];lia,w⟩,λn S r=>?_⟩;have ep:F.map vc=d.map (fF e):=by
  rw[<- l,bv];apply dg;intro p _;show D.tup [Mi.tkD (p.1.tk e),p.2]=_;rw[p.1.tkD];rfl
 rw[ep]at r;obtain⟨f,u⟩:=ux (e:=e) d;unfold nk;rw[gU r];dsimp only;have g:me (d.map (fF e))=M:=vd λp g=>by
  unfold fF;rw[pl,me,me,me,Bg (ok p g).2,<- p.1.tkD e,pl_tk];rfl
 rw[u,oS1,y,ak (by rw[g,B,lM1,ah (by lia)];rfl)]
noncomputable def xf(e:E4)(F:List (TK×D))(k:Ky):D:=((d3 F (k.tk e)).bind dv).getD (uE k)
theorem RL.due{e:E4}{F:List (TK×D)}{L:List Rw}(a:RL e (fX F) L)(b:RN e F){k:Ky}(hk:k.Ok):kG e L k=xf e F k:=by
 unfold kG xf;rw[<- a.lk k hk,oK _ b.nd]
theorem zA{F:List (TK×D)}{k:TK}{d:D}(h:d3 F k=Z d):(k,d)∈F:=by
 unfold d3 at h;obtain⟨p,f,e⟩:=oM1.mp h;have c:=List.find?_some f;have g:=List.mem_of_find?_eq_some f;obtain⟨a,b⟩:=p;have c:=of_decide_eq_true c;dsimp only at e c;subst e;subst c;exact g
theorem Cf{e:E4}{F:List (TK×D)}(c:RN e F){k:Ky}(hk:k.Ok):gb (xf e F k):=by
 have b:gb (uE k):=⟨k.m,_,_,O,hk.m,by simp[nj],by simp[lr]⟩;unfold xf;cases h:d3 F (k.tk e)with
 |none=>exact b
 |some d=>
  obtain⟨_,_,_,a⟩:=c.row _ (zA h);rcases a with a|a
  ·rw[oS1,dv,ak a.isT];exact a
  ·dsimp only at a;rw[a];exact b
abbrev Wh:=List Wk×List Nat
noncomputable def gA(a:Wh):D:=dZ a.1 a.2
noncomputable def G4(w:ew)(e:E4)(F:List (TK×D))(a:Wh)(u:Wk):D:=xf e F (ky w a.1 a.2 u)
noncomputable def jw(m:Nat)(w:ew)(e:E4)(F:List (TK×D))(a:Wh):Wh:=(a.1.map λu=>eL w u (G4 w e F a u),ej m a.1 (G4 w e F a) a.2)
theorem pA{α:Type}{p q:α->Bool}:∀{l:List α},(∀x∈l,p x=q x)->l.any p=l.any q
 |[],_=>rfl
 |x::l,h=>by rw[bd,bd,h x mS1,pA λy a=>h y (mC1 _ a)]
theorem qB{m:Nat}{ws:List Wk}{f g:Wk->D}{cs:List Nat}(h:∀u∈ws,f u=g u):ej m ws f cs=ej m ws g cs:=by
 have:∀s r,gQ ws f s r=gQ ws g s r:=λs r=>pA λu a=>by rw[h u a]
 unfold ej;simp only[this]
theorem mx{m:Nat}{w:ew}{ws:List Wk}{f g:Wk->D}{cs:List Nat}(h:∀u∈ws,f u=g u):((ws.map λu=>eL w u (f u),ej m ws f cs):Wh)=(ws.map λu=>eL w u (g u),ej m ws g cs):=by
 rw[qB h]
 congr 1
 apply dg;intro u a;rw[h u a]
theorem s0{m:Nat}{w:ew}{e:E4}{F:List (TK×D)}{L:List Rw}{a:Wh}(h:jd m w a.1 a.2)(b:RL e (fX F) L)(c:RN e F):pu m w a.1 a.2 e L=gA (jw m w e F a):=by
 have:=mx (m:=m) (w:=w) (ws:=a.1) (cs:=a.2) (f:=ddW w a.1 a.2 e L) (g:=G4 w e F a) λu d=>b.due c (h.ky u d);unfold pu gA jw;rw[<- this]
theorem wy{m:Nat}{w:ew}{e:E4}{F c:List (TK×D)}{a:Wh}(s:Sub F c)(h:∀u∈a.1,(d3 F ((ky w a.1 a.2 u).tk e)).isSome=M):jw m w e c a=jw m w e F a:=by
 refine mx λu f=>?_;obtain⟨d,b⟩:=aP.mp (h u f);unfold G4 xf;rw[b,s _ _ b]
theorem xm{m:Nat}{ws:List Wk}{f:Wk->D}{cs:List Nat}(hm:m<=8):(ej m ws f cs).length<=8 /\ ∀r∈ej m ws f cs,r<m:=by
 unfold ej;refine⟨?_,λr a=>aB.mp (aA.mp a).1⟩;refine aC (dq _ _) ?_;rw[dA];exact hm
theorem yk{m:Nat}{w:ew}{ws:List Wk}{cs:List Nat}(h:jd m w ws cs){u:Wk}(f:u∈ws){x:D}(hx:gb x):∃a,w[(eL w u x).1]?=Z a/\(eL w u x).2.1<=a.length/\(eL w u x).2.2<4000:=by
 have c:=hx.eta.2;obtain⟨a,b,h1,h2⟩:=h.wk u f;unfold eL;rw[b];have base:∃a,w[(u.1,u.2.1,dm x).1]?=Z a/\(u.1,u.2.1,dm x).2.1<=a.length/\(u.1,u.2.1,dm x).2.2<4000:=⟨a,b,h1,c⟩;cases dt x with
 |none=>exact base
 |some t=>
  dsimp only[oS1];cases ep:a[t]? with
  |none=>exact base
  |some p=>
   obtain⟨r,e,d⟩:=h.web.to a (gM1 b) p (gM1 ep);exact⟨r,e,d,c⟩
theorem jd.step{m:Nat}{w:ew}{e:E4}{F:List (TK×D)}{a:Wh}(h:jd m w a.1 a.2)(c:RN e F):jd m w (jw m w e F a).1 (jw m w e F a).2:=by
 have hc:=xm (m:=m) (ws:=a.1) (f:=G4 w e F a) (cs:=a.2) h.m8;refine⟨h.web,h.m8,by show(a.1.map _).length<=8;rw[lM1];exact h.few,hc.1,λv d=>?_,hc.2⟩;obtain⟨u,b,rfl⟩:=ci.mp d;exact yk h b (Cf c (h.ky u b))
theorem uS(a:Wh)(n:Nat):(gA a).und n=M:=fr fR
theorem pH(Ws:List Wh)(n:Nat):D.unds n (Ws.map gA)=M:=Mi.eK λa _=>uS a n
structure l5 (m:Nat)(w:ew)(e:E4)(F:List (TK×D))(k:Nat)(Ws:List Wh):Prop where
 ok:∀a∈Ws,jd m w a.1 a.2/\a.1.length=k
 nx:∀(j:Nat) (a b:Wh),Ws[j]?=some a->Ws[j+1]?=some b->b=jw m w e F a /\ ∀u∈a.1,(d3 F ((ky w a.1 a.2 u).tk e)).isSome=true
theorem l5.more{m:Nat}{w:ew}{e:E4}{F g:List (TK×D)}{k:Nat}{Ws:List Wh}{a:Wh}(h:l5 m w e F k Ws)(s:Sub F g)(i:RN e g)(l:Ws[Ws.length-1]?=Z a)(ha:∀u∈a.1,(d3 g ((ky w a.1 a.2 u).tk e)).isSome=M):l5 m w e g k (Ws++[jw m w e g a]):=by
 have r:=(gE1.mp l).1;have n:=gM1 l;refine⟨λb f=>?_,λj b c f hc=>?_⟩
 ·rcases aG.mp f with f|f
  ·exact h.ok b f
  ·rw[cY.mp f];exact⟨(h.ok a n).1.step i,by show(a.1.map _).length=k;rw[lM1];exact(h.ok a n).2⟩
 ·by_cases z:j+1<Ws.length
  ·rw[gL1 (by lia)]at f;rw[gL1 z]at hc;obtain⟨h1,h2⟩:=h.nx j b c f hc;refine⟨by rw[wy s h2];exact h1,λu p=>?_⟩;obtain⟨d,q⟩:=aP.mp (h2 u p);rw[s _ _ q];rfl
  ·have o:j+1=Ws.length:=by
    have:=(gE1.mp hc).1;rw[lA1,aY]at this;lia
   rw[gL1 (by lia),show j=Ws.length-1 by lia,l]at f;rw[gR1 (by lia),o,cQ]at hc;cases f;have:jw m w e g a=c:=by simpa using hc
   exact⟨this.symm,ha⟩
structure n3 (m:Nat)(rs cs:List Nat):Prop where
 few:rs.length<=8
 cl:cs.length<=8
 rs:∀r∈rs,r<m
 cs:∀r∈cs,r<m
noncomputable def standD(rs cs:List Nat):D:=.tup [.tup (eP rs),.tup (eP cs)]
noncomputable def fI(rs cs:List Nat):Wh:=(rs.map λr=>(r,0,0),cs)
theorem Ct{m:Nat}{w:ew}{rs cs:List Nat}(hw:nJ m w)(hm:m<=8)(h:n3 m rs cs):jd m w (fI rs cs).1 (fI rs cs).2:=by
 refine⟨hw,hm,by show(rs.map _).length<=8;rw[lM1];exact h.few,h.cl,λu a=>?_,h.cs⟩;obtain⟨r,b,rfl⟩:=ci.mp a;exact⟨_,gG1 (by rw[hw.len];exact h.rs r b),bi _,by show 0<4000;decide⟩
theorem gF(rs cs:List Nat)(n:Nat):(standD rs cs).und n=M:=fr (by simp[standD,D.und,D.unds,qg])
theorem Do{rs cs:List Nat}{S:Sto}:dW (standD rs cs) (.int 0) S=Z (.tup (eP rs),S):=rfl
theorem ym{rs cs:List Nat}{S:Sto}:dW (standD rs cs) (.int 1) S=Z (.tup (eP cs),S):=rfl
theorem v7{rs:List Nat}{S:Sto}{c:Option D}{Q:List D×Ev×Sto->Prop}(h:∀ b,Q (eA (fI rs []).1,b,S)):
  W (fM [] (gN 0) gu (eI (eQ (dS (mV 0) (dS (mC (D.int 0)) (dS (mC (D.int 0)) dU))))) (eP rs) [c] S) Q:=by
 refine r9 (f:=λr:Nat=>D.int r) (λr:Nat=>ff (r,0,0)) (λr=>∃x,r=[x]) O rs _ ⟨_,O⟩ ?_ λb _=>?_
 ·rintro a d r ⟨x,rfl⟩;walk_at"w";exact⟨O,_,O⟩
 ·have e:(rs.map λr:Nat=>ff (r,0,0))=eA (fI rs []).1:=by unfold eA fI;rw[bv];rfl
  rw[e];exact h b
theorem Cs{rs cs:List Nat}{S:Sto}{Q:D×Sto->Prop}(c:rs.length<=1000)(q:Q (gA (fI rs cs),S)):W (dX 1 km [standD rs cs] S) Q:=by
 refine lQ O (by rw[D.unds,gF];rfl) ?_;unfold km;refine nr ?_;unfold wa;refine eF (λr V=>V=[]/\r=[Z (standD rs cs),Z (.tup (eP rs)),Z (.tup (eP cs))]) ?_ ?_
 ·unfold standD;walk_at"w"
 rintro r V ⟨rfl,rfl⟩;walk_at"w";rw[iR];refine v7 λb=>?_;have a:(eA (fI rs []).1).length=rs.length:=by rw[jg];exact lM1 _
 walk_at"w";refine⟨ea (by rw[a];lia),?_⟩;refine eG (xs:=eA (fI rs []).1) O ?_;exact⟨uS (fI rs cs) 0,q⟩
theorem Ff{g:G1}{m:FE}{r:Ev}{S:Sto}{Q:D×Sto->Prop}(h:W (m r S) λp=>W (g p.1 p.2) Q):W (mN (b1 g) (dS m dU) r S) Q:=by
 obtain⟨p,e,h⟩:=h;unfold mN dS dU;rw[e];exact h
theorem Ax{a:FE}{b:FA}{r:Ev}{S:Sto}{Q:List D×Sto->Prop}(h:W (a r S) λp=>W (b r p.2) λq=>Q (p.1::q.1,q.2)):W (dS a b r S) Q:=by
 obtain⟨p,e,q,c,h⟩:=h;unfold dS;rw[e,oS1,c];exact⟨_,O,h⟩
theorem Hd{S:Sto}(h:S.all (Ob.und 0)=M)(n:Nat):S.all (Ob.und n)=M:=by
 rw[bD]at h ⊢;exact λx a=>gJ (bi _) (h x a)
theorem k4{e:E4}{F:List (TK×D)}(h:RN e F)(n:Nat):(Ob.lst ((fX F).map vc)).und n=M:=by rw[Ob.und];exact Bc h n
theorem Cg{m:Nat}{w:ew}{e:E4}{rs cs:List Nat}{o:Ob}{n b:Nat}{Q:D×Sto->Prop}(hw:nJ m w)(hm:m<=8)(hst:n3 m rs cs)(ho:fY o n)(hn:n<=2^35)(hb:b<=400)(hlim:b*rs.length<=3000)(q:∀F L c o' G,RN e F->RL e (fX F) L->l5 m w e F rs.length c->c.length=b+1->c[0]?=some (fI rs cs)->fY o' (n+100*b)->G.all (Ob.und 0)=true->G[2]?=some (.lst (c.map gA))->Q (.tup [mcD e L,.ref 3],o'::G)):
  W (dX 5 eH [.ref 0,webD w,eyD e,standD rs cs,.int b] [o]) Q:=by
 refine lP O O ?_;unfold eH;refine nr ?_;unfold hE;have P:(eA (fI rs []).1).length=rs.length:=by rw[jg];exact lM1 _
 have hfew:=hst.few;refine eF (λr S=>r=[Z (.ref 0),Z (webD w),Z (eyD e),Z (standD rs cs),Z (.int (b:Nat)),Z (.ref 1),Z (.ref 3),Y,Y,Y]/\S=[o,.dct [],.lst (eA (fI rs []).1),.lst [gA (fI rs cs)]]) ?_ ?_
 ·((try walk_at"w");repeat(simp only[zv,Do,ym];try walk_at"w"))
  rw[iR];refine v7 λr'=>?_;walk_at"w";refine⟨ea (by rw[P];lia),?_⟩;refine eG (xs:=eA (fI rs []).1) O ?_
  first|rfl|exact⟨rfl,rfl⟩
 rintro r S ⟨rfl,rfl⟩;refine eF (λr S=>∃F c o' G B v,RN e F/\F.length<=3000/\fY o' (n+100*b)/\l5 m w e F rs.length c/\c.length=b+1/\c[0]?=Z (fI rs cs)/\G.all (Ob.und 0)=M/\S=o'::dO F :: .lst (eA (fI rs []).1) :: .lst (c.map gA)::G/\r=[Z (.ref 0),Z (webD w),Z (eyD e),Z (standD rs cs),Z (.int (b:Nat)),Z (.ref 1),Z (.ref 3),B,v,Y]) ?_ ?_
 ·walk_at"w";rw[ke,Int.toNat_natCast];refine⟨fW (by lia),?_⟩;refine fV (λi r S=>∃F c o' G B v,i<=b/\RN e F/\F.length<=i*rs.length/\fY o' (n+100*i)/\l5 m w e F rs.length c/\c.length=i+1/\c[0]?=Z (fI rs cs)/\G.all (Ob.und 0)=M/\S=o'::dO F :: .lst (eA (fI rs []).1) :: .lst (c.map gA)::G/\r=[Z (.ref 0),Z (webD w),Z (eyD e),Z (standD rs cs),Z (.int (b:Nat)),Z (.ref 1),Z (.ref 3),B,v,Y]) _ 0 _ _ ?_ (λ_ _ _ _=>rfl) ?_ ?_
  ·refine⟨[],[fI rs cs],o,[],Y,Y,bi _,RN.nil,bi _,ho,⟨λa ao=>?_,λj a b ao hb=>?_⟩,O,O,O,O,O⟩
   ·rw[cY.mp ao];exact⟨Ct hw hm hst,lM1 _⟩
   ·simp at hb
  ·rintro i d A r S ⟨F,c,N,G,B,v,hi,s,X,l,K,k,p,C,rfl,rfl⟩;have U:=(gE1.mp A).1;rw[lM1,dA]at U;rw[bP]at *
   have hd':d = .int (i:Nat):=by
    rw[gP1,cN U]at A;exact(Option.some.inj A).symm
   subst hd';have hmul:(i+1)*rs.length<=b*rs.length:=dr _ (by lia);have hmul2:(i+1)*rs.length=i*rs.length+rs.length:=by rw[Nat.add_mul,Nat.one_mul]
   obtain⟨a,ao⟩:∃a,c[i]?=some a:=⟨_,gG1 (by lia)⟩;have ham:=gM1 ao;obtain⟨am,hal⟩:=K.ok a ham;have R:(c.map gA)[i]?=Z (gA a):=by rw[gP1,ao];rfl
   walk_at"w";unfold gt;have wq:(Ob.lst (eA (fI rs []).1)).und 0=M:=by rw[Ob.und];exact jO _
   have hY:(Ob.lst (c.map gA)).und 0=M:=by rw[Ob.und];exact pH _ 0
   refine eF (λr S=>∃g H,RN e g/\g.length<=F.length+rs.length/\fY H (n+100*i+100)/\Sub F g/\(∀u∈a.1,(d3 g ((ky w a.1 a.2 u).tk e)).isSome=M)/\S=H::dO g :: .lst (eA (fI rs []).1) :: .lst (c.map gA)::G/\r=[Z (.ref 0),Z (webD w),Z (eyD e),Z (standD rs cs),Z (.int (b:Nat)),Z (.ref 1),Z (.ref 3),Z (.int (i:Nat)),v,Y]) ?_ ?_
   ·walk_at"w";refine tj (i:=i) (xs:=c.map gA) (x:=gA a) O R ?_;walk_at"w";refine B5 (ws:=a.1) (cs:=a.2) (T:=.lst (eA (fI rs []).1) :: .lst (c.map gA)::G) am s (by rw[bR,bR,wq,hY,C];rfl) l (by lia) (by lia) λg H f y t I z=>?_;rw[hal]at y;exact⟨g,H,f,y,t,I,z,O,trivial⟩
   rintro r S ⟨g,H,f,y,t,I,z,rfl,rfl⟩;obtain⟨L2',au,_⟩:=my (ko f) (aC (live_len g) (by lia));generalize h:H::dO g::Ob.lst (eA (fI rs []).1)::Ob.lst (c.map gA)::G=S2;have g1:S2[1]?=Z (dO g):=by rw[<- h];rfl
   have c2:S2.all (Ob.und 0)=M:=by rw[<- h,bR,bR,bR,bR,t.und,f.und,wq,hY,C];rfl
   refine eF (λr S=>S=S2++[.lst ((fX g).map vc),dO (fX g)]/\r=[Z (.ref 0),Z (webD w),Z (eyD e),Z (standD rs cs),Z (.int (b:Nat)),Z (.ref 1),Z (.ref 3),Z (.int (i:Nat)),Z (.ref (S2.length+1)),Y]) ?_ ?_
   ·unfold eh;refine d5.mpr (Ff (vj f (by lia) g1 O ?_));refine EY f (by lia) (by rw[ee];rfl) ?_;walk_at"w"
   rintro r S ⟨hS,rfl⟩;have g3:S[S2.length+1]?=Z (dO (fX g)):=by rw[hS,g9];rfl
   have g4:S[3]?=Z (.lst (c.map gA)):=by rw[hS,<- h];rfl
   have c3:S.all (Ob.und 0)=M:=by
    rw[hS,dz,c2,bR,bR,k4 f,(ko f).und];rfl
   unfold fi;rw[d5];refine iI ?_;walk_at"w";refine⟨3,c.map gA,O,g4,?_⟩
   try walk_at"w"
   refine tj (i:=i) (xs:=c.map gA) (x:=gA a) g4 R ?_
   try walk_at"w"
   refine BP (ws:=a.1) (cs:=a.2) am au g3 (Hd c3 _) ?_;rw[s0 am au f];walk_at"w";refine(lU g4).mpr ⟨ea (by rw[lM1];lia),?_⟩;have E:c[c.length-1]?=Z a:=by rw[k];exact ao
   refine⟨g,c++[jw m w e g a],H,G++[.lst ((fX g).map vc),dO (fX g)],_,_,by lia,f,by lia,t.more (by lia),K.more I f E z,by rw[lA1,k];rfl,?_,?_,?_,O⟩
   ·rw[gL1 (by lia)];exact p
   ·rw[dz,C,bR,bR,k4 f,(ko f).und];rfl
   ·rw[hS,<- h];simp only[bj,c9,c7,cG,mP1,aZ]
  ·rintro r S ⟨F,c,N,G,B,v,hi,s,X,l,K,k,p,C,rfl,rfl⟩;rw[lM1,dA,bP]at *
   exact⟨O,F,c,N,G,_,_,s,by lia,l,K,k,p,C,O,O⟩
 rintro r S ⟨F,c,N,G,B,v,s,X,l,K,k,p,C,rfl,rfl⟩;obtain⟨L,rl,aq⟩:=my (ko s) (aC (live_len F) (by lia));have wq:(Ob.lst (eA (fI rs []).1)).und 0=M:=by rw[Ob.und];exact jO _
 have hY:(Ob.lst (c.map gA)).und 0=M:=by rw[Ob.und];exact pH _ 0
 generalize h:N::dO F::Ob.lst (eA (fI rs []).1)::Ob.lst (c.map gA)::G=S2;have g1:S2[1]?=Z (dO F):=by rw[<- h];rfl
 refine eF (λr S=>S=S2++[.lst ((fX F).map vc),.lst (L.map (fF e))]/\r=[Z (.ref 0),Z (webD w),Z (eyD e),Z (standD rs cs),Z (.int (b:Nat)),Z (.ref 1),Z (.ref 3),B,v,Z (mcD e L)]) ?_ ?_
 ·unfold eh;refine d5.mpr (Av.mpr (Ax ?_));refine W.of (x:=(eyD e,S2)) O ?_;refine Ax (Ff (Ff (vj s (by lia) g1 O ?_)));dsimp only;refine W.of (aq S2.length _ (by rw[ee];rfl)) ?_;dsimp only;refine Aw.mpr (eG (xs:=L.map (fF e)) (by rw[ee];rfl) ?_);refine W.of (x:=([],_)) O ?_;refine⟨Jc,?_⟩;refine W.of (x:=_) O ?_;refine⟨O,?_,O⟩;simp
 rintro r S ⟨rfl,rfl⟩;have ur:=jY (e:=e) rl.ok 0;simp only[D.und]at ur;have hg:∀V,gc 1 (D.tup [mcD e L,.ref 3],V)=(D.tup [mcD e L,.ref 3],V):=λV=>by
  unfold gc;rw[aj];simp[D.und,D.unds]
 walk_at"w";show Q (gc 1 (D.tup [mcD e L,.ref 3],_));rw[hg,<- h];refine q F L c N (dO F::Ob.lst (eA (fI rs []).1)::Ob.lst (c.map gA)::(G++[.lst ((fX F).map vc),.lst (L.map (fF e))])) s rl K k p l ?_ O;rw[bR,bR,bR,dz,s.und,wq,hY,C,bR,bR,k4 s,Ob.und,ur];rfl
theorem Cy{n k:Nat}{xs:List D}{x:D}{S:Sto}{Q:D×Sto->Prop}(h:S[n]?=Z (.lst xs))(b:xs.length=k+1)(hx:xs[k]?=Z x)(q:Q (x,S)):W (dW (.ref n) (.int (-1)) S) Q:=by
 refine W.of (x:=(x,S)) ?_ q;simp only[dW,lh,zS,h,d6,tE,vE,oS1];rw[aj (show¬ (0:Int) <= -1 by decide)];have e:((-1:Int)+(xs.length:Int)).toNat=k:=by lia
 have a:((xs.length:Int)+(-1:Int)).toNat=k:=by lia
 rw[ak (by lia)]
 first
  |rw[e,oS1,hx];rfl
  |rw[a,oS1,hx];rfl
  |simp[e,a,hx]
theorem xZ{m:Nat}{w:ew}{e:E4}{F:List (TK×D)}{L:List Rw}{rs cs:List Nat}{Ws:List Wh}{b k:Nat}{S:Sto}{Q:D×Sto->Prop}(hst:n3 m rs cs)(y:RN e F)(j:RL e (fX F) L)(s:l5 m w e F k Ws)(h0:Ws[0]? = Z (fI rs cs))(hb:b<Ws.length)(v:b<=400)(q:Q (.tup ((Ws.take (b+1)).map gA),S)):W (dX 4 iV [webD w,mcD e L,standD rs cs,.int b] S) Q:=by
 refine lQ O (by simp[D.unds,fL,mi j.ok,gF];rfl) ?_;unfold iV;refine nr ?_;unfold s7;have t:=hst.few;have z:(Ws.take 1).map gA=[gA (fI rs cs)]:=by
  cases Ws with
  |nil=>cases h0
  |cons a Ws=>simp at h0;subst h0;rfl
 refine eF (λr V=>V=[.lst ((Ws.take 1).map gA)]/\r=[Z (webD w),Z (mcD e L),Z (standD rs cs),Z (.int (b:Nat)),Z (.ref 0),Y]) ?_ ?_
 ·walk_at"w";refine Cs (by lia) ?_;walk_at"w";exact⟨by rw[z],trivial⟩
 rintro r V ⟨rfl,rfl⟩;refine eF (λr V=>∃g,V=[.lst ((Ws.take (b+1)).map gA)]/\r=[Z (webD w),Z (mcD e L),Z (standD rs cs),Z (.int (b:Nat)),Z (.ref 0),g]) ?_ ?_
 ·walk_at"w";rw[ke,Int.toNat_natCast];refine⟨fW (by lia),?_⟩;refine fV (λi r V=>∃g,i<=b/\V=[.lst ((Ws.take (i+1)).map gA)]/\r=[Z (webD w),Z (mcD e L),Z (standD rs cs),Z (.int (b:Nat)),Z (.ref 0),g]) _ 0 _ _ ⟨_,bi _,O,O⟩ (λ_ _ _ _=>rfl) ?_ ?_
  ·rintro i d l r V ⟨g,hi,rfl,rfl⟩;have p:=(gE1.mp l).1;rw[lM1,dA]at p;rw[bP]at *
   obtain⟨a,n⟩:∃a,Ws[i]?=some a:=⟨_,gG1 (by lia)⟩;obtain⟨c,hc⟩:∃c,Ws[i+1]?=some c:=⟨_,gG1 (by lia)⟩;obtain⟨h,x⟩:=s.ok a (gM1 n);obtain⟨u,_⟩:=s.nx i a c n hc;have f:((Ws.take (i+1)).map gA).length=i+1:=by rw[lM1,aQ];lia
   have o:((Ws.take (i+1)).map gA)[i]?=Z (gA a):=by rw[gP1,aS (by lia),n];rfl
   walk_at"w";unfold mT fi;rw[d5];refine iI ?_;walk_at"w";refine⟨0,_,O,O,?_⟩
   ((try walk_at"w");repeat(simp only[sD];try walk_at"w"))
   refine Cy O f o ?_;walk_at"w";refine Fb (ws:=a.1) (cs:=a.2) h j.inc j.ok j.len ?_;rw[s0 h j y,<- u];walk_at"w";refine(lU O).mpr ⟨ea (by rw[f];lia),?_⟩;refine⟨_,by lia,?_,O⟩;rw[cH (i:=i+1),hc,cG];rfl
  ·rintro r V ⟨g,hi,rfl,rfl⟩;rw[lM1,dA,bP];exact⟨O,_,O,O⟩
 rintro r V ⟨g,rfl,rfl⟩;walk_at"w";refine eG (xs:=(Ws.take (b+1)).map gA) O ?_;exact⟨by rw[D.und];exact pH _ 0,q⟩
theorem tR{m:Nat}{w:ew}{a:Wh}(h:jd m w a.1 a.2):t5 (gA a)=M/\nY (gA a)<=60/\AG (gA a)<=9:=by
 have o:=h.few;have s:=h.m8;have g:=h.cl;have c:∀x:Nat,x<4000->t5 (.int (x:Nat))=M:=λx q=>by unfold t5;rw[al];lia
 have j:∀u∈a.1,t5 (ff u)=M:=λu e=>by
  obtain⟨d,i,h1,h2⟩:=h.wk u e;have p:=h.web.le d (gM1 i);have n:=h.lt u e;unfold ff;rw[t5];simp only[nN,bO,bA1];exact⟨c _ (by lia),c _ (by lia),c _ h2⟩
 have a1:=jS (f:=ff) (l:=a.1) j;have a2:=jm (f:=ff) (k:=3) (l:=a.1) λv b=>nR1 _;have a3:=kH (f:=ff) (k:=3) (l:=a.1) λv b=>(by decide:1<=3);have b1:=jS (f:=λr:Nat=>D.int r) (l:=a.2) λv b=>c v (by have:=h.ch v b;lia);have b2:=jm (f:=λr:Nat=>D.int r) (k:=0) (l:=a.2) λv b=>nR1 _;have b3:=kH (f:=λr:Nat=>D.int r) (k:=0) (l:=a.2) λv b=>nR1 _;unfold gA dZ;refine⟨?_,?_,?_⟩
 ·simp only[nN,t5,eA,eP,a1,b1,df]
 ·simp only[kK,nY,eA,eP];lia
 ·simp only[nX,AG,eA,eP];lia
theorem xW{m:Nat}{w:ew}{Ws:List Wh}(h:∀a∈Ws,jd m w a.1 a.2)(c:Ws.length<=500):∃t,∀S,nl (.tup (Ws.map gA)) S=Z (.str t,S):=by
 have a2:=jm (f:=gA) (k:=60) (l:=Ws) λv b=>(tR (h v b)).2.1;have a3:=kH (f:=gA) (k:=9) (l:=Ws) λv b=>(tR (h v b)).2.2;exact A2 (jS λv b=>(tR (h v b)).1) (by lia) (by lia)
theorem IC(xs:List D)(k:Nat):Mi.sT xs Y (Z (k:Int))=xs.take k:=by
 unfold Mi.sT;rw[HT.yw,HT.A0,bZ,Nat.sub_zero];by_cases h:k<=xs.length
 ·rw[bC h]
 ·rw[Nat.min_eq_right (by lia),b4,ca (by lia)]
theorem He{m:FE}{hi:FO}{r:Ev}{S:Sto}{n k:Nat}{xs:List D}{Q:D×Sto->Prop}(hm:m r S=Z (.ref n,S))(a:hi r S=Z (Z (k:Int),S))(h:S[n]?=Z (.lst xs))(q:Q (.ref S.length,S++[.lst (xs.take k)])):W (wN m mY hi r S) Q:=by
 rw[<- IC]at q;refine W.of ?_ q;unfold wN;rw[hm,oS1];dsimp only;rw[show mY r S=Z (Y,S)from rfl,oS1];dsimp only;rw[a,oS1];simp only[yq,gU h,oP1,if_true]
theorem pV{m:Nat}{w:ew}{e:E4}{F:List (TK×D)}{L:List Rw}{rs cs:List Nat}{Ws:List Wh}{b k j:Nat}{S:Sto}{Q:D×Sto->Prop}(hst:n3 m rs cs)(o:RN e F)(r:RL e (fX F) L)(g:l5 m w e F k Ws)(h0:Ws[0]? = Z (fI rs cs))(hb:b<Ws.length)(c:b<=400)(l:S[j]?=Z (.lst (Ws.map gA)))(f:S.all (Ob.und S.length)=M)(q:Q (.bl M,S)):W (dX 5 fm [webD w,mcD e L,standD rs cs,.ref j,.int b] S) Q:=by
 refine lP O (by simp[D.unds,D.und]) ?_;unfold fm;refine nr ?_;unfold kN;obtain⟨t,h⟩:=xW (m:=m) (w:=w) (Ws:=Ws.take (b+1)) (λa i=>(g.ok a (cO i)).1) (by rw[aQ];lia);have key:W (wN (mV 3) mY (rS (m2 (b2 fS) (mV 4) (mC (D.int 1)))) [Z (webD w),Z (mcD e L),Z (standD rs cs),Z (.ref j),Z (.int (b:Nat))] S) λp=>p=(.ref S.length,S++[.lst ((Ws.take (b+1)).map gA)]):=by
  refine He (k:=b+1) O ?_ l ?_
  ·rfl
  ·rw[List.map_take]
 obtain⟨p,n,rfl⟩:=key;generalize wN (mV 3) mY (rS (m2 (b2 fS) (mV 4) (mC (D.int 1))))=ao at *
 walk_at"w";refine xZ hst o r g h0 hb c ?_
 ((try walk_at"w");repeat(simp only[h,n];try walk_at"w"))
 refine eG (xs:=(Ws.take (b+1)).map gA) (by rw[ee];rfl) ?_
 ((try walk_at"w");repeat(simp only[h];try walk_at"w"))
 have s:(t == t)=M:=by simp
 rw[s,zQ (d:=.bl M) O f];exact q
theorem Hi{m:FA}{k:Nat}{r:Ev}{S S1:Sto}{Q:D×Sto->Prop}(hm:m r S=Z ([.int (k:Nat)],S1))(hk:k<=1000)(q:Q (.ref S1.length,S1++[.lst (gB 0 k)])):W (zu m r S) Q:=by
 refine W.of ?_ q;unfold zu;rw[hm,oS1];dsimp only;rw[ak (by
  unfold ot;simp only[bA1,al];lia),Int.toNat_natCast]
theorem xX{c:FT}{b:FS}{Q:Fl×Ev×Sto->Prop}(I:Nat->Ev->Sto->Prop)(step:∀k r S,I k r S->W (c r S) fun p=>if p.1=true then 0<k/\W (b r p.2) fun q=>q.1 = .nx/\I (k-1) q.2.1 q.2.2 else Q (.nx,r,p.2)):
  ∀(a k:Nat) (r:Ev) (S:Sto),k<a->I k r S->W (qT c b a r S) Q
 |0,k,r,S,hf,_=>by lia
 |a+1,k,r,S,hf,hi=>by
  rw[qT];dsimp only;rw[d5];obtain⟨⟨t,n⟩,e,h⟩:=step k r S hi;refine⟨_,e,?_⟩;dsimp only at h ⊢;cases t with
  |true=>
   rw[ak O]at h ⊢;obtain⟨m,⟨f,l,j⟩,i,d,g⟩:=h;dsimp only at d g;subst d;rw[i,oS1];exact xX I step a (k-1) l j (by lia) g
  |false=>
   rw[aj (by decide)]at h ⊢;exact eB.mpr h
theorem zf(rs:List Nat)(i:Nat):(eP rs).eraseIdx i=eP (rs.eraseIdx i):=by
 unfold eP;simp[cM,List.map_take,List.map_drop]
theorem tY{m most n:Nat}{o:Ob}{T:Sto}{Q:D×Sto->Prop}(S:0<m)(hm:m<=8)(aq:0<most)(P:most<=8)(ho:fY o n)(hn:n<=2^40)(U:T.all (Ob.und (T.length+1))=M)(q:∀rs f o',n3 m rs f->rs≠[]->rs.length<=most->fY o' (n+100)->Q (standD rs f,o'::T)):W (dX 3 ft [.ref 0,.int m,.int most] (o::T)) Q:=by
 refine v4 O O U ?_;unfold ft;refine nr ?_;unfold iH;have tl:∀(a b:Ob),(a::(T++[b]))[T.length+1]?=Z b:=λa b=>by rw[gC1,ee];rfl
 have X:∀(a b c:Ob),(a::(T++[b])).set (T.length+1) c=a::(T++[c]):=λa b c=>by rw[c9,c6 _ _ (nR1 _),cQ];rfl
 refine eF (λr V=>V=o::(T++[.lst (eP (af m))])/\r=[Z (.ref 0),Z (.int (m:Nat)),Z (.int (most:Nat)),Z (.ref (T.length+1)),Y]) ?_ ?_
 ·unfold eh;rw[d5];refine Hi (k:=m) (S1:=o::T) O (by lia) ?_;rw[ke];exact W.of O ⟨O,O,O⟩
 rintro r V ⟨rfl,rfl⟩;refine eF (λr V=>∃rs o',rs≠[]/\rs.length<=most/\rs.length<=m/\(∀x∈rs,x<m)/\fY o' (n+50)/\V=o'::(T++[.lst (eP rs)])/\r=[Z (.ref 0),Z (.int (m:Nat)),Z (.int (most:Nat)),Z (.ref (T.length+1)),Y]) ?_ ?_
 ·refine xX (λk r V=>∃rs o',rs.length=k+1/\k+1<=m/\(∀x∈rs,x<m)/\fY o' (n+2*(m-(k+1)))/\V=o'::(T++[.lst (eP rs)])/\r=[Z (.ref 0),Z (.int (m:Nat)),Z (.int (most:Nat)),Z (.ref (T.length+1)),Y]) ?_ 100000 (m-1) _ _ (by lia) ⟨af m,o,by rw[dA];lia,by lia,λx am=>aB.mp am,ho.more (by lia),O,O⟩;rintro k r V ⟨rs,N,E,hkm,j,v,rfl,rfl⟩;unfold gY;walk_at"w";refine eG (tl N (.lst (eP rs))) ?_;walk_at"w";refine fB v (by lia) (by lia) (by lia) λt C h au=>?_;walk_at"w";rw[jD,E];by_cases z:1+t<k+1
  ·rw[ak (by rw[al];push_cast;lia)];refine⟨by lia,?_⟩;unfold gX fi;rw[d5];refine iI ?_;walk_at"w";refine⟨T.length+1,eP rs,O,tl _ _,?_⟩
   try walk_at"w"
   refine eG (tl C (.lst (eP rs))) ?_
   try walk_at"w"
   rw[jD,E];refine fB h (by lia) (by push_cast;lia) (by push_cast;lia) λi p g hi=>?_
   try walk_at"w"
   have u:i<rs.length:=by rw[E];lia
   refine Fe (xs:=eP rs) (x:=.int (rs[i]'(u):Nat)) (tl _ _) (by unfold eP;rw[gP1,gG1 u];rfl) (by lia) ?_;rw[X,zf];refine⟨rs.eraseIdx i,p,by rw[cJ u];lia,by lia,λx am=>j x (List.mem_of_mem_eraseIdx am),g.more (by lia),O,trivial⟩
  ·rw[aj (by rw[al];push_cast;lia)];exact⟨rs,C,λz=>(by rw[z]at E;cases E),by lia,by lia,j,h.more (by lia),O,trivial⟩
 rintro r V ⟨rs,N,K,A,R,j,v,rfl,rfl⟩;refine eF (λr V=>∃(a:Nat) (o':Ob),a<2/\fY o' (n+51)/\V=o'::(T++[.lst (eP rs)])/\r=[Z (.ref 0),Z (.int (m:Nat)),Z (.int (most:Nat)),Z (.ref (T.length+1)),Z (.int (a:Nat))]) ?_ ?_
 ·walk_at"w";refine fB v (by lia) (by lia) (by lia) λt C h au=>?_;exact⟨t,C,by lia,h,O,O⟩
 rintro r V ⟨a,C,ha,h,rfl,rfl⟩;walk_at"w";refine eG (tl _ _) ?_;walk_at"w";rw[Int.toNat_natCast];refine⟨fW (by lia),?_⟩;refine jk (λi F r V=>∃f p x,i<=m/\F=eP f/\f.length<=i/\(∀y∈f,y<m)/\fY p (n+51+i)/\V=p::(T++[.lst (eP rs)])/\r=[x,Z (.int (a:Nat)),Z (.ref 0)]) _ 0 [] _ _ ⟨[],C,_,bi _,O,nR1 _,λy w=>(by cases w),h,O,O⟩ (λ_ _ _ _ _=>rfl) ?_ ?_
 ·rintro i d s F r V ⟨f,p,x,hi,rfl,I,l,g,rfl,rfl⟩;have B:=(gE1.mp s).1;rw[fC]at B;rw[bP]at *
  have H:d = .int (i:Nat):=by
   rw[ke,gP1,cN B]at s;exact(Option.some.inj s).symm
  subst H;walk_at"w";refine fB g (by lia) (by lia) (by lia) λt ao G au=>?_;have wq:∀L,jr (.int (a:Int)) (.int (t:Int)) L=Z (.int ((a:Int)*(t:Int)),L):=λL=>by
   simp only[jr];rw[ak (oF (by lia) (by lia))]
  ((try walk_at"w");repeat(simp only[wq];try walk_at"w"))
  split
  ·exact ⟨f++[i],ao,_,by lia,by simp [eP],by rw [lA1];simp;lia,fun y w=>by
    rcases aG.mp w with w|w
    ·exact l y w
    ·rw[cY.mp w];exact B,G.more (by lia),O,O⟩
  ·exact⟨f,ao,_,by lia,O,by lia,l,G.more (by lia),O,O⟩
 ·rintro xs r V ⟨f,p,x,hi,e,I,l,g,rfl,rfl⟩;rw[c4]at e;subst e;rw[fC,bP]at *
  walk_at"w";refine⟨ea (by rw[jD];lia),?_⟩;refine eG (xs:=eP f) (by rw[gC1,g9];rfl) ?_;exact⟨standD rs f,p,[.lst (eP rs),.lst (eP f)],by simp[standD],gF rs f 0,g.und,q rs f p ⟨by lia,by lia,j,l⟩ K A (g.more (by lia))⟩
theorem wd{f:FN}{n h:Nat}{es:List D}{o:Ob}{S:Sto}{Q:D×Sto->Prop}(hn:es.length+1=n)(he:D.unds 0 es=M)(i:S[h]? = Z o)(ho:o.und 0=M)(q:W (dX n f (.ref 0::es) [o]) λp=>∃o' G,p.2=o'::G/\o'.und 0=M/\(if p.1.und 0=M then G=[]/\Q (p.1,S.set h o')else(p.1.mv h S.length).und S.length=J/\Q (p.1.mv h S.length,S.set h o'++G.map (Ob.mv h S.length)))):W (dX n (apart f) (.ref h::es) S) Q:=by
 obtain⟨⟨d,j⟩,e,o',G,g,b,a⟩:=q;dsimp only at g a;subst g;unfold dX at e ⊢;rw[ak (by simpa using hn)]at e ⊢;have c:D.unds 0 (.ref h::es)=J:=by simp[D.unds,D.und]
 unfold lR;rw[aj (by rw[c];decide)];unfold apart;dsimp only;rw[ak he,i,oS1,ak ho,e,oS1];dsimp only;rw[ak b];cases hd:d.und 0 with
 |true=>
  rw[hd,ak O]at a;rw[ak O,oP1,gc_same (by simp)];exact⟨_,O,a.2⟩
 |false=>
  rw[hd,aj (by decide)]at a;rw[aj (by decide),oP1];have:gc S.length (d.mv h S.length,S.set h o'++G.map (Ob.mv h S.length))=(d.mv h S.length,S.set h o'++G.map (Ob.mv h S.length)):=by
   unfold gc;rw[a.1];rfl
  rw[this];exact⟨_,O,a.2⟩
mutual
theorem mZ{h n:Nat}:∀{d:D},d.und 0=M->d.mv h n=d
 | .non,_=>rfl
 | .bl _,_=>rfl
 | .int _,_=>rfl
 | .str _,_=>rfl
 | .tup xs,q=>by rw[D.und]at q;rw[D.mv,mh q]
 | .rol xs,q=>by rw[D.und]at q;rw[D.mv,mh q]
 | .fn _,_=>rfl
 | .ref k,q=>by simp[D.und]at q
theorem mh{h n:Nat}:∀{ds:List D},D.unds 0 ds=M->D.mvs h n ds=ds
 |[],_=>rfl
 |d::ds,q=>by
  rw[D.unds,bA1]at q;rw[D.mvs,mZ q.1,mh q.2]
end
theorem y0{h n:Nat}:∀{o:Ob},o.und 0=M->o.mv h n=o
 | .lst xs,q=>by rw[Ob.und]at q;rw[Ob.mv,mh q]
 | .dct xs,q=>by
  rw[Ob.und]at q;rw[Ob.mv]
  congr 1
  induction xs with
  |nil=>rfl
  |cons p xs ih=>rw[mP1,D.unds,bA1]at q;rw[mP1,mZ q.1,ih q.2]
 | .dcT xs,q=>by
  rw[Ob.und]at q;rw[Ob.mv]
  congr 1
  induction xs with
  |nil=>rfl
  |cons p xs ih=>rw[mP1,D.unds,bA1]at q;rw[mP1,mZ q.1,ih q.2]
 | .dcF xs,q=>by
  rw[Ob.und]at q;rw[Ob.mv]
  congr 1
  induction xs with
  |nil=>rfl
  |cons p xs ih=>rw[mP1,D.unds,bA1]at q;rw[mP1,mZ q.1,ih q.2]
 | .iset _,_=>rfl
 | .tst _,_=>rfl
theorem vn{h n:Nat}:∀{G:Sto},G.all (Ob.und 0)=M->G.map (Ob.mv h n)=G
 |[],_=>rfl
 |o::G,q=>by
  rw[bR,bA1]at q;rw[mP1,y0 q.1,vn q.2]
structure eZ where
 m:Nat
 w:ew
 e:E4
 F:List (TK×D)
 L:List Rw
 rs:List Nat
 cs:List Nat
 Ws:List Wh
 k:Nat
 j:Nat
 few:Nat
noncomputable def eZ.d(x:eZ):D:=.tup [webD x.w,mcD x.e x.L,standD x.rs x.cs,.ref x.j,.int x.few]
structure eZ.Ok (x:eZ)(S:Sto):Prop where
 st:n3 x.m x.rs x.cs
 hF:RN x.e x.F
 rl:RL x.e (fX x.F) x.L
 wk:l5 x.m x.w x.e x.F x.k x.Ws
 h0:x.Ws[0]?=some (fI x.rs x.cs)
 lt:x.few<x.Ws.length
 le:x.few<=400
 at_:S[x.j]?=some (.lst (x.Ws.map gA))
theorem eZ.Ok.app{x:eZ}{S G:Sto}(h:x.Ok S):x.Ok (S++G):=⟨h.st,h.hF,h.rl,h.wk,h.h0,h.lt,h.le,by rw[gL1 (gE1.mp h.at_).1];exact h.at_⟩
theorem eZ.Ok.tr{x:eZ}{S S':Sto}(h:x.Ok S)(e:S'[x.j]?=S[x.j]?):x.Ok S':=⟨h.st,h.hF,h.rl,h.wk,h.h0,h.lt,h.le,e.trans h.at_⟩
theorem eZ.und{x:eZ}{S:Sto}(h:x.Ok S){n:Nat}(a:x.j<n):x.d.und n=M:=by
 have h1:=fr (n:=n) (fL x.w);have h2:=fr (n:=n) (mi (e:=x.e) h.rl.ok);have b:=gF x.rs x.cs n;simp[eZ.d,D.und,D.unds,h1,h2,b,a]
theorem yA{n:Nat}{xs:List D}{m:FE}{r:Ev}{S:Sto}(hm:m r S=Z (.ref n,S))(h:S[n]?=Z (.lst xs)):oH m (m1 (b1 sD) (mC (D.int 1))) r S=Z (.ref S.length,S++[.lst xs.reverse]):=by
 unfold oH;rw[hm];have a:m1 (b1 sD) (mC (D.int 1)) r S=Z (.int (-1),S):=rfl;simp[a,DC,gU h]
theorem uJ{S:Sto}{n k:Nat}(h:S.all (Ob.und n)=M)(hk:n<=k):S.all (Ob.und k)=M:=by
 rw[bD]at h ⊢;exact λx a=>gJ hk (h x a)
theorem we{S:Sto}{n i:Nat}{o:Ob}(h:S.all (Ob.und n)=M)(ho:o.und n=M):(S.set i o).all (Ob.und n)=M:=by
 rw[bD]at h ⊢;intro x a;rcases List.mem_or_eq_of_mem_set a with z|z
 ·exact h x z
 ·rw[z];exact ho
noncomputable def kl(KS:List eZ):Ob:=.lst (KS.map eZ.d)
structure St (V:Sto)(KS:List eZ)(h:Nat)(o:Ob):Prop where
 l0:V[0]?=some (kl KS)
 hd:V[h]?=some o
 pos:0<h
 cl:V.all (Ob.und V.length)=true
 ks:∀x∈KS,x.Ok V/\0<x.j/\x.j≠h/\x.j<V.length
theorem St.hand{V:Sto}{KS:List eZ}{h:Nat}{o o':Ob}(s:St V KS h o)(ho:o'.und 0=M):St (V.set h o') KS h o':=by
 have f:=(gE1.mp s.hd).1;have g:=s.pos;refine⟨by rw[gS1 (by lia)];exact s.l0,aI f,g,by rw[aW];exact we s.cl (gJ (bi _) ho),λx e=>?_⟩;obtain⟨a,b,c,d⟩:=s.ks x e;exact⟨a.tr (gS1 (Ne.symm c)),b,c,by rw[aW];exact d⟩
theorem St.more{V G:Sto}{KS:List eZ}{h:Nat}{o:Ob}(s:St V KS h o)(f:G.all (Ob.und 0)=M):St (V++G) KS h o:=by
 have i:=(gE1.mp s.hd).1;have e:=(gE1.mp s.l0).1;refine⟨by rw[gL1 e];exact s.l0,by rw[gL1 i];exact s.hd,s.pos,?_,λx g=>?_⟩
 ·rw[dz,uJ s.cl (by rw[lA1];lia),Hd f];rfl
 ·obtain⟨a,b,c,d⟩:=s.ks x g;exact⟨a.app,b,c,by rw[lA1];lia⟩
theorem St.keep{V:Sto}{KS:List eZ}{h:Nat}{o:Ob}{x:eZ}(s:St V KS h o)(hx:x.Ok V)(h1:0<x.j)(h2:x.j≠h):St (V.set 0 (kl (KS++[x]))) (KS++[x]) h o:=by
 have g:=(gE1.mp s.l0).1;have i:=s.pos;have f:=(gE1.mp hx.at_).1;have all:∀y∈KS++[x],y.Ok V/\0<y.j/\y.j≠h/\y.j<V.length:=λy e=>by
  rcases aG.mp e with e|e
  ·exact s.ks y e
  ·rw[cY.mp e];exact⟨hx,h1,h2,f⟩
 refine⟨aI g,by rw[gS1 (by lia)];exact s.hd,i,?_,λy e=>?_⟩
 ·rw[aW];refine we s.cl ?_;unfold kl;rw[Ob.und];exact Mi.eK λy e=>eZ.und (all y e).1 (all y e).2.2.2
 ·obtain⟨a,b,c,d⟩:=all y e;exact⟨a.tr (gS1 (by lia)),b,c,by rw[aW];exact d⟩
theorem kQ{f:FN}{n h:Nat}{es:List D}{o:Ob}{S:Sto}{Q:D×Sto->Prop}(hn:es.length+1=n)(he:D.unds 0 es=M)(b:S[h]? = Z o)(ho:o.und 0=M)(q:W (dX n f (.ref 0::es) [o]) λp=>∃o',p.2=[o']/\o'.und 0=M/\p.1.und 0=M/\Q (p.1,S.set h o')):W (dX n (apart f) (.ref h::es) S) Q:=
 wd hn he b ho (q.mono λp ⟨o',e,h1,h2,a⟩=>⟨o',[],e,h1,by rw[ak h2];exact⟨O,a⟩⟩)
theorem pL{h n:Nat}{k:Int}{o:Ob}{S:Sto}{Q:D×Sto->Prop}(e:S[h]? = Z o)(ho:fY o n)(hn:n<=2^50)(hk:0<k)(b:k<1073741824)(q:∀(d:Nat) o',fY o' (n+1)->(d:Int)<k->Q (.int d,S.set h o')):W (dX 2 (apart dV) [.ref h,.int k] S) Q:=by
 refine kQ O O e ho.und ?_;refine fB ho hn hk b λd o' a c=>?_;exact⟨o',O,a.und,O,q d o' a c⟩
theorem sM{m:Nat}{w:ew}{e:E4}{rs cs:List Nat}{o:Ob}{n b h:Nat}{KS:List eZ}{V:Sto}{Q:D×Sto->Prop}(s:St V KS h o)(hw:nJ m w)(hm:m<=8)(hst:n3 m rs cs)(ho:fY o n)(hn:n<=2^35)(hb:b<=400)(d:b*rs.length<=3000)(q:∀F L c o' g,RN e F->RL e (fX F) L->l5 m w e F rs.length c->c.length=b+1->c[0]?=some (fI rs cs)->fY o' (n+100*b)->St g KS h o'->g[V.length+2]?=some (.lst (c.map gA))->Q (.tup [mcD e L,.ref (V.length+2)],g)):
  W (dX 5 (apart eH) [.ref h,webD w,eyD e,standD rs cs,.int b] V) Q:=by
 refine wd O (by simp[D.unds,fL,kE,gF];rfl) s.hd ho.und ?_;refine Cg hw hm hst ho hn hb d λF L c o' G t k l i f a j h2=>?_;refine⟨o',G,O,a.und,?_⟩;have r:(D.tup [mcD e L,.ref 3]).und 0=J:=by simp[D.und,D.unds]
 rw[r,aj (by decide)];have u:=(gE1.mp s.hd).1;have p:(D.tup [mcD e L,.ref 3]).mv h V.length = .tup [mcD e L,.ref (V.length+2)]:=by
  rw[D.mv,D.mvs,D.mvs,D.mvs,mZ (mi k.ok)];rfl
 rw[p,vn j];refine⟨by simp[D.und,D.unds],?_⟩;refine q F L c o' (V.set h o'++G) t k l i f a ((s.hand a.und).more j) ?_;rw[gR1 (by rw[aW];lia),aW,show V.length+2-V.length=2 by lia];exact h2
structure tz (V:Sto)(KS:List eZ):Prop where
 l0:V[0]?=some (kl KS)
 cl:V.all (Ob.und V.length)=true
 ks:∀x∈KS,x.Ok V/\0<x.j/\x.j<V.length
theorem St.base{V:Sto}{KS:List eZ}{h:Nat}{o:Ob}(s:St V KS h o):tz V KS:=⟨s.l0,s.cl,λx a=>⟨(s.ks x a).1,(s.ks x a).2.1,(s.ks x a).2.2.2⟩⟩
theorem tz.hand{V:Sto}{KS:List eZ}{o:Ob}(s:tz V KS)(ho:o.und 0=M):St (V++[o]) KS V.length o:=by
 have d:=(gE1.mp s.l0).1;refine⟨by rw[gL1 d];exact s.l0,by rw[ee];rfl,by lia,?_,λx e=>?_⟩
 ·rw[dz,uJ s.cl (by rw[lA1];lia),bR,gJ (bi _) ho];rfl
 ·obtain⟨a,b,c⟩:=s.ks x e;exact⟨a.app,b,by lia,by rw[lA1];lia⟩
theorem B4(ns:List Int)(k:Int)(h0:0<=k)(hk:k<63){S:Sto}{Q:D×Sto->Prop}(q:∀o,fY o 0->Q (.ref S.length,S++[o])):W (dX 2 fD [.rol (ns.map D.int),.int k] S) Q:=by
 obtain⟨g,m,e⟩:=zO ns k h0 hk;refine⟨_,sY (n:=2) e O (by rw[D.unds,D.und,og];rfl) (by simp[D.und]),?_⟩;have:=q (hnd g m 0) ⟨_,_,_,O,Int.le_refl _,Int.le_refl _⟩;simpa[D.sh,Ob.sh,D.shs,hnd]using this
theorem Fd{m:Nat}(hm:m<=8){rs cs:List Nat}(h:n3 m rs cs):n3 m (af m) cs:=⟨by rw[dA];exact hm,h.cl,λr a=>aB.mp a,h.cs⟩
noncomputable def rT(N:D)(k:Int)(y3 y4 y5 y6 y7 y8 y9:Option D)(y10:Option D):Ev:=[Z N,Z (.ref 0),Z (.int k),y3,y4,y5,y6,y7,y8,y9,y10]
theorem Dd(ns:List Int)(k:Int)(h0:0<=k)(hk:k<63){S:Sto}{KS:List eZ}{y3 y4 y5 y6 y7 y8 y9 y10:Option D}(s:tz S KS)(hKS:KS.length<=50):
  W (p7 (rT (.rol (ns.map D.int)) k y3 y4 y5 y6 y7 y8 y9 y10) S) λp=>p.1 = .nx /\ ∃KS' z3 z4 z5 z6 z7 z8 z9,tz p.2.2 KS'/\KS'.length=KS.length+2/\p.2.1=rT (.rol (ns.map D.int)) k z3 z4 z5 z6 z7 z8 z9 y10:=by
 unfold p7;have hN:=λ{S:Sto} {Q} q=>B4 ns k h0 hk (S:=S) (Q:=Q) q;generalize hNe:D.rol (ns.map D.int)=N at *
 have hlt0:=(gE1.mp s.l0).1;refine eF (λr V=>∃o,fY o 0/\St V KS S.length o/\r=rT N k (Z (.ref S.length)) y4 y5 y6 y7 y8 y9 y10) ?_ ?_
 ·unfold rT;walk_at"w";refine hN λo l=>?_;exact⟨o,l,s.hand l.und,O⟩
 rintro r V ⟨o,l,g,rfl⟩;generalize S.length=h at *
 refine eF (λr V=>∃(m:Nat) (w:ew) (e:E4) (o:Ob),0<m/\m<=8/\nJ m w/\fY o 200/\St V KS h o/\r=rT N k (Z (.ref h)) (Z (webD w)) (Z (eyD e)) y6 y7 y8 y9 y10) ?_ ?_
 ·unfold rT;walk_at"w";refine kQ O O g.hd l.und ?_;refine Fx (T:=[]) l (by lia) O λm w y K hm aq f=>?_;refine⟨y,O,f.und,fL w,?_⟩;have u:=g.hand f.und;walk_at"w";refine kQ O O u.hd f.und ?_;refine EW (T:=[]) f (by lia) O λa b c d o3 au=>?_;refine⟨o3,O,au.und,kE (a,b,c,d),?_⟩;have z:=u.hand au.und;exact⟨m,w,(a,b,c,d),o3,K,hm,aq,au.more (by lia),z,O⟩
 rintro r V ⟨m,w,e,o,K,hm,aq,l,g,rfl⟩;refine eF (λr V=>∃(rs n:List Nat) (o:Ob),n3 m rs n/\rs≠[]/\rs.length<=4/\fY o 400/\St V KS h o/\r=rT N k (Z (.ref h)) (Z (webD w)) (Z (eyD e)) (Z (standD rs n)) y7 y8 y9 y10) ?_ ?_
 ·unfold rT
  ((try walk_at"w");repeat(simp only[qk];try walk_at"w"))
  rw[aq.len];refine kQ O O g.hd l.und ?_;refine tY (T:=[]) (most:=4) K hm (by lia) (by lia) l (by lia) O λrs n y A hne hl f=>?_;refine⟨y,O,f.und,gF rs n 0,?_⟩;exact⟨rs,n,y,A,hne,hl,f.more (by lia),g.hand f.und,O⟩
 rintro r V ⟨rs,n,o,A,hne,hrl,l,g,rfl⟩;refine eF (λr V=>∃(b:Nat) (o:Ob),b<=400/\fY o 401/\St V KS h o/\r=rT N k (Z (.ref h)) (Z (webD w)) (Z (eyD e)) (Z (standD rs n)) (Z (.int (b:Nat))) y8 y9 y10) ?_ ?_
 ·unfold rT;walk_at"w";refine pL g.hd l (by lia) (by lia) (by lia) λt y f ht=>?_;exact⟨t,y,by lia,f,g.hand f.und,O⟩
 rintro r V ⟨b,o,wq,l,g,rfl⟩;refine eF (λr V=>∃(b:Nat) (o:Ob),b<=400/\fY o 402/\St V KS h o/\r=rT N k (Z (.ref h)) (Z (webD w)) (Z (eyD e)) (Z (standD rs n)) (Z (.int (b:Nat))) y8 y9 y10) ?_ ?_
 ·unfold rT;walk_at"w";split
  ·refine pL g.hd l (by lia) (by lia) (by lia) λt y f ht=>?_;walk_at"w";split
   ·exact⟨400,y,by lia,f,g.hand f.und,O⟩
   ·exact⟨b,y,wq,f,g.hand f.und,O⟩
  ·exact⟨b,o,wq,l.more (by lia),g,O⟩
 rintro r V ⟨b,o,wq,l,g,rfl⟩;have hlim:b*rs.length<=3000:=aC (Nat.mul_le_mul wq hrl) (by decide)
 -- the first walk
 refine eF (λr V=>∃F L i j o,RN e F/\RL e (fX F) L/\l5 m w e F rs.length i/\i.length=b+1/\i[0]?=Z (fI rs n)/\fY o 50000/\St V KS h o/\V[j]?=Z (.lst (i.map gA))/\0<j/\j≠h/\r=rT N k (Z (.ref h)) (Z (webD w)) (Z (eyD e)) (Z (standD rs n)) (Z (.int (b:Nat))) (Z (mcD e L)) (Z (.ref j)) y10) ?_ ?_
 ·unfold rT;walk_at"w";refine sM g aq hm A l (by lia) wq hlim λF L i y V2 G I am B v f u U=>?_;walk_at"w";have hlt:=(gE1.mp g.hd).1;exact⟨F,L,i,_,y,G,I,am,B,v,f.more (by lia),u,U,by lia,by lia,O⟩
 rintro r V ⟨F,L,i,j,o,G,I,am,B,v,l,g,hj,R,E,rfl⟩;refine eF (λr V'=>V'=V/\r=rT N k (Z (.ref h)) (Z (webD w)) (Z (eyD e)) (Z (standD rs n)) (Z (.int (b:Nat))) (Z (mcD e L)) (Z (.ref j)) y10) ?_ ?_
 ·unfold rT;walk_at"w";refine pV A G I am v (by lia) wq hj g.cl ?_;walk_at"w"
 rintro r V' ⟨rfl,rfl⟩;refine eF (λr V=>∃C o,C.length=KS.length+1/\fY o 50001/\St V C h o/\r=rT N k (Z (.ref h)) (Z (webD w)) (Z (eyD e)) (Z (standD rs n)) (Z (.int (b:Nat))) (Z (mcD e L)) (Z (.ref j)) y10) ?_ ?_
 ·unfold rT fi;rw[d5];refine iI ?_;walk_at"w";refine⟨0,_,O,g.l0,?_⟩
  try walk_at"w"
  rw[show((b:Int)+1)=((b+1:Nat):Int) by push_cast;rfl];refine pL g.hd l (by lia) (by push_cast;lia) (by push_cast;lia) λt y f ht=>?_
  try walk_at"w"
  have u:=g.hand f.und;refine(lU u.l0).mpr ⟨ea (by rw[lM1];lia),?_⟩;have hj2:(V'.set h y)[j]?=Z (.lst (i.map gA)):=by rw[gS1 (Ne.symm E)];exact hj
  have z:=u.keep (x:=⟨m,w,e,F,L,rs,n,i,rs.length,j,t⟩) ⟨A,G,I,am,v,by show t<i.length;push_cast at ht;lia,by show t<=400;push_cast at ht;lia,hj2⟩ R E;unfold kl at z;rw[cG]at z;exact⟨_,y,by rw[lA1];rfl,f,z,trivial⟩
 rintro r V ⟨C,o,hK1,l,g,rfl⟩
 -- a walker in each room
 refine eF (λr V'=>V'=V/\r=rT N k (Z (.ref h)) (Z (webD w)) (Z (eyD e)) (Z (standD (af m) n)) (Z (.int (b:Nat))) (Z (mcD e L)) (Z (.ref j)) y10) ?_ ?_
 ·have et:∀ r V,zr (dS (mN (b1 eS) (dS (mV 4) dU)) dU) (rT N k (some (.ref h)) (some (webD w)) (some (eyD e)) (some (standD rs n)) (some (.int (b:Nat))) (some (mcD e L)) r y10) V=some (.tup (eP (List.range m)),V):=fun r V=>by
   have e1:dS (mN (b1 eS) (dS (mV 4) dU)) dU (rT N k (Z (.ref h)) (Z (webD w)) (Z (eyD e)) (Z (standD rs n)) (Z (.int (b:Nat))) (Z (mcD e L)) r y10) V=Z ([.int (m:Nat)],V):=by
    simp only[rT,dS,dU,mN,mV,b1,gC1,dk,oS1,qk,aq.len]
   unfold zr;rw[e1,oS1];dsimp only;rw[ak (by
    unfold ot;simp only[bA1,al];lia),Int.toNat_natCast,ke]
   rfl
  have e2:=et (Z (.ref j)) V;unfold rT at e2 ⊢;generalize zr (dS (mN (b1 eS) (dS (mV 4) dU)) dU)=ao at *
  ((try walk_at"w");repeat(simp only[e2,ym];try walk_at"w"))
  rfl
 rintro r V' ⟨rfl,rfl⟩;have H:=Fd hm A;have X:8*(af m).length<=3000:=by rw[dA];lia
 refine eF (λr V=>∃F L i j o,RN e F/\RL e (fX F) L/\l5 m w e F (af m).length i/\i.length=9/\i[0]?=Z (fI (af m) n)/\fY o 60000/\St V C h o/\V[j]?=Z (.lst (i.map gA))/\0<j/\j≠h/\r=rT N k (Z (.ref h)) (Z (webD w)) (Z (eyD e)) (Z (standD (af m) n)) (Z (.int (b:Nat))) (Z (mcD e L)) (Z (.ref j)) y10) ?_ ?_
 ·unfold rT;walk_at"w";refine sM (b:=8) g aq hm H l (by lia) (by lia) X λF L i y V2 G I am B v f u U=>?_;walk_at"w";have hlt:=(gE1.mp g.hd).1;exact⟨F,L,i,_,y,G,I,am,B,v,f.more (by lia),u,U,by lia,by lia,O⟩
 rintro r V ⟨F,L,i,j,o,G,I,am,B,v,l,g,hj,R,E,rfl⟩;unfold rT fi;rw[d5];refine iI ?_;walk_at"w";refine⟨0,_,O,g.l0,?_⟩
 try walk_at"w"
 refine(lU g.l0).mpr ⟨ea (by rw[lM1];lia),?_⟩;have z:=g.keep (x:=⟨m,w,e,F,L,af m,n,i,(af m).length,j,8⟩) ⟨H,G,I,am,v,by show 8<i.length;lia,by show 8<=400;lia,hj⟩ R E;have P:=z.base;unfold kl at P;rw[cG]at P;exact⟨_,_,_,_,_,_,_,_,P,by rw[lA1,hK1];rfl,O⟩
theorem eZ.few0{x:eZ}{S:Sto}(h:x.Ok S):0<x.Ws.length:=by
 have:=h.lt;lia
theorem Cw{N:D}{x:eZ}{S:Sto}{c y3 y4 y5 y6 y7 y8 y9 y10:Option D}{Q:Fl×Ev×Sto->Prop}(h:x.Ok S)(a:S.all (Ob.und S.length)=true)(q:Q (.nx,[some N,some (.ref 0),c,y3,some (webD x.w),y5,some (standD x.rs x.cs),y7,some (mcD x.e x.L),some (.ref x.j),some (.int x.few)],S)):
  W (pZ [Z N,Z (.ref 0),c,y3,Z (webD x.w),y5,Z (standD x.rs x.cs),y7,Z (mcD x.e x.L),Z (.ref x.j),Z (.int x.few)] S) Q:=by
 unfold pZ;walk_at"w";refine pV h.st h.hF h.rl h.wk h.h0 h.lt h.le h.at_ a ?_;walk_at"w";refine pV (b:=0) h.st h.hF h.rl h.wk h.h0 (eZ.few0 h) (bi _) h.at_ a ?_;walk_at"w";exact q
theorem truth(ns:List Int)(hl:ns.length<=63):∃S,m_law [.rol (ns.map D.int)] []=Z (.bl M,S):=by
 have key:W (m_law [.rol (ns.map D.int)] []) λp=>p.1 = .bl M:=by
  unfold m_law;refine nr ?_;unfold Ar;have ht:=λk I aq S KS o m n v l u q y s au=>Dd ns k I aq (S:=S) (KS:=KS) (y3:=o) (y4:=m) (y5:=n) (y6:=v) (y7:=l) (y8:=u) (y9:=q) (y10:=y) s au;generalize hN:D.rol (ns.map D.int)=N at *
  have C:∀S,eS N S=Z (.int ns.length,S):=λS=>by rw[<- hN];simp[eS,d6]
  have b0:tz [kl []] []:=⟨O,O,λx j=>by cases j⟩;refine eF (λr S=>S=[kl []]/\r=[Z N,Z (.ref 0),Y,Y,Y,Y,Y,Y,Y,Y,Y]) ?_ ?_
  ·walk_at"w";exact⟨O,trivial⟩
  rintro r S ⟨rfl,rfl⟩;refine eF (λr S=>∃KS w o m n v l u q,tz S KS/\KS.length<=20/\r=[Z N,Z (.ref 0),w,o,m,n,v,l,u,q,Y]) ?_ ?_
  ·simp only [iW,d5,C0,dS,mN,mC,mV,dU,b1,b2,B7,B6,C,eB,oS1,dk,F2];have wq:∃ t:Nat,t<=4/\(if (if (ns.length:Int)<4 then (ns.length:Int) else 4)>1 then (if (ns.length:Int)<4 then (ns.length:Int) else 4) else 1)=(t:Int):=by
    by_cases h1:(ns.length:Int)<4
    ·rw[ak h1];by_cases h2:(ns.length:Int)>1
     ·rw[ak h2];exact⟨ns.length,by lia,O⟩
     ·rw[aj h2];exact⟨1,by lia,O⟩
    ·rw[aj h1];exact⟨4,by lia,by decide⟩
   obtain⟨t,t1,te⟩:=wq;rw[te,Int.toNat_natCast];refine⟨fW (by lia),?_⟩;refine fV (λi r S=>∃KS w o m n v l u q,i<=t/\tz S KS/\KS.length=2*i/\r=[Z N,Z (.ref 0),w,o,m,n,v,l,u,q,Y]) _ 0 _ _ ⟨[],_,_,_,_,_,_,_,_,bi _,b0,O,O⟩ (λ_ _ _ _=>rfl) ?_ ?_
   ·rintro i d E r S ⟨KS,w,o,m,n,v,l,u,q,hi,z,P,rfl⟩;have T:=(gE1.mp E).1;rw[fC]at T;obtain⟨k,e,k0,k1⟩:=r6 (gM1 E);subst e;simp only[gN,c9,c7,eB];refine(ht k k0 (by lia) S KS o m n v l u q Y z (by lia)).mono ?_;rintro⟨f,r2,B⟩ ⟨U,L,z3,z4,z5,z6,z7,z8,z9,K,hK',hr⟩;exact⟨U,L,_,_,_,_,_,_,_,_,by lia,K,by lia,hr⟩
   ·rintro r S ⟨KS,w,o,m,n,v,l,u,q,hi,z,P,rfl⟩;rw[fC,bP]at P;exact⟨O,KS,_,_,_,_,_,_,_,_,z,by lia,O⟩
  rintro r S ⟨KS,w,o,m,n,v,l,u,q,z,P,rfl⟩;refine eF (λr S=>True) ?_ λr S _=>?_
  ·have F:oH (mV 1) (m1 (b1 sD) (mC (D.int 1))) [Z N,Z (.ref 0),w,o,m,n,v,l,u,q,Y] S=Z (.ref S.length,S++[.lst (KS.reverse.map eZ.d)]):=by rw[List.map_reverse];exact yA O z.l0
   generalize oH (mV 1) (m1 (b1 sD) (mC (D.int 1)))=ao at *
   have I:=(gE1.mp z.l0).1
   ((try walk_at"w");repeat(simp only[F];try walk_at"w"))
   refine(Ay (S:=S++[.lst (KS.reverse.map eZ.d)]) (a:=0) (b:=S.length) (xs:=KS.map eZ.d) (ys:=KS.reverse.map eZ.d) (by rw[gL1 I];exact z.l0) (by rw[ee];rfl)).mpr ⟨ea (by rw[lM1,lM1,cc];lia),?_⟩;generalize A:S++[Ob.lst (KS.reverse.map eZ.d)]=B;have X:B.length=S.length+1:=by rw[<- A];simp
   rw[<- cG];refine eG (xs:=(KS++KS.reverse).map eZ.d) (by rw[ee];rfl) ?_;have g:∀x∈KS++KS.reverse,x.Ok S/\x.j<S.length:=λx j=>by
    have:x∈KS:=by
     rcases aG.mp j with j|j
     ·exact j
     ·exact cZ.mp j
    obtain⟨a,b,c⟩:=z.ks x this;exact⟨a,c⟩
   have R:(B++[Ob.lst ((KS++KS.reverse).map eZ.d)]).all (Ob.und (B++[Ob.lst ((KS++KS.reverse).map eZ.d)]).length)=M:=by
    have H:(B++[Ob.lst ((KS++KS.reverse).map eZ.d)]).length=S.length+2:=by rw[lA1,X];rfl
    rw[H,<- A,dz,dz,uJ z.cl (by lia),bR,bR,Ob.und,Ob.und];rw[Mi.eK λx j=>eZ.und (g x (mA1 _ j)).1 (nL1 (g x (mA1 _ j)).2 (by lia))];rw[Mi.eK λx j=>eZ.und (g x j).1 (nL1 (g x j).2 (by lia))];rfl
   refine fV (λ_ r V=>V=B++[Ob.lst ((KS++KS.reverse).map eZ.d)] /\ ∃w o m n v l u q y,r=[Z N,Z (.ref 0),w,o,m,n,v,l,u,q,y]) _ 0 _ _ ⟨O,_,_,_,_,_,_,_,_,_,O⟩ (λi r V ⟨hV,_⟩=>by rw[hV];exact gZ (by rw[ee];rfl)) ?_ ?_
   ·rintro i d E r V ⟨rfl,w,o,m,n,v,l,u,q,y,rfl⟩;rw [gP1] at E;obtain ⟨x,j,rfl⟩:=oM1.mp E;have am:=gM1 j;have Q:x.Ok (B++[Ob.lst ((KS++KS.reverse).map eZ.d)]):=by
     have:=((g x am).1.app (G:=[Ob.lst (KS.reverse.map eZ.d)])).app (G:=[Ob.lst ((KS++KS.reverse).map eZ.d)]);rw[A]at this;exact this
    unfold eZ.d;walk_at"w";refine Cw (N:=N) (x:=x) (y4:=Y) (y6:=Y) (y8:=Y) (y9:=Y) (y10:=Y) Q R ?_;exact⟨O,O,_,_,_,_,_,_,_,_,_,O⟩
   ·rintro r V _;exact⟨O,trivial⟩
  ·simp only[fu,mC,oS1,eB]
 obtain⟨⟨d,S⟩,e,h⟩:=key;dsimp only at h;exact⟨S,by rw[e,h]⟩
end Law
end
open PySem PySem.W PyProof.Rows
def PySem.W.Fast.tw4999061688297468396 := ()
def PySem.W.Fast.tw5741004646648137022 := ()
def PySem.W.Fast.tw692038153526556261 := ()
def PySem.W.Fast.tw6679015327277200597 := ()
def PySem.W.Fast.tw11490495611758083818 := ()
def PySem.W.Fast.tw10952992173730377829 := ()
def PySem.W.Fast.tw5247563805209392338 := ()
def PySem.W.Fast.tw14581450743447364967 := ()
def PySem.W.Fast.tw7803218719377090219 := ()
def PySem.W.Fast.tw4528022103262764392 := ()
def PySem.W.Fast.tw3311715032086761467 := ()
def PySem.W.Fast.tw797207266609385253 := ()
def PySem.W.Fast.tw16236261963036738443 := ()
def PySem.W.Fast.tw15584647548395169576 := ()
def PySem.W.Fast.tw8164310601833123661 := ()
def PySem.W.Fast.tw12445355992054274995 := ()
def PySem.W.Fast.tw8123735566611741241 := ()
def PySem.W.Fast.tw405807796397792501 := ()
def PySem.W.Fast.tw167248388732819366 := ()
def PySem.W.Fast.tw16992061977157711312 := ()
def PySem.W.Fast.tw8427730532448187990 := ()
def PySem.W.Fast.tw8551221025001127378 := ()
def PySem.W.Fast.tw7347532068290686235 := ()
def PySem.W.Fast.tw7537683702567123189 := ()
def PySem.W.Fast.tw10817553575524910083 := ()
def PySem.W.Fast.tw4318891598507507119 := ()
def PySem.W.Fast.tw14794281728639527909 := ()
def PySem.W.Fast.tw8103771644022490751 := ()
def PySem.W.Fast.tw2866573969372936466 := ()
def PySem.W.Fast.tw12355193953682293884 := ()
def PySem.W.Fast.tw14453749599715082807 := ()
def PySem.W.Fast.tw17723648863482540396 := ()
def PySem.W.Fast.tw11137934109258931835 := ()
def PySem.W.Fast.tw5218103112139558187 := ()
def PySem.W.Fast.tw17767200751961297477 := ()
def PySem.W.Fast.tw8568238245588563111 := ()
def PySem.W.Fast.tw7953791366081688183 := ()
def PySem.W.Fast.tw3989680893249320897 := ()
def PySem.W.Fast.tw8388560614917960641 := ()
def PySem.W.Fast.tw13196030898083921387 := ()
def PySem.W.Fast.tw1721057058137745238 := ()
def PySem.W.Fast.tw14289402142213763361 := ()
def PySem.W.Fast.tw10409416149887591971 := ()
def PySem.W.Fast.tw12933399092415243315 := ()
def PySem.W.Fast.tw10969231732864535224 := ()
def PySem.W.Fast.tw3642065140959534443 := ()
def PySem.W.Fast.tw7961566579425785501 := ()
def PySem.W.Fast.tw2107801234347726696 := ()
def PySem.W.Fast.tw16350342766281546458 := ()
def PySem.W.Fast.tw12547610067552035612 := ()
def PySem.W.Fast.tw15502935095165618860 := ()
def PySem.W.Fast.tw7975463037610978611 := ()
def PySem.W.Fast.tw1076456462629169691 := ()
def PySem.W.Fast.tw4941261656861571557 := ()
def PySem.W.Fast.tw14316661068042340971 := ()
def PySem.W.Fast.tw17690777460726684403 := ()
def PySem.W.Fast.tw6880174106329847724 := ()
def PySem.W.Fast.tw4625026211388130844 := ()
def PySem.W.Fast.tw3455010843011753960 := ()
def PySem.W.Fast.tw7035596290994300371 := ()
def PySem.W.Fast.tw12224948288365800977 := ()
def PySem.W.Fast.tw9022676077312596427 := ()
def PySem.W.Fast.tw15596483287178601411 := ()
def PySem.W.Fast.tw17556840429215932928 := ()
def PySem.W.Fast.tw7709587239128205486 := ()
def PySem.W.Fast.tw17797175339239187502 := ()
def PySem.W.Fast.tw11010700299555698822 := ()
def PySem.W.Fast.tw8796342555077184091 := ()
def PySem.W.Fast.tw7004518565932087754 := ()
def PySem.W.Fast.tw235255410987829990 := ()
def PySem.W.Fast.tw237290378785436556 := ()
def PySem.W.Fast.tw14574188607231354342 := ()
def PySem.W.Fast.tw17580546285605046876 := ()
def PySem.W.Fast.tw1183092139661948358 := ()
def PySem.W.Fast.tw17203981645000191606 := ()
def PySem.W.Fast.tw8644355437669803479 := ()
def PySem.W.Fast.tw7772291095350857177 := ()
def PySem.W.Fast.tw3640332171916727932 := ()
def PySem.W.Fast.tw2288508946567809354 := ()
def PySem.W.Fast.tw4510010588444444597 := ()
def PySem.W.Fast.tw2146043302846292155 := ()
def PySem.W.Fast.tw7487416553920852208 := ()
def PySem.W.Fast.tw15405084266862230592 := ()
def PySem.W.Fast.tw10960561564319520166 := ()
def PySem.W.Fast.tw12104685067892235426 := ()
def PySem.W.Fast.tw15103753641650466494 := ()
def PySem.W.Fast.tw14395185271001827282 := ()
def PySem.W.Fast.tw6688470559739518229 := ()
def PySem.W.Fast.tw9570260550755249825 := ()
def PySem.W.Fast.tw5149251615565575370 := ()
def PySem.W.Fast.tw4070199999269014257 := ()
def PySem.W.Fast.tw363845231011105061 := ()
def PySem.W.Fast.tw10506105913295336634 := ()
def PySem.W.Fast.tw5837305082652965586 := ()
def PySem.W.Fast.tw9393637155943274064 := ()
def PySem.W.Fast.tw16358539850915413906 := ()
def PySem.W.Fast.tw9611269451072282752 := ()
def PySem.W.Fast.tw12281085950894402305 := ()
def PySem.W.Fast.tw6441753908706129445 := ()
def PySem.W.Fast.tw1029330900289788169 := ()
def PySem.W.Fast.tw1835681530004249726 := ()
def PySem.W.Fast.tw12314643798430197879 := ()
def PySem.W.Fast.tw8789917693711517008 := ()
set_option maxRecDepth 100000 in
set_option maxHeartbeats 0 in
theorem PySem.Challenge.cw_ringmeet_k29_walks_by_beats_holds : PySem.Challenge.rw_ringmeet_k29_walks_by_beats.Holds := by
 w_on;refine PySem.W.holds_law (by decide+kernel) fun d=>?_;k_head;(case hw=>w_witness2)
 k_fill
 refine Mi.walk_m (l:=PySem.Challenge.rw_ringmeet_k29_walks_by_beats) (m:=Law.m_law) (k:=6) (x:="_law_script") rfl rfl ⟨rfl,by decide,by decide,rfl⟩ (fun w h Y=>PySem.W.kIn_of Y) Law.truth ?F
 case F=>
  intro w mg f h e G b;refine' Law.all_mk e G b ?a1 ?a2 ?a3 ?a4 ?a5 ?a6 ?a7 ?a8 ?a9 ?a10 ?a11 ?a12 ?a13 ?a14 ?a15 ?a16 ?a17 ?a18 ?a19 ?a20 ?a21 ?a22 ?a23 ?a24 ?a25 ?e_PARTS ?h1 ?h2 ?h5 ?h8 ?h11 ?z
  all_goals try (refine' Mi.GU ?a ?l ?c ?k;(case a=>k_is);(case l=>k_is);(case c=>k_is);(case k=>k_is))
  (case e_PARTS=>k_is)
  (case h1=>k_is)
  (case h2=>k_is)
  (case h5=>k_is)
  (case h8=>k_is)
  (case h11=>k_is)
  (case z=>exact ⟨by k_is,by k_is,by k_is,by k_is,by k_is,by k_is,by k_is,by k_is,by k_is,by k_is,by k_is,by k_is,by k_is,trivial⟩)

