import PyProof.Rows.All
import Wide.All
import OpenK.AllK
import Wide.FinOn
import Lean
import PyProof.EqAt
import PyProof.EqKinds
import PyProof.TupleCall
import PySem.Challenge.RW_ringmeet_k37_papers_of_anything
set_option Elab.async false
set_option compiler.extract_closed false
set_option linter.all false
set_option maxRecDepth 100000
set_option maxHeartbeats 4000000
open List renaming getElem?_eq_some_iff → gE1, getElem?_append_left → gL1, getElem?_eq_getElem → gG1, mem_of_getElem? → gM1, getElem?_set_ne → gS1, length_append → lA1, length_map → lM1, getElem?_cons_succ → gC1, mem_cons_of_mem → mC1, mem_cons_self → mS1, getElem?_map → gP1, getElem?_append_right → gR1, size_toArray → sT1, map_cons → mP1, length_cons → lC1, length_replicate → lR1, mem_append_right → mA1
open Option renaming bind_eq_some_iff → oB1, map_eq_some_iff → oM1, bind_some → oS1, map_some → oP1
open Nat renaming le_refl → nR1, lt_of_lt_of_le → nL1, ne_of_lt → nN1, ne_of_gt → nG1
open Bool renaming and_eq_true → bA1, false_eq_true → bF1
open Array renaming getElem?_eq_getElem → aG1, getElem?_toList → aT1
open PySem.W renaming Frag → Fg1, nsIn → wN1, keepIn → wK1, codeIn → wC1, fnOf → wF1, mg_of → wM1
open PySem.Heap renaming get?_push_of_some → hP1, get?_push_size → hS1, lt_size → hL1, size_push → hZ1, get?_update_ne → hU1, get?_update_self → hW1
open PySem renaming wpAny_bind → wB1, wpAny_pure → wP1, wpAny_setField_rec → wS1, wpAny_newObj_type → wO1, codeAny_builtin → wD1, wpAny_call_entry → wE1
open List renaming take_nil → ak, drop_nil → am, mem_filter → ar, mem_range → au, filterMap_cons → aw, mem_cons → ay, mem_append → az, mem_append_left → aA, getElem?_set_self → aB, mem_filterMap → aF, append_nil → aG, nodup_cons → aH, of_mem_zip → aI, replicate → aJ, length_take → aL, getElem?_replicate → aM, getElem?_take_of_lt → aN, filterMap_map → aO, length_drop → aP, length_set → aQ, length_singleton → aS, map_nil → aT, find?_cons → aU, any_cons → aV, length_nil → aW, filter_cons → aX, cons_append → ba, range' → bc, prefix_rfl → bf, reverse_cons → bg, nodup_nil → bh, getElem?_of_mem → bi, map_map → bm, prefix_append → bn, nodup_append → bp, all_eq_true → br, mem_replicate → bu, forIn_cons → bv, lookup_cons → bw, append_assoc → bx, getD_eq_getElem?_getD → bC, zipIdx_cons → bD, not_mem_nil → bE, all_cons → bI, any_eq_true → bK, getElem_mem → bL, zip_cons_cons → bM, cons_prefix_cons → bO, take_length → bP, ext_getElem? → bR, getElem?_eq_none → bS, findIdx?_eq_some_iff_getElem → bV, foldl_cons → bX, contains_cons → bY, take_of_length_le → bZ, length_reverse → b0, pairwise_cons → b4, mem_map → b6, take_append_drop → b8, eraseIdx_eq_take_drop_succ → b9, getElem?_range → ca, mem_singleton → cc, length_range → ci, mem_of_mem_take → cj, mem_of_mem_drop → ck, set_cons_succ → cm, map_append → cx, take_succ → cy, forall_mem_nil → cA, map_congr_left → cB, all_append → cD, mem_zipIdx_iff_getElem? → cF, getElem?_cons_zero → cG, set_cons_zero → cH, nil_append → cI, flatten_cons → cM, length_filter_le → cN, take_succ_cons → cO, filter_append → cP, set_append_right → cQ, getElem?_concat_length → cR, getElem?_zipIdx → cS, range_succ → cU, filter_cons_of_pos → cV, filter_cons_of_neg → cW
open Option renaming some → ao, isSome_iff_exists → aK, isSome_map → aY, getD_some → bW, join_some → cK
open Nat renaming lt_irrefl → aq, le_trans → av, le_succ → aR, lt_trans → aZ, zero_le → a0, add_assoc → bb, le_add_right → bj, not_lt_zero → bo, min_eq_left → bq, lt_succ_self → bt, lt_of_le_of_lt → bA, le_of_succ_le → bB, succ_pos → bG, zero_add → bH, lt_or_ge → bN, lt_succ_of_lt → cf, sub_self → cr, lt_trichotomy → cv, succ_eq_add_one → cC, reduceAdd → cJ, lt_succ_iff_lt_or_eq → cT
open Array renaming length_toList → aC, forIn_toList → bQ, perm_iff_toList_perm → b5, size_map → b7, toArray_toList → cb, getD_eq_getD_getElem? → cq
open Bool renaming false_ne_true → aD, false_and → aE, and_true → bF, eq_iff_iff → bJ, and_false → bT, not_true → bU, not_false → cg, not_eq_true → cu, eq_false_iff → cE, true_and → cX
open PySem renaming Value → cY, Shared → cZ, Addr → c0, Program → c5, Around → c6, World → c7, mainGlobals → c8, starEach → c9, sizeLine → da, wpAny → db, Heap → de, FuncData → df, Stmt → dg, Scope → dh
open Option renaming some → Z, none → Y
open Bool renaming true → M, false → J
theorem Mi.O{α}{a:α}:a=a:=rfl
open Mi (O)
theorem Mi.af{p:Prop}[Decidable p]:(decide p=true)=p:=decide_eq_true_eq
theorem Mi.ae{c:Prop}{h:Decidable c}(a:c){α:Sort _}{t e:α}:ite c t e=t:=if_pos a
theorem Mi.ab{c:Prop}{h:Decidable c}(a:¬c){α:Sort _}{t e:α}:ite c t e=e:=if_neg a
theorem Mi.aa{p:Prop}[Decidable p]:¬p→decide p=false:=decide_eq_false
theorem Mi.Z9{p:Prop}[Decidable p]:p→decide p=true:=decide_eq_true
open List renaming range → Z7
open Mi (af ae ab aa Z9)
noncomputable section
namespace L2
open PySem PySem.Spec PyProof.Rows
abbrev Key:=Sum Int Str
def pz:Key->cY->Bool
 | .inl k,v=>Value.isInt k v
 | .inr x,v=>Value.isStrOf x v
def K0(w:c7):Key->Int
 | .inl k=>hashInt k
 | .inr x=>hashStr w x
theorem eT:∀{k:Key} {v:cY},pz k v=M->(∃i t,k=Sum.inl i/\v=Value.int i t)\/(∃x t,k=Sum.inr x/\v=Value.str x t)
 | .inl i,v,h=>by
  obtain⟨t,e⟩:=Value.isInt_shape (k:=i) (v:=v) h;exact .inl ⟨i,t,O,e⟩
 | .inr x,v,h=>by
  obtain⟨t,e⟩:=Value.isStrOf_shape (x:=x) (v:=v) h;exact .inr ⟨x,t,O,e⟩
theorem xR(i:Int)(t:Tok):pz (.inl i) (.int i t)=M:=by simp[pz,Value.isInt]
theorem xQ(x:Str)(t:Tok):pz (.inr x) (.str x t)=M:=by simp[pz,Value.isStrOf]
theorem GX(a b:Int):decide ((Sum.inl a:Key)=Sum.inl b)=(a == b):=by
 by_cases e:a=b
 ·subst e;simp
 ·have h:¬ (Sum.inl a:Key)=Sum.inl b:=λq=>e (Sum.inl.inj q);rw[aa h];exact(beq_eq_false_iff_ne.mpr e).symm
theorem GU(a b:Str):decide ((Sum.inr a:Key)=Sum.inr b)=decide (a=b):=by
 by_cases e:a=b
 ·subst e;simp
 ·have h:¬ (Sum.inr a:Key)=Sum.inr b:=λq=>e (Sum.inr.inj q);rw[aa h,aa e]
theorem GW(a:Int)(b:Str):decide ((Sum.inl a:Key)=Sum.inr b)=J:=aa (λq=>nomatch q)
theorem GV(a:Str)(b:Int):decide ((Sum.inr a:Key)=Sum.inl b)=J:=aa (λq=>nomatch q)
def eZ(prog:c5)(w:c7):PySem.KeyKind prog w Key where
 is:=pz
 hash:=K0 w
 inj:=λv a b ha hb=>by
  rcases eT ha with⟨i,t,rfl,rfl⟩|⟨x,t,rfl,rfl⟩
  ·rcases eT hb with⟨j,u,rfl,e⟩|⟨y,u,rfl,e⟩
   ·injection e with e1 _;rw[e1]
   ·exact nomatch e
  ·rcases eT hb with⟨j,u,rfl,e⟩|⟨y,u,rfl,e⟩
   ·exact nomatch e
   ·injection e with e1 _;rw[e1]
 byValue:=λk v h=>by
  rcases eT h with⟨i,t,rfl,rfl⟩|⟨x,t,rfl,rfl⟩<;>rfl
 pyHash:=λhv h=>by
  rcases eT hv with⟨i,t,rfl,rfl⟩|⟨x,t,rfl,rfl⟩
  ·exact wpAny_pyHash_int h
  ·exact wpAny_pyHash_str h
 eqBool:=λhu hv h=>by
  rcases eT hu with⟨i,t,rfl,rfl⟩|⟨x,t,rfl,rfl⟩
  ·rcases eT hv with⟨j,u,rfl,rfl⟩|⟨y,u,rfl,rfl⟩
   ·rw[GX]at h;exact wpAny_eqBool_int h
   ·rw[GW]at h;exact SeqAt.EqAt.int_str i t y u _ _ _ _ h
  ·rcases eT hv with⟨j,u,rfl,rfl⟩|⟨y,u,rfl,rfl⟩
   ·rw[GV]at h;exact SeqAt.EqAt.str_int x t j u _ _ _ _ h
   ·rw[GU]at h;exact wpAny_eqBool_str h
 «strs» :=λk x t v h=>by
  rcases eT h with⟨i,u,rfl,e⟩|⟨y,u,rfl,e⟩
  ·exact nomatch e
  ·injection e with e1 _;subst e1;cases v<;>rfl
theorem tz(prog:c5)(w:c7)(i:Int)(t:Tok):(eZ prog w).is (.inl i) (.int i t)=M:=xR i t
theorem tw(prog:c5)(w:c7)(x:Str)(t:Tok):(eZ prog w).is (.inr x) (.str x t)=M:=xQ x t
end L2
namespace L2
open PySem PySem.Spec PyProof.Rows
inductive V where
 |non|bl (b:Bool)|int (i:Int)|str (x:Str)|byt (b:Array UInt8)|flt (b:UInt64)|ref (a:c0)|ty (n:String)
 deriving DecidableEq
def dG:V->cY->Prop
 | .non,u=>u=Value.none
 | .bl b,u=>u=Value.bool b
 | .int i,u=>∃t,u=Value.int i t
 | .str x,u=>∃t,u=Value.str x t
 | .byt b,u=>∃t,u=Value.bytes b t
 | .flt b,u=>∃t,u=Value.float b t
 | .ref a,u=>u=Value.ref a
 | .ty n,u=>u=Value.type n
abbrev dR:List V->List cY->Prop:=Paired dG
theorem dR.length{xs:List V}{a:List cY}(r:dR xs a):xs.length=a.length:=Paired.length r
theorem dR.get:∀{xs:List V} {a:List cY} {i:Nat} {x:V},dR xs a->xs[i]?=Z x -> ∃u,a[i]?=Z u/\dG x u:=by
 intro xs a i x h e
 induction h generalizing i with
 |nil=>cases e
 |cons r t ih=>cases i with
  |zero=>cases e;exact⟨_,O,r⟩
  |succ i=>exact ih (i:=i) e
theorem dR.set{x:V}{u:cY}(r:dG x u):∀{xs:List V} {a:List cY} (i:Nat),dR xs a->dR (xs.set i x) (a.set i u):=by
 intro xs a i h
 induction h generalizing i with
 |nil=>exact .nil
 |cons q t ih=>cases i with
  |zero=>exact .cons r t
  |succ i=>exact .cons q (ih i)
theorem dR.append:∀{xs ys:List V} {a ws:List cY},dR xs a->dR ys ws->dR (xs++ys) (a++ws):=by
 intro xs ys a ws h s
 induction h with
 |nil=>exact s
 |cons r t ih=>exact .cons r ih
theorem dR.take:∀{xs:List V} {a:List cY} (n:Nat),dR xs a->dR (xs.take n) (a.take n):=by
 intro xs a n h
 induction h generalizing n with
 |nil=>rw[ak,ak];exact .nil
 |cons r t ih=>cases n with
  |zero=>exact .nil
  |succ n=>exact .cons r (ih n)
theorem dR.drop:∀{xs:List V} {a:List cY} (n:Nat),dR xs a->dR (xs.drop n) (a.drop n):=by
 intro xs a n h
 induction h generalizing n with
 |nil=>rw[am,am];exact .nil
 |cons r t ih=>cases n with
  |zero=>exact .cons r t
  |succ n=>exact ih n
def kC:Option V->Option cY->Prop
 |some v,Z u=>dG v u
 |none,Y=>True
 |_,_=>False
def KV{κ:Type}:List (κ×V)->List (κ×cY)->Prop:=Paired λ(p:κ×V) (q:κ×cY)=>p.1=q.1/\dG p.2 q.2
def kV:Key->V
 | .inl i=>.int i
 | .inr x=>.str x
inductive HO where
 /-- a list -/
 |lst (xs:List V)
 /-- a tuple (never changes) -/
 |tup (xs:List V)
 /-- a dict whose keys are ints and texts; one whose keys are tuples of ints and texts (the empty one is both) -/
 |dK (kvs:List (Key×V))|dT (kvs:List (List Key×V))
 /-- a set of ints: its members, its size -/
 |set (S:Int->Bool) (n:Nat)
 /-- an instance of the class at C, its dict at dx, its attributes -/
 |ins (C dx:c0) (fs:List (Str×V))
 /-- the dict of the instance at x -/
 |own (x:c0)
 /-- the dict of an exception -/
 |xd (fs:List (Str×V))
 /-- a bound method, f of x -/
 |met (f x:c0)
 /-- a range object lo, lo + 1, .. below hi -/
 |rng (lo hi:Int)
 /-- a thing that is known to the object (the script; a dict while a loop walks it): read, never written while it is so -/
 |frz (o:Obj) (u:HO)
 /-- a code object's table -/
 |tbl (ps:Array cY)
 /-- any other thing, by what is true of its one object (a def of one's own: SetO a S n := HO.ext λh => ..) -/
 |ext (φ:de->Prop)
abbrev Hp:=c0->Option HO
def upd(H:Hp)(a:c0)(o:HO):Hp:=λb=>if b=a then Z o else H b
theorem dQ{H:Hp}{a:c0}{o:HO}:upd H a o a=Z o:=by unfold upd;rw[ae O]
theorem dM{H:Hp}{a b:c0}{o:HO}(h:b≠a):upd H a o b=H b:=by unfold upd;rw[ab h]
theorem IU{H:Hp}{a b:c0}{o u:HO}(h:H a=Z o)(h':H b=Z u)(d:o≠u):a≠b:=by
 intro e;subst e;rw[h]at h';exact d (Option.some.inj h')
theorem dZ{H:Hp}{a b:c0}{o:HO}(h:H a=Z o)(h':H b=Y):a≠b:=by
 intro e;subst e;rw[h]at h';cases h'
section
variable(P:c5) (w:c7)
def eA(H:Hp)(h:de)(a:c0):HO->Prop
 | .lst xs=>xs.length<=da /\ ∃(its:List cY) (n:Nat),dR xs its/\h.get? a=Z {cls:=.type "list",data:=.seq its.toArray n}
 | .tup xs=>xs.length<=da /\ ∃its:List cY,dR xs its/\IsTup h a its.toArray
 | .dK kvs=>kvs.length<=da/\(a == sysModules)=J /\ ∃vs,KV kvs vs/\h.DictOf (eZ P w) a vs
 | .dT kvs=>kvs.length<=da/\(a == sysModules)=false /\ ∃ xs:List (List Key×c0×cY),
   Paired (λ(p:List Key×V) (q:List Key×c0×cY)=>p.1=q.1/\H q.2.1=Z (.tup (p.1.map kV))/\dG p.2 q.2.2) kvs xs /\
   ∃o es ep,h.get? a=Z o/\o.ExactDict/\o.data = .dict es ep/\es.toList=xs.map (entryOfKey (tupleKind (eZ P w)))/\(xs.map (·.1)).Nodup
 | .set S n=>h.SetOf (intKind P w) a S n
 | .ins C dx fs=>H dx=some (.own a)/\fs.length<=1000/\dx≠a/\h.get? a=some (PySem.W.instObj C dx) /\
   ∃mA,h.Ns1 dx mA/\(∀f,kC (fs.lookup f) (mA f))/\PySem.Within mA (fs.map (·.1))
 | .own _=>∃o,h.get? a=Z o
 | .xd fs=>∃mA,h.Ns1 a mA /\ ∀f,kC (fs.lookup f) (mA f)
 | .rng lo hi=>∃t u v,h.get? a=Z {cls:=.type "range",data:=.fields #[.int lo t,.int hi u,.int 1 v]}
 | .frz o u=>h.get? a=Z o/\eA H h a u
 | .tbl ps=>h.get? a=Z {cls:=.none,data:=.fields ps}
 | .met f x=>h.get? a=Z (PySem.W.methodObj (.ref f) (.ref x))
 | .ext φ=>φ h/\(∃o,h.get? a=Z o) /\ ∀h1 h2:de,φ h1->(∀o,h1.get? a=Z o->h2.get? a=Z o)->φ h2
def kE(H:Hp)(h:de):Prop:=∀a o,H a=Z o->eA P w H h a o
end
section
variable{P:c5}{w:c7}{H H':Hp}{h h':de}{a:c0}{o:HO}
theorem eA.lt(x:eA P w H h a o):a<h.objs.size:=by
 cases o with
 |lst xs=>obtain⟨_,_,_,_,e⟩:=x;exact hL1 e
 |tup xs=>obtain⟨_,_,_,p⟩:=x;exact p.lt
 |dK kvs=>obtain⟨_,_,_,_,o,_,_,e,_⟩:=x;exact hL1 e
 |dT kvs=>obtain⟨_,_,_,_,o,_,_,e,_⟩:=x;exact hL1 e
 |set S n=>obtain⟨o,_,_,_,e,_⟩:=x;exact hL1 e
 |ins C dx fs=>obtain⟨_,_,_,e,_⟩:=x;exact hL1 e
 |own y=>obtain⟨_,e⟩:=x;exact hL1 e
 |xd fs=>obtain⟨_,⟨_,_,_,e,_⟩,_⟩:=x;exact hL1 e
 |rng lo hi=>obtain⟨_,_,_,e⟩:=x;exact hL1 e
 |frz b u=>obtain⟨e,_⟩:=x;exact hL1 e
 |tbl ps=>exact hL1 (show h.get? a=Z _ from x)
 |met f y=>exact hL1 (show h.get? a=Z _ from x)
 |ext φ=>obtain⟨_,⟨_,e⟩,_⟩:=x;exact hL1 e
theorem Paired.mapP{α β:Type}{F G:α->β->Prop}:∀{l₁:List α} {l₂:List β},Paired F l₁ l₂->(∀a b,F a b->G a b)->Paired G l₁ l₂:=by
 intro a b h f
 induction h with
 |nil=>exact .nil
 |cons r t ih=>exact .cons (f _ _ r) ih
theorem eA.stay(x:eA P w H h a o)(k:∀ b u,(b=a\/H b=Z (.own a))->h.get? b=Z u->h'.get? b=Z u)(ho:∀b,H b=Z (.own a)->H' b=Z (.own a))(ht:∀b xs,H b=Z (.tup xs)->H' b=Z (.tup xs)):eA P w H' h' a o:=by
 induction o with
 |lst xs=>obtain⟨z,i,n,r,e⟩:=x;exact⟨z,i,n,r,k _ _ (.inl O) e⟩
 |tup xs=>obtain⟨z,i,r,g,e,c⟩:=x;exact⟨z,i,r,g,k _ _ (.inl O) e,c⟩
 |dK kvs=>obtain⟨z,y,vs,r,g,es,ep,e,c⟩:=x;exact⟨z,y,vs,r,g,es,ep,k _ _ (.inl O) e,c⟩
 |dT kvs=>
  obtain⟨z,y,xs,r,g,es,ep,e,c⟩:=x;exact⟨z,y,xs,Paired.mapP r λp q z=>⟨z.1,ht _ _ z.2.1,z.2.2⟩,g,es,ep,k _ _ (.inl O) e,c⟩
 |set S n=>obtain⟨g,es,ep,t,e,c⟩:=x;exact⟨g,es,ep,t,k _ _ (.inl O) e,c⟩
 |ins C dx fs=>
  obtain⟨d,z,ne,e,mA,⟨j,es,ep,l,c⟩,r⟩:=x;exact⟨ho _ d,z,ne,k _ _ (.inl O) e,mA,⟨j,es,ep,k _ _ (.inr d) l,c⟩,r⟩
 |own y=>obtain⟨g,e⟩:=x;exact⟨g,k _ _ (.inl O) e⟩
 |xd fs=>obtain⟨mA,⟨j,es,ep,e,c⟩,r⟩:=x;exact⟨mA,⟨j,es,ep,k _ _ (.inl O) e,c⟩,r⟩
 |rng lo hi=>obtain⟨t,u,v,e⟩:=x;exact⟨t,u,v,k _ _ (.inl O) e⟩
 |frz g u ih=>obtain⟨e,q⟩:=x;exact⟨k _ _ (.inl O) e,ih q⟩
 |tbl ps=>
  have e:h.get? a=Z {cls:=.none,data:=.fields ps}:=x;show h'.get? a=Z {cls:=.none,data:=.fields ps};exact k a _ (.inl O) e
 |met f y=>
  have e:h.get? a=Z (PySem.W.methodObj (.ref f) (.ref y)):=x;show h'.get? a=Z (PySem.W.methodObj (.ref f) (.ref y));exact k a _ (.inl O) e
 |ext φ=>obtain⟨p,⟨o,e⟩,st⟩:=x;exact⟨st _ _ p λo q=>k _ _ (.inl O) q,⟨o,k _ _ (.inl O) e⟩,st⟩
theorem kE.lt(x:kE P w H h)(e:H a=Z o):a<h.objs.size:=(x a o e).lt
theorem kE.fresh(x:kE P w H h)(e:h.objs.size<=a):H a=Y:=by
 cases q:H a with
 |none=>rfl
 |some u=>exact absurd (nL1 (x.lt q) e) (aq _)
theorem kE.kept(x:kE P w H h)(k:∀b u,h.get? b=Z u->h'.get? b=Z u):kE P w H h':=λa o e=>
 (x a o e).stay (λb u _ q=>k b u q) (λ_ q=>q) λ_ _ q=>q
theorem kE.laid(x:kE P w H h)(k:∀b u,h.get? b=Z u->h'.get? b=Z u)(hp:h.objs.size<=a)(new:eA P w (upd H a o) h' a o):kE P w (upd H a o) h':=λb u e=>by
 have f:=x.fresh hp;by_cases d:b=a
 ·subst d;rw[dQ]at e;cases e;exact new
 ·rw[dM d]at e;exact(x b u e).stay (λc v _ q=>k c v q) (λc q=>by rw[dM (dZ q f)];exact q) λc xs q=>by rw[dM (dZ q f)];exact q
end
def Rd(H:Hp)(a:c0)(u:HO):Prop:=H a=Z u \/ ∃o,H a=Z (.frz o u)
theorem Rd.of{H:Hp}{a:c0}{u:HO}(h:H a=Z u):Rd H a u:=.inl h
theorem Rd.ok{P:c5}{w:c7}{H:Hp}{h:de}{a:c0}{u:HO}(r:Rd H a u)(x:kE P w H h):eA P w H h a u:=by
 rcases r with r|⟨o,r⟩
 ·exact x a u r
 ·obtain⟨_,q⟩:=x a _ r;exact q
def HH:Option HO->Prop
 |some (.lst _)=>True
 |some (.dK _)=>True
 |some (.dT _)=>True
 |some (.set _ _)=>True
 |some (.ins _ _ _)=>True
 |some (.ext _)=>True
 |_=>False
section
variable{P:c5}{w:c7}{H:Hp}{h h':de}{x e:c0}{o':HO}
theorem kE.write(ok:kE P w H h)(mu:HH (H x))(he:e=x\/H e=Z (.own x))(k:∀ b u,b≠e->h.get? b=Z u->h'.get? b=Z u)(i:∃ u,h'.get? e=Z u)(new:eA P w (upd H x o') h' x o'):kE P w (upd H x o') h':=λb u q=>by
 have d:∀c y,H c=Z (.own y)->c≠x:=λc y r z=>by subst z;rw[r]at mu;exact mu
 have f:∀c xs,H c=Z (.tup xs)->c≠x:=λc xs r z=>by subst z;rw[r]at mu;exact mu
 by_cases g:b=x
 ·subst g;rw[dQ]at q;cases q;exact new
 ·rw[dM g]at q;by_cases a:b=e
  ·have j:H b=some (.own x):=by
    rcases he with z|z
    ·exact absurd (a.trans z) g
    ·rw[a];exact z
   rw[q]at j;cases j;obtain⟨v,l⟩:=i;exact⟨v,by rw[a];exact l⟩
  ·refine(ok b u q).stay (λc v hc r=>k c v ?_ r) (λc r=>by rw[dM (d c b r)];exact r) λc xs r=>by rw[dM (f c xs r)];exact r
   rcases hc with rfl|hc
   ·exact a
   ·rintro rfl;rcases he with z|z
    ·exact d c b hc z
    ·rw[hc]at z;cases z;exact g O
end
structure Un (fs ex:List c0)(H H':Hp)(h h':de):Prop where
 keep:∀b o,h.get? b=some o->H b=none->b∉fs->b∉ex->h'.get? b=some o
 slot:∀b o,h.get? b=some o->H b=none->b∈fs->b∉ex -> ∃sl,h'.get? b=some {o with slots:=sl}
 free:∀b o,h.get? b=some o->H b=none->b∉ex->H' b=none
 there:∀b o,h.get? b=some o->b∉ex -> ∃o',h'.get? b=some o'
 tups:∀b xs,H b=some (.tup xs)->H' b=some (.tup xs)
 frzs:∀b o u,H b=some (.frz o u)->H' b=some (.frz o u)
 tbls:∀b ps,H b=some (.tbl ps) -> ∃more,H' b=some (.tbl (ps++more))
section
variable{fs fs' ex ex':List c0}{H H1 H2:Hp}{h h1 h2 h':de}{a x e:c0}{o:HO}
theorem Un.any(u:Un fs ex H H1 h h1){b:c0}{a:Obj}(q:h.get? b=Z a)(n:H b=Y)(hx:b∉ex):∃d,h1.get? b=Z {a with slots:=d}:=by
 by_cases c:b∈fs
 ·exact u.slot b a q n c hx
 ·exact⟨a.slots,u.keep b a q n c hx⟩
theorem Un.trans(a:Un fs ex H H1 h h1)(b:Un fs ex H1 H2 h1 h2):Un fs ex H H2 h h2 where
 keep:=λc e q n hc d=>b.keep c e (a.keep c e q n hc d) (a.free c e q n d) hc d
 slot:=λc e q n hc d=>by
  obtain⟨j,f⟩:=a.slot c e q n hc d;obtain⟨i,g⟩:=b.slot c _ f (a.free c e q n d) hc d;exact⟨i,g⟩
 free:=λc e q n d=>by
  obtain⟨o',f⟩:=a.there c e q d;exact b.free c o' f (a.free c e q n d) d
 there:=λc e q d=>by
  obtain⟨o',f⟩:=a.there c e q d;exact b.there c o' f d
 tups:=λc xs q=>b.tups c xs (a.tups c xs q)
 frzs:=λc e xs q=>b.frzs c e xs (a.frzs c e xs q)
 tbls:=λc ps q=>by
  obtain⟨m1,f⟩:=a.tbls c ps q;obtain⟨m2,g⟩:=b.tbls c _ f;exact⟨m1++m2,by rw[g,Array.append_assoc]⟩
theorem Un.kept(k:∀b u,h.get? b=Z u->h'.get? b=Z u):Un fs ex H H h h':=
 ⟨λb a q _ _ _=>k b a q,λb a q _ _ _=>⟨a.slots,k b a q⟩,λ_ _ _ n _=>n,λb a q _=>⟨a,k b a q⟩,λ_ _ q=>q,λ_ _ _ q=>q,λ_ ps q=>⟨#[],by rw[q];simp⟩⟩
theorem Un.refl:Un fs ex H H h h:=Un.kept λ_ _ q=>q
theorem Un.laid(k:∀b u,h.get? b=Z u->h'.get? b=Z u)(hp:h.objs.size<=a)(hn:H a=Y):Un fs ex H (upd H a o) h h' where
 keep:=λb u q _ _ _=>k b u q
 slot:=λb u q _ _ _=>⟨u.slots,k b u q⟩
 free:=λb u q n _=>by rw[dM (nN1 (nL1 (hL1 q) hp))];exact n
 there:=λb u q _=>⟨u,k b u q⟩
 tups:=λb xs q=>by rw[dM (dZ q hn)];exact q
 frzs:=λb u xs q=>by rw[dM (dZ q hn)];exact q
 tbls:=λb ps q=>⟨#[],by rw[dM (dZ q hn),q];simp⟩
theorem Un.write(mu:HH (H x))(he:e=x\/H e=Z (.own x))(k:∀b u,b≠e->h.get? b=Z u->h'.get? b=Z u)(c:∃u,h'.get? e=Z u):Un fs ex H (upd H x o) h h':=by
 have g:∀b,H b=Y->b≠x:=λb n z=>by subst z;rw[n]at mu;exact mu
 have f:∀b,H b=Y->b≠e:=λb n z=>by
  subst z;rcases he with r|r
  ·exact g b n r
  ·rw[n]at r;cases r
 have d:∀b u,H b=Z u -> ¬ HH (Z u)->b≠x:=λb u q nm z=>by subst z;rw[q]at mu;exact nm mu
 refine⟨λb u q n _ _=>k b u (f b n) q,λb u q n _ _=>⟨u.slots,k b u (f b n) q⟩,λb u q n _=>by rw[dM (g b n)];exact n,λb u q _=>?_,
  λb xs q=>by rw[dM (d b _ q λz=>z)];exact q,λb u xs q=>by rw[dM (d b _ q λz=>z)];exact q,λb ps q=>⟨#[],by rw[dM (d b _ q λz=>z),q];simp⟩⟩
 by_cases a:b=e
 ·subst a;exact c
 ·exact⟨u,k b u a q⟩
end
def trk(h:de)(H:Hp):List c0:=(Z7 h.objs.size).filter λa=>(H a).isSome
def rq(h:de)(H:Hp):de:=PySem.W.hideAll h (trk h H)
theorem xW(h:de)(H:Hp):(rq h H).objs.size=h.objs.size:=PySem.W.hideAll_size _ _
theorem AU{h:de}{H:Hp}{b:c0}{o:Obj}(e:h.get? b=Z o)(n:H b=Y):(rq h H).get? b=Z o:=
 PySem.W.hideAll_get _ e λa=>by
  have q:(H b).isSome=M:=(ar.mp a).2;rw[n]at q;simp at q
theorem CP{h:de}{H:Hp}{b:c0}{o:Obj}(e:(rq h H).get? b=Z o):h.get? b=Z o/\H b=Y:=by
 have a:h.get? b=Z o:=PySem.W.of_hideAll (trk h H) e;refine⟨a,?_⟩;cases q:H b with
 |none=>rfl
 |some x=>
  have c:b∈trk h H:=ar.mpr ⟨au.mpr (hL1 a),by simp[q]⟩;have z:(rq h H).get? b=Y:=PySem.W.hideAll_none (trk h H) c;rw[z]at e;cases e
def D4(g h:de)(L:c0):List (c0×Obj):=(Z7 h.objs.size).filterMap λa=>if a=L\/(g.get? a).isSome=M then Y else(h.get? a).map λo=>(a,o)
def rest(g h:de)(L d:c0):List (c0×Obj):=(D4 g h L).filter λp=>decide (p.1≠d)
end L2
namespace L2
open PySem PySem.Spec PyProof.Rows
structure Mod (K:Fg1)(mg:Str->Option cY)(base:de):Prop where
 kin:K.In base
 glob:base.Ns c8 mg
 blt:∃mb,base.Ns builtinsNs mb /\ ∀x:Str,x≠"__name__"->mb x=bootBuiltins x
 nolimit:base.NoLimit
structure Cx where
 prog:c5
 w:c7
 K:Fg1
 mg:Str->Option cY
 base:de
 A:c6
 N:List Str
 s₀:cZ
 H₀:Hp
 env:Env
 outer:List Env
 stack:List Env
 ex:List c0
 fn:Str->Bool
 calm:Bool
 pn:List (c0×Obj)
 xe:cY->cZ->Prop
def frs(l:List Env):List c0:=l.filterMap (·.frame)
abbrev Cx.fs(X:Cx):List c0:=frs X.outer
def D8(sc:dh)(x:Str):Prop:=sc.names.lookup x=Z .local\/sc.names.lookup x=Z .cell\/sc.names.lookup x=Z .free
def yq(sc:dh)(x:Str):Prop:=sc.names.lookup x=Z .local\/sc.names.lookup x=Z .cell
def Ln(env:Env)(h:de)(m:Str->Option cY)(x:Str)(u:cY):Prop:=
 (env.kindOf x=Z .local/\m x=Z u)\/((env.kindOf x=Z .cell\/env.kindOf x=Z .free) /\ ∃c,env.cells.lookup x=Z c/\h.IsCell c (Z u))
structure Cx.Ok (X:Cx):Prop where
 mod:Mod X.K X.mg X.base
 kind:X.env.scope.kind = .function
 glob:X.env.globals=c8
 blt:X.env.builtins=builtinsNs
 above:X.s₀.heap.objs.size<=X.env.locals
 inj:∀x y c,X.env.cells.lookup x=some c->X.env.cells.lookup y=some c->x=y
 has:∀x,(X.env.kindOf x=some .cell\/X.env.kindOf x=some .free) -> ∃c,X.env.cells.lookup x=some c
 cab:∀x c,X.fn x=true->X.env.cells.lookup x=some c->X.s₀.heap.objs.size<=c
 hd:X.calm=true->X.A.handled=none
 frames:X.A.frames=some X.stack
 stk:X.stack=X.outer\/(X.stack=X.env::X.outer/\X.env.frame=some X.env.locals)
 exf:∀b∈X.ex,b≠X.env.locals /\ ∀x c,X.env.cells.lookup x=some c->c≠b
 bs:∀b o,X.base.get? b=some o->X.s₀.heap.get? b=some o/\X.H₀ b=none
 bsz:X.base.objs.size<=X.s₀.heap.objs.size
 noex:∀b o,X.base.get? b=some o->b∉X.ex
 exfs:∀b∈X.ex,b∉X.fs
 funs:X.s₀.heap.FunFrames X.base X.outer
 frf:∀b∈X.fs,X.H₀ b=none
structure Inv (X:Cx)(Z8:List (c0×Obj))(σ:List (Option V))(H:Hp)(s:cZ):Prop where
 ok:X.Ok
 os:s.os=X.s₀.os
 bare:AllBare s.gens
 base:Un X.fs X.ex X.H₀ H X.s₀.heap s.heap
 loc:∃m,s.heap.Ns X.env.locals m /\ ∀(i:Nat) (x:Str) (v:V),X.N[i]?=some x->σ[i]?=some (some v)->D8 X.env.scope x -> ∃u,dG v u/\Ln X.env s.heap m x u
 cell:∀x c,X.env.cells.lookup x=some c -> ∃v,s.heap.IsCell c v
 free:H X.env.locals=none
 freeC:∀x c,X.env.cells.lookup x=some c->H c=none
 pin:∀p∈X.pn++Z8,s.heap.get? p.1=some p.2/\H p.1=none/\p.1≠X.env.locals/\p.1∉X.fs /\ ∀v,p.2.data ≠ .cell v
 hok:kE X.prog X.w H s.heap
 len:σ.length=X.N.length
section
variable{X:Cx}{Z8:List (c0×Obj)}{σ:List (Option V)}{H H':Hp}{s:cZ}{h':de}
theorem Cx.Ok.nofr(ok:X.Ok){b:c0}{o:Obj}(e:X.base.get? b=Z o):b∉X.fs:=λa=>by
 have:=(ok.funs.mem a).1;rw[e]at this;cases this
theorem Inv.bs(I:Inv X Z8 σ H s):∀b o,X.base.get? b=Z o->s.heap.get? b=Z o/\H b=Y:=λb o e=>
 ⟨I.base.keep b o (I.ok.bs b o e).1 (I.ok.bs b o e).2 (I.ok.nofr e) (I.ok.noex b o e),I.base.free b o (I.ok.bs b o e).1 (I.ok.bs b o e).2 (I.ok.noex b o e)⟩
theorem Inv.bk(I:Inv X Z8 σ H s):∀b o,X.base.get? b=Z o->s.heap.get? b=Z o:=λb o e=>(I.bs b o e).1
theorem Inv.mod(I:Inv X Z8 σ H s):Mod X.K X.mg X.base:=I.ok.mod
theorem Inv.kIn(I:Inv X Z8 σ H s):X.K.In s.heap:=I.ok.mod.kin.keeps I.bk
theorem Inv.lt(I:Inv X Z8 σ H s):X.env.locals<s.heap.objs.size:=let ⟨_,hn,_⟩:=I.loc;hn.lt
theorem Inv.sz(I:Inv X Z8 σ H s):X.s₀.heap.objs.size<=s.heap.objs.size:=av I.ok.above (Nat.le_of_lt I.lt)
theorem Inv.nofs(I:Inv X Z8 σ H s){a:c0}(h:s.heap.objs.size<=a):a∉X.fs:=λb=>by
 obtain⟨_,o,c,_⟩:=I.ok.funs.mem b;exact absurd (nL1 (hL1 c) (av I.sz h)) (aq _)
theorem Inv.cne(I:Inv X Z8 σ H s):∀x c,X.env.cells.lookup x=Z c->c≠X.env.locals:=λx c e z=>by
 obtain⟨v,o,f,d⟩:=I.cell x c e;obtain⟨m,⟨o',es,ep,b,a,_⟩,_⟩:=I.loc;rw[z,b]at f;cases f;rw[a]at d;cases d
theorem Inv.funs(I:Inv X Z8 σ H s):s.heap.FunFrames X.base X.outer:=by
 have all:∀(l:List Env),(∀b∈frs l,b∈X.fs)->X.s₀.heap.FunFrames X.base l->s.heap.FunFrames X.base l:=by
  intro l
  induction l with
  |nil=>intro _ _;trivial
  |cons h r ih=>
   intro f k;obtain⟨j,⟨L,o,d,m,i,g⟩,n⟩:=k;have a:L∈X.fs:=f L (by unfold frs;rw[aw,d];exact mS1);obtain⟨p,e⟩:=I.base.slot L o i (I.ok.frf L a) a λz=>I.ok.exfs L z a;exact⟨j,⟨L,_,d,m,e,g⟩,ih (λb c=>f b (by unfold frs;rw[aw,d];exact mC1 _ c)) n⟩
 exact all X.outer (λ_ c=>c) I.ok.funs
theorem Inv.stack(I:Inv X Z8 σ H s):s.heap.FunFrames X.base X.stack:=by
 rcases I.ok.stk with e|⟨e,a⟩
 ·rw[e];exact I.funs
 ·rw[e];obtain⟨m,b,_⟩:=I.loc;refine .cons (by rw[I.ok.kind];decide) a b ?_ I.funs;exact Heap.get?_none_of_le (av I.ok.bsz I.ok.above)
theorem Inv.stkSub(I:Inv X Z8 σ H s):∀b∈frs X.stack,b∈X.env.locals::X.fs:=λb a=>by
 rcases I.ok.stk with e|⟨e,c⟩
 ·rw[e]at a;exact mC1 _ a
 ·rw[e]at a;unfold frs at a;rw[aw,c]at a;exact a
theorem Inv.stkFree(I:Inv X Z8 σ H s):∀b∈frs X.stack,H b=Y:=λb a=>by
 rcases ay.mp (I.stkSub b a)with e|a
 ·rw[e];exact I.free
 ·obtain⟨_,o,c,_⟩:=I.ok.funs.mem a;exact I.base.free b o c (I.ok.frf b a) λz=>I.ok.exfs b z a
theorem Inv.step{g':Array GenState}{t':Nat}{d':Drawn}{ch:List c0}(I:Inv X Z8 σ H s)(g:∀b∈ch,(b∈X.ex\/X.s₀.heap.objs.size<=b)/\b≠X.env.locals/\(∀x c,X.env.cells.lookup x=some c->c≠b) /\ ∀p∈X.pn++Z8,p.1≠b)(keep:∀b o,b≠X.env.locals->b∉X.fs->b∉ch->s.heap.get? b=some o->H b=none->h'.get? b=some o)(slot:∀b o,b≠X.env.locals->b∈X.fs->b∉ch->s.heap.get? b=some o->H b=none -> ∃K,h'.get? b=some {o with slots:=K})(free:∀b o,b∉ch->s.heap.get? b=some o->H b=none->H' b=none)(y:∀b o,b∉ch->s.heap.get? b=some o -> ∃o',h'.get? b=some o')(E:∀b xs,H b=some (.tup xs)->H' b=some (.tup xs))(F:∀b o u,H b=some (.frz o u)->H' b=some (.frz o u))(D:∀b ps,H b=some (.tbl ps) -> ∃more,H' b=some (.tbl (ps++more)))(ns:∀m,s.heap.Ns X.env.locals m->h'.Ns X.env.locals m)(G:kE X.prog X.w H' h')(hg:AllBare g'):
  Inv X Z8 σ H' {s with heap:=h',gens:=g',drawn:=d',toks:=t'}:=by
 have B:∀b o,X.s₀.heap.get? b=Z o->b≠X.env.locals:=λb o e=>nN1 (nL1 (hL1 e) I.ok.above);have t:∀b o,X.s₀.heap.get? b=Z o->b∉X.ex->b∉ch:=λb o e a w=>by
  rcases(g b w).1 with z|z
  ·exact a z
  ·exact absurd (nL1 (hL1 e) z) (aq _)
 have h:∀x c,X.env.cells.lookup x=Z c -> ∀v,s.heap.IsCell c v->h'.IsCell c v:=λx c e v ⟨o,A,ag⟩=>by
  have f:c∉ch:=λz=>(g c z).2.2.1 x c e O;by_cases hc:c∈X.fs
  ·obtain⟨K,q⟩:=slot c o (I.cne x c e) hc f A (I.freeC x c e);exact⟨_,q,ag⟩
  ·exact⟨o,keep c o (I.cne x c e) hc f A (I.freeC x c e),ag⟩
 refine⟨I.ok,I.os,hg,⟨λb o e n w a=>?_,λb o e n w a=>?_,λb o e n a=>?_,λb o e a=>?_,λb xs e=>E b xs (I.base.tups b xs e),λb o xs e=>F b o xs (I.base.frzs b o xs e),λb ps e=>?_⟩,?_,λx c e=>?_,?_,λx c e=>?_,λp N=>?_,G,I.len⟩
 ·exact keep b o (B b o e) w (t b o e a) (I.base.keep b o e n w a) (I.base.free b o e n a)
 ·obtain⟨K,j⟩:=I.base.slot b o e n w a;obtain⟨L,C⟩:=slot b _ (B b o e) w (t b o e a) j (I.base.free b o e n a);exact⟨L,C⟩
 ·obtain⟨o',j⟩:=I.base.there b o e a;exact free b o' (t b o e a) j (I.base.free b o e n a)
 ·obtain⟨o',j⟩:=I.base.there b o e a;exact y b o' (t b o e a) j
 ·obtain⟨m1,j⟩:=I.base.tbls b ps e;obtain⟨m2,C⟩:=D b _ j;exact⟨m1++m2,by rw[C,Array.append_assoc]⟩
 ·obtain⟨m,aj,Q⟩:=I.loc;refine⟨m,ns m aj,λi x v j C P=>?_⟩;obtain⟨u,r,l⟩:=Q i x v j C P;refine⟨u,r,?_⟩;rcases l with l|⟨k,c,e,z⟩
  ·exact .inl l
  ·exact .inr ⟨k,c,e,h x c e _ z⟩
 ·obtain⟨v,z⟩:=I.cell x c e;exact⟨v,h x c e v z⟩
 ·obtain⟨m,⟨o,_,_,A,_⟩,_⟩:=I.loc;exact free _ o (λz=>(g _ z).2.1 O) A I.free
 ·obtain⟨v,o,A,ag⟩:=I.cell x c e;exact free c o (λz=>(g c z).2.2.1 x c e O) A (I.freeC x c e)
 ·obtain⟨e,n,ne,ah,d⟩:=I.pin p N;have f:p.1∉ch:=λz=>(g p.1 z).2.2.2 p N O;exact⟨keep p.1 p.2 ne ah f e n,free p.1 p.2 f e n,ne,ah,d⟩
theorem Inv.un{t':Nat}(I:Inv X Z8 σ H s)(u:Un X.fs [] H H' s.heap h')(f:kE X.prog X.w H' h'):Inv X Z8 σ H' {s with heap:=h',toks:=t'}:=by
 obtain⟨m,⟨o,es,ep,h,r⟩,_⟩:=id I.loc;obtain⟨p,i⟩:=u.any h I.free (by simp);exact I.step (g':=s.gens) (d':=s.drawn) (ch:=[]) (λ_ z=>nomatch z) (λb o _ d _ e n=>u.keep b o e n d (by simp)) (λb o _ d _ e n=>u.slot b o e n d (by simp)) (λb o _ e n=>u.free b o e n (by simp)) (λb o _ e=>u.there b o e (by simp)) u.tups u.frzs u.tbls (λl k=>by
  obtain⟨o',g,c,a,j⟩:=k;rw[h]at a;cases a;exact⟨_,g,c,i,j⟩) f I.bare
theorem Inv.call{g':Array GenState}{t':Nat}{d':Drawn}{ch:List c0}(I:Inv X Z8 σ H s)(u:Un (frs X.stack) ch H H' s.heap h')(h:kE X.prog X.w H' h')(hg:AllBare g')(d:∀b∈ch,(b∈X.ex\/X.s₀.heap.objs.size<=b)/\b≠X.env.locals/\(∀x c,X.env.cells.lookup x=some c->c≠b) /\ ∀p∈X.pn++Z8,p.1≠b):
  Inv X Z8 σ H' {s with heap:=h',gens:=g',drawn:=d',toks:=t'}:=by
 obtain⟨m,⟨o,es,ep,j,r⟩,_⟩:=id I.loc;obtain⟨v,f⟩:=u.any j I.free λz=>(d _ z).2.1 O;exact I.step (ch:=ch) d (λb o f k hc e n=>u.keep b o e n (λz=>(ay.mp (I.stkSub b z)).elim f k) hc) (λb o _ _ hc e n=>u.any e n hc) (λb o hc e n=>u.free b o e n hc) (λb o hc e=>u.there b o e hc) u.tups u.frzs u.tbls (λt q=>by
  obtain⟨o',i,g,a,l⟩:=q;rw[j]at a;cases a;exact⟨_,i,g,f,l⟩) h hg
theorem Inv.turned{t':Nat}{it:c0}(I:Inv X Z8 σ H s)(k:∀ b o,b≠it->s.heap.get? b=Z o->h'.get? b=Z o)(hn:H it=Y)(d:it≠X.env.locals)(h1:it∈X.ex\/X.s₀.heap.objs.size<=it)(h2:∀x c,X.env.cells.lookup x=Z c->c≠it)(g:∀p∈X.pn++Z8,p.1≠it):Inv X Z8 σ H {s with heap:=h',toks:=t'}:=by
 have a:∀b u,H b=Z u->b≠it:=λb u e z=>by rw[z,hn]at e;cases e
 refine I.step (g':=s.gens) (d':=s.drawn) (ch:=[it]) (λb h=>?_) (λb o _ _ hc e _=>k b o (λz=>hc (by simp[z])) e) (λb o _ _ hc e _=>⟨o.slots,k b o (λz=>hc (by simp[z])) e⟩) (λ_ _ _ _ n=>n)
  (λb o hc e=>⟨o,k b o (λz=>hc (by simp[z])) e⟩) (λ_ _ e=>e) (λ_ _ _ e=>e) (λb ps e=>⟨#[],by rw[e];simp⟩) (λm i=>?_) (λb u e=>?_) I.bare
 ·have e:b=it:=by simpa using h
  subst e;exact⟨h1,d,h2,g⟩
 ·obtain⟨o,es,ep,f,r⟩:=i;exact⟨o,es,ep,k _ o (Ne.symm d) f,r⟩
 ·refine(I.hok b u e).stay (λc v hc q=>k c v ?_ q) (λ_ q=>q) λ_ _ q=>q;rcases hc with z|z
  ·rw[z];exact a b u e
  ·exact a c _ z
theorem Inv.tok(I:Inv X Z8 σ H s)(t:Nat):Inv X Z8 σ H {s with toks:=t}:=I.un (h':=s.heap) (t':=t) Un.refl I.hok
theorem Inv.kept{t':Nat}(I:Inv X Z8 σ H s)(k:∀b u,s.heap.get? b=Z u->h'.get? b=Z u):Inv X Z8 σ H {s with heap:=h',toks:=t'}:=I.un (Un.kept k) (I.hok.kept k)
theorem Inv.laid{a:c0}{o:HO}{t':Nat}(I:Inv X Z8 σ H s)(k:∀ b u,s.heap.get? b=some u->h'.get? b=some u)(hp:s.heap.objs.size<=a)(new:eA X.prog X.w (upd H a o) h' a o):
  Inv X Z8 σ (upd H a o) {s with heap:=h',toks:=t'}:=I.un (Un.laid k hp (I.hok.fresh hp)) (I.hok.laid k hp new)
theorem Inv.write{x e:c0}{o:HO}{t':Nat}(I:Inv X Z8 σ H s)(mu:HH (H x))(he:e=x\/H e=Z (.own x))(k:∀ b u,b≠e->s.heap.get? b=Z u->h'.get? b=Z u)(a:∃ u,h'.get? e=Z u)(new:eA X.prog X.w (upd H x o) h' x o):Inv X Z8 σ (upd H x o) {s with heap:=h',toks:=t'}:=I.un (Un.write mu he k a) (I.hok.write mu he k a new)
theorem Inv.pins_of{a:List (c0×Obj)}(I:Inv X Z8 σ H s)(h:∀p∈a,s.heap.get? p.1=Z p.2/\H p.1=Y/\p.1≠X.env.locals/\p.1∉X.fs /\ ∀v,p.2.data ≠ .cell v):Inv X a σ H s:=
 ⟨I.ok,I.os,I.bare,I.base,I.loc,I.cell,I.free,I.freeC,λp b=>(az.mp b).elim (λz=>I.pin p (aA _ z)) (h p),I.hok,I.len⟩
theorem tj{N:List Str}(hN:N.Nodup){i j:Nat}{x:Str}(a:N[i]?=Z x)(b:N[j]?=Z x):i=j:=by
 obtain⟨h1,d⟩:=gE1.mp a;obtain⟨h2,c⟩:=gE1.mp b;exact(List.getElem_inj hN).mp (d.trans c.symm)
theorem xl{ah:Model}{A:c6}{E:cY->cZ->Prop}{i:Nat}{x:Str}{v:V}{u:cY}{Q:Unit->cZ->Prop}(I:Inv X Z8 σ H s)(hN:X.N.Nodup)(hi:X.N[i]? = Z x)(hx:yq X.env.scope x)(r:dG v u)(h:∀s',Inv X Z8 (σ.set i (Z v)) H s'->(∃a,Heap.SameBut a s.heap s'.heap/\(a=X.env.locals\/X.env.cells.lookup x=Z a))->Q () s')(hf:X.fn x=M\/X.env.scope.names.lookup x=Z .local:=by first|exact .inl rfl|exact .inr rfl|assumption):db ah A (storeName X.env x u) Q E s:=by
 obtain⟨m,S,hl⟩:=id I.loc;have K:(X.env.scope.kind == .class||(X.env.scope.kind == .module&&X.env.locals != X.env.globals))=J:=by rw[I.ok.kind];rfl
 have w:i<σ.length:=by rw[I.len];exact(gE1.mp hi).1
 have cne:=I.cne;have tracked:∀{a:c0} {h':de},(∃o,s.heap.get? a=Z o/\H a=Y)->Heap.SameBut a s.heap h'->kE X.prog X.w H h':=λ{a h'} ha f b ob e=>by
  obtain⟨_,_,l⟩:=ha;refine(I.hok b ob e).stay (λc P hc q=>(f.2 c ?_).trans q) (λ_ q=>q) λ_ _ q=>q;rintro rfl;rcases hc with rfl|hc
  ·rw[l]at e;cases e
  ·rw[l]at hc;cases hc
 rcases hx with B|B
 ·refine wpAny_storeName_local B S (λh' hn' f=>?_) K;obtain⟨oL,_,_,T,_⟩:=id S;refine h _ ⟨I.ok,I.os,I.bare,⟨λb o e n C hx=>?_,λb o e n C hx=>?_,I.base.free,λb o e hx=>?_,I.base.tups,I.base.frzs,I.base.tbls⟩,⟨_,hn',λj y wq g t W=>?_⟩,λy c e=>?_,I.free,I.freeC,λp hp=>?_,tracked ⟨oL,T,I.free⟩ f,by simpa using I.len⟩ ⟨_,f,.inl O⟩
  ·exact(f.2 b (nN1 (nL1 (hL1 e) I.ok.above))).trans (I.base.keep b o e n C hx)
  ·obtain⟨sl,g⟩:=I.base.slot b o e n C hx;exact⟨sl,(f.2 b (nN1 (nL1 (hL1 e) I.ok.above))).trans g⟩
  ·obtain⟨o',g⟩:=I.base.there b o e hx;exact⟨o',(f.2 b (nN1 (nL1 (hL1 e) I.ok.above))).trans g⟩
  ·by_cases F:j=i
   ·subst F;rw[hi]at g;cases g;rw[aB w]at t;cases t;exact⟨u,r,.inl ⟨B,by simp⟩⟩
   ·rw[gS1 (Ne.symm F)]at t;obtain⟨U,R,q⟩:=hl j y wq g t W;refine⟨U,R,?_⟩;rcases q with⟨k,e⟩|⟨k,c,e,z⟩
    ·refine .inl ⟨k,?_⟩;have:y≠x:=λe=>F (tj hN g (e ▸ hi));simp[this,e]
    ·exact .inr ⟨k,c,e,z.sameBut f (cne y c e)⟩
  ·obtain⟨P,z⟩:=I.cell y c e;exact⟨P,z.sameBut f (cne y c e)⟩
  ·obtain⟨e,n,ne,ai,d⟩:=I.pin p hp;exact⟨(f.2 p.1 ne).trans e,n,ne,ai,d⟩
 ·have D:X.fn x=true:=by
   rcases hf with z|z
   ·exact z
   ·rw[z]at B;cases B
  obtain⟨c,hc⟩:=I.ok.has x (.inl B);obtain⟨P,z⟩:=I.cell x c hc;refine wpAny_storeName_cell I.ok.kind B hc z (λh' ag f=>?_);obtain⟨oc,N,G⟩:=id z;refine h {s with heap:=h'} ⟨I.ok,I.os,I.bare,⟨λb o e n C hx=>?_,λb o e n C hx=>?_,I.base.free,λb o e hx=>?_,I.base.tups,I.base.frzs,I.base.tbls⟩,⟨m,S.sameBut f (Ne.symm (cne x c hc)),λj y wq g t W=>?_⟩,λy aj e=>?_,I.free,I.freeC,λp hp=>?_,tracked ⟨oc,N,I.freeC x c hc⟩ f,by simpa using I.len⟩ ⟨c,f,.inr hc⟩
  ·exact(f.2 b (nN1 (nL1 (hL1 e) (I.ok.cab x c D hc)))).trans (I.base.keep b o e n C hx)
  ·obtain⟨sl,g⟩:=I.base.slot b o e n C hx;exact⟨sl,(f.2 b (nN1 (nL1 (hL1 e) (I.ok.cab x c D hc)))).trans g⟩
  ·obtain⟨o',g⟩:=I.base.there b o e hx;exact⟨o',(f.2 b (nN1 (nL1 (hL1 e) (I.ok.cab x c D hc)))).trans g⟩
  ·by_cases F:j=i
   ·subst F;rw[hi]at g;cases g;rw[aB w]at t;cases t;exact⟨u,r,.inr ⟨.inl B,c,hc,ag⟩⟩
   ·rw[gS1 (Ne.symm F)]at t;obtain⟨U,R,q⟩:=hl j y wq g t W;refine⟨U,R,?_⟩;rcases q with q|⟨k,aj,e,z'⟩
    ·exact .inl q
    ·refine .inr ⟨k,aj,e,z'.sameBut f ?_⟩;rintro rfl;exact F (tj hN g (I.ok.inj _ _ _ e hc ▸ hi))
  ·by_cases L:aj=c
   ·subst L;exact⟨_,ag⟩
   ·obtain⟨w2,z2⟩:=I.cell y aj e;exact⟨w2,z2.sameBut f L⟩
  ·obtain⟨e,n,ne,ai,d⟩:=I.pin p hp;refine⟨(f.2 p.1 ?_).trans e,n,ne,ai,d⟩;intro q;rw[q,N]at e;have q':oc=p.2:=Option.some.inj e;exact d P (by rw[<- q'];exact G)
theorem kK{ah:Model}{A:c6}{E:cY->cZ->Prop}{i:Nat}{x:Str}{v:V}{u:cY}{Q:Unit->cZ->Prop}(I:Inv X Z8 σ H s)(hN:X.N.Nodup)(hi:X.N[i]? = Z x)(hx:yq X.env.scope x)(r:dG v u)(h:∀s',Inv X Z8 (σ.set i (Z v)) H s'->Q () s')(hf:X.fn x=M\/X.env.scope.names.lookup x=Z .local:=by first|exact .inl rfl|exact .inr rfl|assumption):db ah A (storeName X.env x u) Q E s:=
 xl I hN hi hx r (λs' a _=>h s' a) hf
theorem Inv.call'{s':cZ}{ch:List c0}(I:Inv X Z8 σ H s)(ho:s'.os=s.os)(u:Un (frs X.stack) ch H H' s.heap s'.heap)(d:kE X.prog X.w H' s'.heap)(hg:AllBare s'.gens)(a:∀b∈ch,(b∈X.ex\/X.s₀.heap.objs.size<=b)/\b≠X.env.locals/\(∀x c,X.env.cells.lookup x=Z c->c≠b) /\ ∀p∈X.pn++Z8,p.1≠b):Inv X Z8 σ H' s':=by
 obtain⟨h',f,h,g,o'⟩:=s';have e:o'=s.os:=ho;subst e;exact I.call (g':=f) (t':=g) (d':=h) u d hg a
end
abbrev XK:=cY->Option c0->Hp->Prop
abbrev St:=List (Option V)
abbrev VK:=V->Hp->Prop
abbrev TE:=St->Hp->VK->Prop
abbrev TT:=St->Hp->(Bool->Hp->Prop)->Prop
abbrev TA:=St->Hp->(List V->Hp->Prop)->Prop
structure jL where
 nx:St->Hp->Prop
 rt:VK
 bk:St->Hp->Prop:=λ_ _=>False
 ct:St->Hp->Prop:=λ_ _=>False
abbrev TS:=jL->St->Hp->Prop
def EP(X:Cx)(Z8:List (c0×Obj))(σ:St)(Q:VK)(u:cY)(s':cZ):Prop:=∃v H',Inv X Z8 σ H' s'/\dG v u/\Q v H'
def TP(X:Cx)(Z8:List (c0×Obj))(σ:St)(Q:Bool->Hp->Prop)(b:Bool)(s':cZ):Prop:=∃H',Inv X Z8 σ H' s'/\Q b H'
def AP(X:Cx)(Z8:List (c0×Obj))(σ:St)(Q:List V->Hp->Prop)(us:List cY)(s':cZ):Prop:=∃vs H',Inv X Z8 σ H' s'/\dR vs us/\Q vs H'
def SP(X:Cx)(Z8:List (c0×Obj))(D:jL)(f:Flow)(s':cZ):Prop:=
 match f with
 | .next=>∃ σ' H',Inv X Z8 σ' H' s'/\D.nx σ' H'
 | .brk=>∃ σ' H',Inv X Z8 σ' H' s'/\D.bk σ' H'
 | .cont=>∃ σ' H',Inv X Z8 σ' H' s'/\D.ct σ' H'
 | .ret u=>∃v σ' H',Inv X Z8 σ' H' s'/\dG v u/\D.rt v H'
def PE(X:Cx)(e:Expr)(t:TE):Prop:=
 ∀(Z8:List (c0×Obj)) (s:cZ) (σ:St) (H:Hp) (Q:VK),Inv X Z8 σ H s->t σ H Q->db (model X.prog X.w) X.A (eval e X.env) (EP X Z8 σ Q) X.xe s
def PT(X:Cx)(e:Expr)(t:TT):Prop:=
 ∀(Z8:List (c0×Obj)) (s:cZ) (σ:St) (H:Hp) (Q:Bool->Hp->Prop),Inv X Z8 σ H s->t σ H Q->db (model X.prog X.w) X.A (isTrue e X.env (eval e X.env)) (TP X Z8 σ Q) X.xe s
def PW(X:Cx)(e:Expr)(t:TT):Prop:=
 ∀(whole:Sem cY) (Z8:List (c0×Obj)) (s:cZ) (σ:St) (H:Hp) (Q:Bool->Hp->Prop),Inv X Z8 σ H s->t σ H Q->db (model X.prog X.w) X.A (isTrue e X.env whole) (TP X Z8 σ Q) X.xe s
theorem PW.pt{X:Cx}{e:Expr}{t:TT}(h:PW X e t):PT X e t:=h _
def PA(X:Cx)(es:List Expr)(t:TA):Prop:=
 ∀(pos:Pos) (Z8:List (c0×Obj)) (s:cZ) (σ:St) (H:Hp) (Q:List V->Hp->Prop),Inv X Z8 σ H s->t σ H Q->db (model X.prog X.w) X.A (spliced (backTo pos (c9 es X.env))) (AP X Z8 σ Q) X.xe s
def PS(X:Cx)(st:dg)(t:TS):Prop:=
 ∀(Z8:List (c0×Obj)) (s:cZ) (σ:St) (H:Hp) (D:jL),Inv X Z8 σ H s->t D σ H->db (model X.prog X.w) X.A (exec st X.env) (SP X Z8 D) X.xe s
def uw(X:Cx)(st:List dg)(t:TS):Prop:=
 ∀(Z8:List (c0×Obj)) (s:cZ) (σ:St) (H:Hp) (D:jL),Inv X Z8 σ H s->t D σ H->db (model X.prog X.w) X.A (execs st X.env) (SP X Z8 D) X.xe s
theorem eQ{α:Type}{t:Sem α}{Q b:α->cZ->Prop}{ah:Model}{A:c6}{E:cY->cZ->Prop}{s:cZ}(h:db ah A t Q E s)(c:∀a s,Q a s->b a s):db ah A t b E s:=wpAny_mono h c λ_ _ x=>x
end L2
namespace L2
open PySem PySem.Spec PyProof.Rows
section
variable{X:Cx}
theorem MD{a b:Expr}{ta tb:TE}(ha:PE X a ta)(hb:PE X b tb){Z8:List (c0×Obj)}{s:cZ}{σ:St}{H:Hp}{R:V->V->Hp->Prop}(I:Inv X Z8 σ H s)(h:ta σ H fun x H1=>tb σ H1 fun y H2=>R x y H2){α:Type}{Q:α->cZ->Prop}{f:cY->cY->Sem α}(hf:∀v u e x y H2,Inv X Z8 σ H2 e->dG x v->dG y u->R x y H2->db (model X.prog X.w) X.A (f v u) Q X.xe e):
  db (model X.prog X.w) X.A (eval a X.env) (λv c=>db (model X.prog X.w) X.A (eval b X.env) (λu d=>db (model X.prog X.w) X.A (f v u) Q X.xe d) X.xe c) X.xe s:=by
 refine eQ (ha Z8 s σ H _ I h) λv m ⟨x,H1,i,j,l⟩=>?_;refine eQ (hb Z8 m σ H1 _ i l) λu e ⟨y,H2,g,r2,k⟩=>?_;exact hf v u e x y H2 g j r2 k
def Kq(i:Nat):TE:=fun σ H Q=>∃v,σ[i]?=Z (Z v)/\Q v H
def tC(v:V):TE:=λ_ H Q=>Q v H
theorem FM {i:Nat}{x:Str}{pos:Pos}(hN:X.N[i]?=Z x)(hv:D8 X.env.scope x)(hd:(x == ("__debug__":Str))=J:=by decide)(hcd:(x == ("__classdict__":Str))=J:=by decide):PE X (.Name x pos) (Kq i):=by
 intro Z8 s σ H Q I h;obtain⟨v,e,h⟩:=h;obtain⟨m,g,f⟩:=I.loc;obtain⟨u,r,l⟩:=f i x v hN e hv;have d:EP X Z8 σ Q u s:=⟨v,H,I,r,h⟩;rcases l with⟨b,j⟩|⟨b,c,hc,a⟩
 ·exact wpAny_Name (wpAny_loadName_local I.ok.kind b g j d) hd
 ·rcases b with b|b
  ·exact wpAny_Name (wpAny_loadName_cell I.ok.kind b hc a d) hd
  ·exact wpAny_Name (wpAny_loadName_free I.ok.kind b hc a d hcd) hd
theorem FZ{i j pos}:PE X (.Constant (.int i) j pos) (tC (.int i)):=λ_ _ _ H _ I h=>wpAny_Constant_int ⟨.int i,H,I.tok _,⟨_,O⟩,h⟩
theorem IJ{b j pos}:PE X (.Constant (.bool b) j pos) (tC (.bl b)):=λ_ _ _ H _ I h=>Constant_bool ⟨.bl b,H,I,O,h⟩
theorem FX{j pos}:PE X (.Constant .none j pos) (tC .non):=λ_ _ _ H _ I h=>Constant_none ⟨.non,H,I,O,h⟩
theorem FQ{x j pos}:PE X (.Constant (.str x) j pos) (tC (.str x)):=λ_ _ _ H _ I h=>Calls.Constant_str ⟨.str x,H,I.tok _,⟨_,O⟩,h⟩
def Gl(X:Cx)(x:Str):Prop:=X.env.kindOf x=Z .globalImplicit
theorem wz {E:cY->cZ->Prop}{Z8:List (c0×Obj)}{s:cZ}{σ:St}{H:Hp}{x:Str}{u:cY}{pos:Pos}{Q:cY->cZ->Prop}(I:Inv X Z8 σ H s)(hg:Gl X x)(hm:X.mg x=some u)(h:Q u s)
  (hd:(x == ("__debug__":Str))=J:=by decide):db (model X.prog X.w) X.A (eval (.Name x pos) X.env) Q E s:=
 Calls.Name_function_global I.ok.kind hg (Calls.loadGlobal_global (by rw[I.ok.glob];exact I.mod.glob.keeps I.bk) hm h) hd
theorem jx {E:cY->cZ->Prop}{Z8:List (c0×Obj)}{s:cZ}{σ:St}{H:Hp}{x:Str}{u:cY}{pos:Pos}{Q:cY->cZ->Prop}(I:Inv X Z8 σ H s)(hg:Gl X x)(hm:X.mg x=none)(hv:bootBuiltins x=some u)(h:Q u s)
  (hn:x≠"__name__":=by decide) (hd:(x == ("__debug__":Str))=J:=by decide):db (model X.prog X.w) X.A (eval (.Name x pos) X.env) Q E s:=by
 obtain⟨a,h1,h2⟩:=I.mod.blt;exact Calls.Name_function_global I.ok.kind hg (Calls.loadGlobal_builtin (by rw[I.ok.glob];exact I.mod.glob.keeps I.bk) hm (by rw[I.ok.blt];exact h1.keeps I.bk) ((h2 x hn).trans hv) h) hd
theorem CF {x:Str}{v:V}{u:cY}{pos:Pos}(hg:Gl X x)(hm:X.mg x=Z u)(r:dG v u)(hd:(x == ("__debug__":Str))=J:=by decide):PE X (.Name x pos) (tC v):=
 λ_ _ _ H _ I h=>wz I hg hm ⟨v,H,I,r,h⟩ hd
theorem CL {x:Str}{v:V}{u:cY}{pos:Pos}(hg:Gl X x)(hm:X.mg x=Y)(hv:bootBuiltins x=Z u)(r:dG v u)(hn:x≠"__name__":=by decide)(hd:(x == ("__debug__":Str))=J:=by decide):PE X (.Name x pos) (tC v):=
 λ_ _ _ H _ I h=>jx I hg hm hv ⟨v,H,I,r,h⟩ hn hd
variable{a b:Expr}{ta tb:TE}{pos:Pos}
def tB(t:TE):TT:=fun σ H Q=>t σ H λx H1=>∃c,x = .bl c/\Q c H1
variable{tA tB':TT}{rest:List Expr}
def KD(t u:TT):TT:=fun σ H Q=>t σ H λc H1=>if c=M then u σ H1 Q else Q J H1
def LU(t u:TT):TT:=fun σ H Q=>t σ H λc H1=>if c=M then Q M H1 else u σ H1 Q
def Kv(t:TT):TT:=fun σ H Q=>t σ H λc H1=>Q (!c) H1
theorem Co(ha:PT X a tA):PW X (.BoolOp .And [a] pos) tA:=by
 intro d Z8 s σ H Q I h;refine isTrue_and (eQ (ha Z8 s σ H Q I h) λc b e=>?_);cases c with
 |true=>exact isTrue_and_nil e
 |false=>exact e
theorem Fs(ha:PT X a tA):PW X (.BoolOp .Or [a] pos) tA:=by
 intro d Z8 s σ H Q I h;refine isTrue_or (eQ (ha Z8 s σ H Q I h) λc b e=>?_);cases c with
 |false=>exact isTrue_or_nil e
 |true=>exact e
theorem Ft(ha:PT X a tA)(hb:PW X (.BoolOp .And (b::rest) pos) tB'):PW X (.BoolOp .And (a::b::rest) pos) (KD tA tB'):=by
 intro g Z8 s σ H Q I h;refine isTrue_and (eQ (ha Z8 s σ H _ I h) λc f ⟨H1,d,e⟩=>?_);cases c with
 |true=>exact hb g Z8 f σ H1 Q d e
 |false=>exact⟨H1,d,e⟩
theorem IA(ha:PT X a tA)(hb:PW X (.BoolOp .Or (b::rest) pos) tB'):PW X (.BoolOp .Or (a::b::rest) pos) (LU tA tB'):=by
 intro g Z8 s σ H Q I h;refine isTrue_or (eQ (ha Z8 s σ H _ I h) λc f ⟨H1,d,e⟩=>?_);cases c with
 |true=>exact⟨H1,d,e⟩
 |false=>exact hb g Z8 f σ H1 Q d e
theorem Fv(ha:PT X a tA):PT X (.UnaryOp .Not a pos) (Kv tA):=by
 intro Z8 s σ H Q I h;exact isTrue_not (ha Z8 s σ H (λc H1=>Q (!c) H1) I h)
def Ih(ta tb:TE):TE:=fun σ H Q=>ta σ H λx H1=>∃c,x = .bl c/\if c=M then tb σ H1 Q else Q (.bl J) H1
def H9(ta:TE):TE:=fun σ H Q=>ta σ H λx H1=>∃c,x = .bl c/\Q (.bl (!c)) H1
theorem FU{op}{t:TE}(h:PE X a t):PE X (.BoolOp op [a] pos) t:=λZ8 s σ H Q I b=>BoolOp_one (h Z8 s σ H Q I b)
theorem F1(ha:PE X a ta)(hb:PE X (.BoolOp .And (b::rest) pos) tb):PE X (.BoolOp .And (a::b::rest) pos) (Ih ta tb):=by
 intro Z8 s σ H Q I h;refine BoolOp_and (eQ (ha Z8 s σ H _ I h) λv f ⟨x,H1,e,g,d⟩=>?_);obtain⟨c,rfl,d⟩:=d;cases g;refine wpAny_truthy_bool ?_;cases c with
 |true=>exact hb Z8 f σ H1 Q e d
 |false=>exact⟨.bl J,H1,e,O,d⟩
theorem FW(ha:PE X a ta):PE X (.UnaryOp .Not a pos) (H9 ta):=by
 intro Z8 s σ H Q I h;refine UnaryOp_ (eQ (ha Z8 s σ H _ I h) λv f ⟨x,H1,e,d,b⟩=>?_);obtain⟨c,rfl,b⟩:=b;cases d;exact not_of (wpAny_truthy_bool ⟨.bl (!c),H1,e,O,b⟩)
def LW(t:TT)(ta tb:TE):TE:=fun σ H Q=>t σ H λc H1=>if c=M then ta σ H1 Q else tb σ H1 Q
theorem zN{c:Expr}(hc:PT X c tA)(ha:PE X a ta)(hb:PE X b tb):PE X (.IfExp c a b pos) (LW tA ta tb):=by
 intro Z8 s σ H Q I h;refine wpAny_IfExp (eQ (hc Z8 s σ H _ I h) λd e ⟨H1,f,g⟩=>?_);cases d with
 |true=>exact ha Z8 e σ H1 Q f g
 |false=>exact hb Z8 e σ H1 Q f g
end
end L2
namespace L2
open PySem PySem.Spec PyProof.Rows
def lI(K:Fg1)(H:Hp)(a:c0)(xs:List V):Prop:=
 Rd H a (.lst xs) \/
  ∃(o:Obj) (its:Array cY) (n:Nat),K.lookup a=Z o/\o.cls = .type "list"/\o.dict=Y/\o.data = .seq its n/\its.size<=da/\dR xs its.toList
def jJ(K:Fg1)(H:Hp)(a:c0)(xs:List V):Prop:=
 Rd H a (.tup xs) \/
  ∃(o:Obj) (its:Array cY) (n:Nat),K.lookup a=Z o/\o.cls = .type "tuple"/\o.data = .seq its n/\its.size<=da/\dR xs its.toList
def Lg:cY->Option V
 | .none=>Z .non
 | .bool b=>Z (.bl b)
 | .int i _=>Z (.int i)
 | .str x _=>Z (.str x)
 | .bytes b _=>Z (.byt b)
 | .float b _=>Z (.flt b)
 | .ref a=>Z (.ref a)
 | .type n=>Z (.ty n)
 |_=>Y
theorem dG.abs{x:V}{u:cY}(r:dG x u):Lg u=Z x:=by
 cases x with
 |non=>cases r;rfl
 |bl _=>cases r;rfl
 |int _=>obtain⟨t,rfl⟩:=r;rfl
 |str _=>obtain⟨t,rfl⟩:=r;rfl
 |byt _=>obtain⟨t,rfl⟩:=r;rfl
 |flt _=>obtain⟨t,rfl⟩:=r;rfl
 |ref _=>cases r;rfl
 |ty _=>cases r;rfl
theorem dG.inj{x y:V}{u:cY}(r:dG x u)(q:dG y u):x=y:=Option.some.inj (r.abs.symm.trans q.abs)
theorem dR.inj:∀{xs ys:List V} {a:List cY},dR xs a->dR ys a->xs=ys:=by
 intro xs ys a h g
 induction h generalizing ys with
 |nil=>cases g;rfl
 |cons r t ih=>cases g with
  |cons b c=>rw[r.inj b,ih c]
section
variable{X:Cx}{Z8:List (c0×Obj)}{σ:St}{H:Hp}{s:cZ}{a:c0}{xs ys:List V}
theorem lI.of{K:Fg1}(h:H a=Z (.lst xs)):lI K H a xs:=.inl (.inl h)
theorem jJ.of{K:Fg1}(h:H a=Z (.tup xs)):jJ K H a xs:=.inl (.inl h)
theorem Inv.list(I:Inv X Z8 σ H s)(h:lI X.K H a xs):∃b:List cY,dR xs b/\PlainL s.heap a b.toArray/\xs.length<=da:=by
 rcases h with h|⟨o,b,n,d,hc,c,f,g,r⟩
 ·obtain⟨z,b,n,r,e⟩:=h.ok I.hok;exact⟨b,r,⟨_,n,e,O,O,O⟩,z⟩
 ·refine⟨b.toList,r,⟨o,n,I.kIn a o d,hc,c,by simpa using f⟩,?_⟩;have e:=r.length;simp only[aC]at e;lia
theorem Inv.tuple(I:Inv X Z8 σ H s)(h:jJ X.K H a xs):∃b:List cY,dR xs b/\IsTup s.heap a b.toArray/\xs.length<=da:=by
 rcases h with h|⟨o,b,n,d,hc,c,f,r⟩
 ·obtain⟨z,b,r,p⟩:=h.ok I.hok;exact⟨b,r,p,z⟩
 ·refine⟨b.toList,r,⟨o,I.kIn a o d,hc,n,by simpa using c⟩,?_⟩;have e:=r.length;simp only[aC]at e;lia
theorem Inv.list_inj(I:Inv X Z8 σ H s)(h:lI X.K H a xs)(h':lI X.K H a ys):xs=ys:=by
 obtain⟨b,r,⟨o,n,e,_,_,d⟩,_⟩:=I.list h;obtain⟨its',g,⟨o',j,c,_,_,f⟩,_⟩:=I.list h';rw[e]at c;cases c;rw[d]at f;injection f with i _;have:b=its':=by simpa using congrArg Array.toList i
 subst this;exact r.inj g
theorem Inv.tuple_inj(I:Inv X Z8 σ H s)(h:jJ X.K H a xs)(h':jJ X.K H a ys):xs=ys:=by
 obtain⟨b,r,⟨o,e,_,n,d⟩,_⟩:=I.tuple h;obtain⟨its',g,⟨o',c,_,j,f⟩,_⟩:=I.tuple h';rw[e]at c;cases c;rw[d]at f;injection f with i _;have:b=its':=by simpa using congrArg Array.toList i
 subst this;exact r.inj g
end
abbrev Cx.wish(X:Cx)(E:cY->cZ->Prop):Cx:={X with xe:=E}
abbrev Cx.nox(X:Cx):Cx:=X.wish λ_ _=>False
theorem Cx.Ok.wish{X:Cx}(ok:X.Ok)(E:cY->cZ->Prop):(X.wish E).Ok:=
 ⟨ok.mod,ok.kind,ok.glob,ok.blt,ok.above,ok.inj,ok.has,ok.cab,ok.hd,ok.frames,ok.stk,ok.exf,ok.bs,ok.bsz,ok.noex,ok.exfs,ok.funs,ok.frf⟩
theorem Cx.Ok.unwish{X:Cx}{E:cY->cZ->Prop}(ok:(X.wish E).Ok):X.Ok:=
 ⟨ok.mod,ok.kind,ok.glob,ok.blt,ok.above,ok.inj,ok.has,ok.cab,ok.hd,ok.frames,ok.stk,ok.exf,ok.bs,ok.bsz,ok.noex,ok.exfs,ok.funs,ok.frf⟩
section
variable{X:Cx}{Z8:List (c0×Obj)}{σ:St}{H:Hp}{s:cZ}{E:cY->cZ->Prop}
theorem Inv.wish(I:Inv X Z8 σ H s)(E:cY->cZ->Prop):Inv (X.wish E) Z8 σ H s:=⟨I.ok.wish E,I.os,I.bare,I.base,I.loc,I.cell,I.free,I.freeC,I.pin,I.hok,I.len⟩
theorem Inv.unwish(I:Inv (X.wish E) Z8 σ H s):Inv X Z8 σ H s:=⟨I.ok.unwish,I.os,I.bare,I.base,I.loc,I.cell,I.free,I.freeC,I.pin,I.hok,I.len⟩
theorem SP.unwish{D:jL}{f:Flow}{s':cZ}(h:SP (X.wish E) Z8 D f s'):SP X Z8 D f s':=by
 cases f with
 |next=>obtain⟨a,H',I,q⟩:=h;exact⟨a,H',I.unwish,q⟩
 |brk=>obtain⟨a,H',I,q⟩:=h;exact⟨a,H',I.unwish,q⟩
 |cont=>obtain⟨a,H',I,q⟩:=h;exact⟨a,H',I.unwish,q⟩
 |ret u=>obtain⟨v,a,H',I,r,q⟩:=h;exact⟨v,a,H',I.unwish,r,q⟩
theorem uw.nox{st:List dg}{t:TS}(h:uw X.nox st t):uw X st t:=λZ8 s σ H D I a=>
 wpAny_mono (h Z8 s σ H D (I.wish _) a) (λ_ _ q=>q.unwish) λ_ _ z=>False.elim z
end
section
variable{X:Cx}{st:dg}{rest:List dg}{t u:TS}{e:Expr}{te:TE}{pos:Pos}
def Ia:TS:=λD σ H=>D.nx σ H
def Ks(t u:TS):TS:=λD σ H=>t {D with nx:=u D} σ H
theorem Cr:uw X [] Ia:=λ_ _ σ H _ I h=>wpAny_execs_nil ⟨σ,H,I,h⟩
theorem zC(h1:PS X st t)(h2:uw X rest u):uw X (st::rest) (Ks t u):=by
 intro Z8 s σ H D I h;refine wpAny_execs_cons (eQ (h1 Z8 s σ H {D with nx:=u D} I h) λf b q=>?_);cases f with
 |next=>
  obtain⟨a,H',c,q⟩:=q;exact h2 Z8 b a H' D c q
 |ret v=>exact q
 |brk=>exact q
 |cont=>exact q
theorem Cq(h1:PS X st t):uw X [st] t:=by
 intro Z8 s σ H D I h;refine wpAny_execs_cons (eQ (h1 Z8 s σ H D I h) λf a q=>?_);cases f with
 |next=>exact wpAny_execs_nil q
 |ret v=>exact q
 |brk=>exact q
 |cont=>exact q
theorem Inv.quiet{Z8:List (c0×Obj)}{σ:St}{H:Hp}{s:cZ}(I:Inv X Z8 σ H s):interactive X.env=J:=by simp[interactive,I.ok.kind]
def Ie(te:TE):TS:=λD σ H=>te σ H λ_ H1=>D.nx σ H1
theorem Cs(he:PE X e te)(hs:swapsWith e Y pos.line X.env=pure J:=by rfl):PS X (.Expr e pos) (Ie te):=by
 intro Z8 s σ H D I h;exact wpAny_Expr_any (eQ (he Z8 s σ H _ I h) λv c ⟨x,H1,a,d,b⟩=>⟨σ,H1,a,b⟩) I.quiet hs
def Kt(te:TE):TS:=λD σ H=>te σ H D.rt
theorem Fx(he:PE X e te):PS X (.Return (Z e) pos) (Kt te):=by
 intro Z8 s σ H D I h;exact wpAny_Return_some (eQ (he Z8 s σ H _ I h) λv d ⟨x,H1,b,a,c⟩=>⟨x,σ,H1,b,a,c⟩)
def KB(c:TT)(t u:TS):TS:=λD σ H=>c σ H λb H1=>if b=M then t D σ H1 else u D σ H1
theorem IC{c:Expr}{a b:List dg}{tc:TT}(hc:PT X c tc)(ha:uw X a t)(hb:uw X b u):PS X (.If c a b pos) (KB tc t u):=by
 intro Z8 s σ H D I h;refine wpAny_If (eQ (hc Z8 s σ H _ I h) λd e ⟨H1,f,g⟩=>?_);cases d with
 |true=>exact ha Z8 e σ H1 D f g
 |false=>exact hb Z8 e σ H1 D f g
end
abbrev TG:=V->St->Hp->(St->Hp->Prop)->Prop
abbrev ET:=List V->St->Hp->(St->Hp->Prop)->Prop
def PG(X:Cx)(target:Expr)(t:TG):Prop:=
 ∀(Z8:List (c0×Obj)) (s:cZ) (σ:St) (H:Hp) (v:V) (u:cY) (Q:St->Hp->Prop),Inv X Z8 σ H s->dG v u->t v σ H Q ->
  db (model X.prog X.w) X.A (assign target X.env u) (λ_ s'=>∃ σ' H',Inv X Z8 σ' H' s'/\Q σ' H') X.xe s
def HF(X:Cx)(ts:List Expr)(t:ET):Prop:=
 ∀(Z8:List (c0×Obj)) (s:cZ) (σ:St) (H:Hp) (vs:List V) (us:List cY) (Q:St->Hp->Prop),Inv X Z8 σ H s->dR vs us->t vs σ H Q ->
  db (model X.prog X.w) X.A (assignInOrder ((assignEach ts X.env).map (·.2)) us) (λ_ s'=>∃ σ' H',Inv X Z8 σ' H' s'/\Q σ' H') X.xe s
abbrev HE:=V->V->V->Hp->(Hp->Prop)->Prop
def vx(X:Cx)(t:HE):Prop:=
 ∀(Z8:List (c0×Obj)) (s:cZ) (σ:St) (H:Hp) (o i v:V) (ov iv u:cY) (Q:Hp->Prop),Inv X Z8 σ H s->dG o ov->dG i iv->dG v u->t o i v H Q ->
  db (model X.prog X.w) X.A (setItem ov iv u) (λ_ s'=>∃H',Inv X Z8 σ H' s'/\Q H') X.xe s
section
variable{X:Cx}{pos:Pos}
def wI(i:Nat):TG:=λv σ H Q=>Q (σ.set i (Z v)) H
theorem wa{i:Nat}{x:Str}(hN:X.N.Nodup)(hi:X.N[i]?=Z x)(hx:yq X.env.scope x)(hf:X.fn x=M\/X.env.scope.names.lookup x=Z .local:=by first|exact .inl rfl|exact .inr rfl|assumption):PG X (.Name x pos) (wI i):=by
 intro Z8 s σ H v u Q I r h;exact wpAny_assign_Name (kK I hN hi hx r (λs' a=>⟨_,H,a,h⟩) hf)
def K3:ET:=λvs σ H Q=>vs=[]/\Q σ H
def Jy(t:TG)(u:ET):ET:=λvs σ H Q=>∃v r,vs=v::r/\t v σ H fun σ' H'=>u r σ' H' Q
theorem CD:HF X [] K3:=by
 intro Z8 s σ H vs a Q I r h;obtain⟨e,h⟩:=h;subst e;cases r;exact assignInOrder_nil ⟨σ,H,I,h⟩
theorem zL{e:Expr}{es:List Expr}{t:TG}{u:ET}(h1:PG X e t)(h2:HF X es u)(hs:(assignEach (e::es) X.env).map (·.2)=assign e X.env::(assignEach es X.env).map (·.2):=by rfl):HF X (e::es) (Jy t u):=by
 intro Z8 s σ H vs j Q I r h;obtain⟨v,i,c,h⟩:=h;subst c;cases r with
 |cons r f=>
  rw[hs];refine assignInOrder_cons (eQ (h1 Z8 s σ H _ _ _ I r h) λ_ g ⟨a,H1,b,d⟩=>?_);exact h2 Z8 g a H1 _ _ Q b f d
def gTup(K:Fg1)(n:Nat)(t:ET):TG:=λv σ H Q=>∃a xs,v = .ref a/\jJ K H a xs/\xs.length=n/\t xs σ H Q
theorem FK{es:List Expr}{k:Nat}{t:ET}{n:Nat}(hc:X.calm=M)(h:HF X es t)(hn:(assignEach es X.env).length=n:=by rfl)(hst:(assignEach es X.env).findIdx? (·.1)=Y:=by rfl):PG X (.Tuple es k pos) (gTup X.K n t):=by
 intro Z8 s σ H v u Q I r c;obtain⟨a,xs,i,m,l,c⟩:=c;subst i;cases r;obtain⟨j,d,p,q⟩:=I.tuple m;refine assign_Tuple_tuple (I.ok.hd hc) p (by simp[hn,<- l,d.length]) hst λh' g=>?_;have f:Inv X Z8 σ H {s with heap:=h'}:=I.kept (t':=s.toks) λb o e=>g b o (nN1 (hL1 e)) e;exact h Z8 _ σ H xs _ Q f (by simpa using d) c
def gSub(to ti:TE)(t:HE):TG:=λv σ H Q=>to σ H λo H1=>ti σ H1 λi H2=>t o i v H2 λH3=>Q σ H3
theorem FL{o i:Expr}{to c:TE}{t:HE}(ho:PE X o to)(hi:PE X i c)(hs:vx X t)(ha:∀v,assign (.Subscript o i pos) X.env v=(do
   let a<-holding [v] (eval o X.env)
   let b<-holding [v,a] (eval i X.env)
   standAt pos
   holding [v,a,b] (setItem a b v)
   release [v,a,b] []):=by intro _;rfl):PG X (.Subscript o i pos) (gSub to c t):=by
 intro Z8 s σ H v u Q I r h;rw[ha];refine wB1 (wpAny_holding (eQ (ho Z8 s σ H _ I h) λa p ⟨x,H1,f,j,n⟩=>?_));refine wB1 (wpAny_holding (eQ (hi Z8 p σ H1 _ f n) λb l ⟨y,H2,d,r2,k⟩=>?_));refine wB1 (wpAny_standAt (wB1 (wpAny_holding (eQ (hs Z8 l σ H2 x y v a b u _ d j r2 r k) λ_ q ⟨g,e,m⟩=>?_))));exact wpAny_release ⟨σ,g,e,m⟩
def zg(te:TE)(g:TG):TS:=λD σ H=>te σ H λx H1=>g x σ H1 D.nx
theorem FC{tg e:Expr}{te:TE}{g:TG}(he:PE X e te)(hg:PG X tg g)(hs:swapsWithSole [tg] e pos.line X.env=pure J:=by rfl)(hw:swappedStores [tg] e X.env=pure Y:=by rfl)(h1:(assignEach [tg] X.env).map (·.2)=[assign tg X.env]:=by rfl):PS X (.Assign [tg] e pos) (zg te g):=by
 intro Z8 s σ H D I h;refine wpAny_Assign_stores (eQ (he Z8 s σ H _ I h) λv d ⟨x,H1,a,b,c⟩=>?_) hs hw;rw[h1];exact eQ (hg Z8 d σ H1 x v _ a b c) λ_ f q=>q
theorem Fw{i:Nat}{x:Str}{e:Expr}{te:TE}{pos':Pos}(hN:X.N.Nodup)(hi:X.N[i]? = some x)(hx:yq X.env.scope x)(he:PE X e te)(hs:swapsWith e (some (.Name x pos')) pos.line X.env=pure false:=by rfl)(hf:X.fn x=true\/X.env.scope.names.lookup x=some .local:=by first | exact .inl rfl | exact .inr rfl | assumption):
  PS X (.Assign [.Name x pos'] e pos) (zg te (wI i)):=by
 intro Z8 s σ H D I h;refine wpAny_Assign_Name (eQ (he Z8 s σ H _ I h) λv g ⟨y,H1,b,c,d⟩=>?_) hs;exact kK b hN hi hx c (λf a=>⟨_,H1,a,d⟩) hf
def Ku(i j:Nat)(ta:TA):TS:=λD σ H=>ta σ H λvs H1=>∃v w,vs=[v,w]/\D.nx ((σ.set i (Z v)).set j (Z w)) H1
theorem Fy{i j:Nat}{x y:Str}{a b:Expr}{ta:TA}{n l pt:Pos}{kt k2 pt2}(hc:X.calm=true)(hN:X.N.Nodup)(hi:X.N[i]? = some x)(F:X.N[j]? = some y)(m:i≠j)(hx:X.env.scope.names.lookup x=some .local)(hy:X.env.scope.names.lookup y=some .local)(ha:PA X [a,b] ta)(hw:swappedStores [.Tuple [.Name x n,.Name y l] kt pt] (.Tuple [a,b] k2 pt2) X.env=pure (some [x,y]))(hs:swapsWithSole [.Tuple [.Name x n,.Name y l] kt pt] (.Tuple [a,b] k2 pt2) pos.line X.env=pure false:=by rfl):
  PS X (.Assign [.Tuple [.Name x n,.Name y l] kt pt] (.Tuple [a,b] k2 pt2) pos) (Ku i j ta):=by
 intro Z8 s σ H D I h;rw[exec_Assign_arm];refine wB1 (wpAny_standAt ?_);rw[hs];refine wB1 (wP1 ?_);rw[ab (by decide)];refine wB1 (Tuple_ (eQ (ha _ Z8 s σ H _ I h) λA c ⟨vs,H1,ag,K,k⟩=>?_));obtain⟨v,w,u,k⟩:=k;subst u;obtain⟨d,u2,rfl,G,g⟩:∃d u2,A=[d,u2]/\dG v d/\dG w u2:=by
  cases K with
  |cons p q=>
   cases q with
   |cons z E=>
    cases E;exact⟨_,_,O,p,z⟩
 refine wO1 ?_ (by show 2<=da;decide);have t:Inv X Z8 σ H1 {c with heap:=c.heap.push {cls:=.type "tuple",data:=.seq [d,u2].toArray}}:=ag.kept (t':=c.toks) λb o e=>hP1 _ e;rw[hw];refine wB1 (wP1 ?_);show db (model X.prog X.w) X.A (do rule "assign.swapped-stores";let items<-unpackItems (.ref c.heap.objs.size) 2 Y;assignInOrder [λv=>bindName X.env y v,λv=>bindName X.env x v] items.reverse;pure Flow.next) _ _ _;refine wB1 (wpAny_rule (wB1 (unpackItems_tuple (items:= #[d,u2]) (I.ok.hd hc) (IsTup.new c.heap _) λh' f=>?_)));have B:=t.kept (h':=h') (t':=c.toks) λb o e=>f b o (nN1 (hL1 e)) e;show db _ _ (assignInOrder [λv=>bindName X.env y v,λv=>bindName X.env x v] [u2,d] >>= λ_=>pure Flow.next) _ _ _;refine wB1 (assignInOrder_cons (wpAny_bindName (kK B hN F (.inl hy) g (λL C=>?_) (.inr hy))));refine assignInOrder_cons (wpAny_bindName (kK C hN hi (.inl hx) G (λah r=>assignInOrder_nil (wP1 ?_)) (.inr hx)));rw[List.set_comm _ _ (Ne.symm m)]at r;exact⟨_,H1,r,k⟩
def zb(c:TT)(tb:TS):TS:=λD σ H=>∃W:Nat->St->Hp->Prop,(∃m,W m σ H) /\ ∀m σ H,W m σ H ->
 c σ H λb H1=>if b=M then∃N:St->Hp->Prop,(∀ σ' H',N σ' H' -> ∃m',m'<m/\W m' σ' H')/\tb {D with nx:=N,ct:=N,bk:=D.nx} σ H1 else D.nx σ H1
theorem zE{c:Expr}{e:List dg}{tc:TT}{tb:TS}(hp:PassesOwn (model X.prog X.w) X.A X.env X.xe)(hc:PT X c tc)(hb:uw X e tb):PS X (.While c e [] pos) (zb tc tb):=by
 intro Z8 s σ H D I h;obtain⟨W,⟨x,z⟩,j⟩:=h;refine wpAny_While (codeAny_whileLoop (λn s'=>∃i H',Inv X Z8 i H' s'/\W n i H') ?_ x ⟨σ,H,I,z⟩);rintro n w ⟨d,H1,A,B⟩;refine wpAny_passesOwn hp (eQ (hc Z8 w d H1 _ A (j n d H1 B)) λb y ⟨H2,t,k⟩=>?_);cases b with
 |true=>
  obtain⟨N,u,k⟩:=k;rw[ae O];refine wpAny_passesOwn hp (eQ (hb Z8 y d H2 _ t k) λf C l=>?_);cases f with
  |next=>
   obtain⟨a,g,q,m⟩:=l;obtain⟨p,o,r⟩:=u a g m;exact⟨p,o,a,g,q,r⟩
  |cont=>
   obtain⟨a,g,q,m⟩:=l;obtain⟨p,o,r⟩:=u a g m;exact⟨p,o,a,g,q,r⟩
  |brk=>exact l
  |ret v=>exact l
 |false=>
  rw[ab aD];exact wpAny_execs_nil ⟨d,H2,t,k⟩
end
structure It where
 go:Nat->Hp->Prop
 yld:Nat->Hp->V->Hp->Prop
 stop:Nat->Hp->Prop
def j5(X:Cx)(Z8:List (c0×Obj))(H:Hp)(b:c0):Prop:=
 H b=Y/\b≠X.env.locals/\b∉X.fs/\(b∈X.ex\/X.s₀.heap.objs.size<=b)/\(∀x c,X.env.cells.lookup x=Z c->c≠b) /\ ∀p∈X.pn++Z8,p.1≠b
theorem Inv.fpOk{X:Cx}{Z8:List (c0×Obj)}{σ:St}{H H':Hp}{s:cZ}{b:c0}(I:Inv X Z8 σ H s)(hb:s.heap.objs.size<=b)(hn:H' b=Y):j5 X Z8 H' b:=by
 refine⟨hn,nG1 (nL1 I.lt hb),I.nofs hb,.inr (av I.sz hb),λx c e z=>?_,λp a z=>?_⟩
 ·obtain⟨v,q⟩:=I.cell x c e;exact absurd (nL1 q.lt (by rw[z];exact hb)) (aq _)
 ·exact absurd (nL1 (hL1 (I.pin p a).1) (by rw[z];exact hb)) (aq _)
structure vv (P:c5)(w:c7)(K:Fg1)(tg:Expr)(ag:It)(fp:List c0)(it:c0)(tn:Nat->de->Prop):Prop where
 mem:it∈fp
 obj:∀i h,tn i h -> ∀b∈fp,∃o,h.get? b=some o /\ ∀v,o.data ≠ .cell v
 keep:∀i h h',tn i h->(∀b∈fp,∀o,h.get? b=some o->h'.get? b=some o)->tn i h'
 item:∀(X:Cx),X.prog=P->X.w=w->X.K=K->X.calm=true -> ∀(i:Nat) (Z8:List (c0×Obj)) (s:cZ) (σ:St) (H:Hp) (E:cY->cZ->Prop),Inv X Z8 σ H s->(∀b∈fp,j5 X Z8 H b)->tn i s.heap->ag.go i H ->
  db (model P w) X.A (pyNext (.ref it)) (λr s1=>∃u,r=some u /\
   db (model P w) X.A (letOwnedTupleGo tg (.ref it) u) (λ_ s2=>∃x H',Inv X Z8 σ H' s2/\dG x u/\ag.yld i H x H'/\tn (i+1) s2.heap /\ ∀b∈fp,H' b=none) E s1) E s
 done:∀(X:Cx),X.prog=P->X.w=w->X.K=K->X.calm=true -> ∀(i:Nat) (Z8:List (c0×Obj)) (s:cZ) (σ:St) (H:Hp) (E:cY->cZ->Prop),Inv X Z8 σ H s->(∀b∈fp,j5 X Z8 H b)->tn i s.heap->ag.stop i H ->
  db (model P w) X.A (pyNext (.ref it)) (λr s1=>r=none/\Inv X Z8 σ H s1) E s
 self:∀(A:c6) (i:Nat) (s:cZ) (Q:cY->cZ->Prop) (E:cY->cZ->Prop),tn i s.heap->Q (.ref it) s->db (model P w) A (pyIter (.ref it)) Q E s
abbrev TI:=St->Hp->(It->Hp->Prop)->Prop
def LJ(X:Cx)(Z8:List (c0×Obj))(σ:St)(tg:Expr)(R:It->Hp->Prop)(itv:cY)(s2:cZ):Prop:=
 ∃(it:c0) (fp:List c0) (tn:Nat->de->Prop) (ag:It) (H':Hp),itv = .ref it/\Inv X Z8 σ H' s2/\vv X.prog X.w X.K tg ag fp it tn/\tn 0 s2.heap/\(∀b∈fp,j5 X Z8 H' b)/\R ag H'
def PI(X:Cx)(tg iter:Expr)(wi:TI):Prop:=
 ∀(Z8:List (c0×Obj)) (s:cZ) (σ:St) (H:Hp) (R:It->Hp->Prop),Inv X Z8 σ H s->wi σ H R ->
  db (model X.prog X.w) X.A (eval iter X.env) (λv s1=>db (model X.prog X.w) X.A (pyIter v) (LJ X Z8 σ tg R) X.xe s1) X.xe s
theorem AW {ah:Model}{A:c6}{E:cY->cZ->Prop}{s:cZ}{tg:Expr}{it:c0}{u:cY}{o:Obj}{n:String}{vs:Array cY}{Q:Unit->cZ->Prop}(ho:s.heap.get? it=some o)(hc:o.cls = .type n)(hd:o.data = .fields vs)
   (hn:["enumerate","zip","dict_itemiterator","dict_reverseitemiterator","odict_iterator","itertools.zip_longest","itertools.pairwise"].contains n=J) (a:Q () s):db ah A (letOwnedTupleGo tg (.ref it) u) Q E s:=by
 unfold letOwnedTupleGo;cases tg <;> first
   |exact wP1 a
   | (cases u<;>first
       |exact wP1 a
       | (refine wB1 (wpAny_load ho ?_)
          rw[hc,hd];show db ah A (if(["enumerate","zip","dict_itemiterator","dict_reverseitemiterator","odict_iterator","itertools.zip_longest","itertools.pairwise"].contains n&&vs[0]? == Z (rawInt _))=M then _ else _) Q E s;rw[ab (by intro h;rw[hn,aE]at h;cases h)];exact wP1 a))
def LO(K:Fg1)(a:c0):It:=
 ⟨λi H=>∃xs x,lI K H a xs/\xs[i]?=Z x,λi H x H'=>H'=H /\ ∀xs,lI K H a xs->xs[i]?=Z x,λi H=>∃xs,lI K H a xs/\xs.length<=i⟩
def LN(K:Fg1)(a:c0):It:=
 ⟨λi H=>∃xs x,jJ K H a xs/\xs[i]?=Z x,λi H x H'=>H'=H /\ ∀xs,jJ K H a xs->xs[i]?=Z x,λi H=>∃xs,jJ K H a xs/\xs.length<=i⟩
def J0(lo:Int)(n:Nat):It:=⟨λi _=>i<n,λi H x H'=>H'=H/\x = .int (lo+i),λi _=>n<=i⟩
theorem xh{P:c5}{w:c7}{K:Fg1}{tg:Expr}(a it:c0):vv P w K tg (LO K a) [it] it (λi h=>h.IsListIter it a i) where
 mem:=by simp
 obj:=λi h st b f=>by
  have e:b=it:=by simpa using f
  subst e;obtain⟨o,e,c,d⟩:=st;exact⟨o,e,λv z=>by rw[d]at z;cases z⟩
 keep:=λi h h' st k=>st.at λo e=>k it (by simp) o e
 item:=by
  intro X F n y hc i Z8 s σ H E I j st D;subst F n y;obtain⟨xs,x,l,G⟩:=D;obtain⟨q,C,p,aj⟩:=I.list l;obtain⟨u,ah,N⟩:=C.get G;obtain⟨t,r,L,B,m,A⟩:=j it (by simp);refine wpAny_pyNext_list_item st p.isList (x:=u) (by simpa using ah) λh' g R=>?_;have Q:Inv X Z8 σ H {s with heap:=h'}:=I.turned (t':=s.toks) (λb o f e=>(R.2 b f).trans e) t r B m A;obtain⟨o,e,c,d⟩:=id g;exact⟨u,O,AW (s:={s with heap:=h'}) e c d (by decide) ⟨x,H,Q,N,⟨O,λys ag=>by rw[I.list_inj ag l];exact G⟩,g,λb f=>(j b f).1⟩⟩
 done:=by
  intro X F n y hc i Z8 s σ H E I j st D;subst F n y;obtain⟨xs,l,G⟩:=D;obtain⟨q,C,p,aj⟩:=I.list l;obtain⟨t,r,L,B,m,A⟩:=j it (by simp);have S:=C.length;exact wpAny_pyNext_list_end (I.ok.hd hc) st p.isList (by simp;lia) λh' eb=>⟨O,I.turned (t':=s.toks) (λb o f e=>eb b o f e) t r B m A⟩
 self:=λ_ _ _ _ _ st h=>wpAny_pyIter_listiter st h
theorem uE{P:c5}{w:c7}{K:Fg1}{tg:Expr}(a it:c0):vv P w K tg (LN K a) [it] it (λi h=>h.IsTupleIter it a i) where
 mem:=by simp
 obj:=λi h st b g=>by
  have e:b=it:=by simpa using g
  subst e;obtain⟨o,e,c,d⟩:=st;exact⟨o,e,λv z=>by rw[d]at z;cases z⟩
 keep:=λi h h' st k=>st.at λo e=>k it (by simp) o e
 item:=by
  intro X F q y hc i Z8 s σ H E I l st D;subst F q y;obtain⟨xs,x,m,G⟩:=D;obtain⟨f,C,p,aj⟩:=I.tuple m;obtain⟨u,ah,N⟩:=C.get G;obtain⟨t,r,L,B,n,A⟩:=l it (by simp);refine wpAny_pyNext_tuple_item st (show s.heap.IsTuple a f.toArray from p) (x:=u) (by simpa using ah) λh' j R=>?_;have Q:Inv X Z8 σ H {s with heap:=h'}:=I.turned (t':=s.toks) (λb o g e=>(R.2 b g).trans e) t r B n A;obtain⟨o,e,c,d⟩:=id j;exact⟨u,O,AW (s:={s with heap:=h'}) e c d (by decide) ⟨x,H,Q,N,⟨O,λys ag=>by rw[I.tuple_inj ag m];exact G⟩,j,λb g=>(l b g).1⟩⟩
 done:=by
  intro X F q y hc i Z8 s σ H E I l st D;subst F q y;obtain⟨xs,m,G⟩:=D;obtain⟨f,C,p,aj⟩:=I.tuple m;obtain⟨t,r,L,B,n,A⟩:=l it (by simp);have S:=C.length;exact wpAny_pyNext_tuple_end (I.ok.hd hc) st (show s.heap.IsTuple a f.toArray from p) (by simp;lia) λh' eb=>⟨O,I.turned (t':=s.toks) (λb o g e=>eb b o g e) t r B n A⟩
 self:=λ_ _ _ _ _ st h=>wpAny_pyIter_tupleiter st h
theorem uF{P:c5}{w:c7}{K:Fg1}{tg:Expr}(it:c0)(lo:Int)(n:Nat):vv P w K tg (J0 lo n) [it] it (λi h=>IsRangeIter h it (lo+(i:Nat)*1) ((n:Int)-(i:Nat)) 1) where
 mem:=by simp
 obj:=λi h st b a=>by
  have e:b=it:=by simpa using a
  subst e;exact⟨_,st,λv z=>by
   have C:Data.fields _=Data.cell v:=z;cases C⟩
 keep:=λi h h' st k=>k it (by simp) _ st
 item:=by
  intro X m l p hc i Z8 s σ H E I d st j;subst m l p;obtain⟨g,q,x,r,f,u⟩:=d it (by simp);have W:=Walks.range (prog:=X.prog) (w:=X.w) (I.ok.hd hc) it lo 1 n;refine W.item i s _ _ j st λv h' tk B c A=>?_;obtain⟨t,rfl⟩:=B;have y:Inv X Z8 σ H {s with heap:=h',toks:=tk}:=I.turned (λb o a e=>A b o (by simpa using a) e) g q r f u;refine⟨_,O,AW (s:={s with heap:=h',toks:=tk}) (n:="range_iterator") c O O (by decide) ⟨.int (lo+i),H,y,⟨t,?_⟩,⟨O,O⟩,c,λb a=>(d b a).1⟩⟩;rw[Int.mul_one]
 done:=by
  intro X m l p hc i Z8 s σ H E I d st j;subst m l p;obtain⟨g,q,x,r,f,u⟩:=d it (by simp);exact wpAny_pyNext_range_end (I.ok.hd hc) st (by have:n<=i:=j;lia) λh' eb=>⟨O,I.turned (t':=s.toks) (λb o a e=>eb b o a e) g q r f u⟩
 self:=λ_ _ _ _ _ st h=>wpAny_pyIter_rangeiter st h
end L2
namespace L2
open PySem PySem.Spec PyProof.Rows
section
variable{X:Cx}{tg:Expr}
def Jv(K:Fg1)(tl:TE):TI:=fun σ H R=>tl σ H λx H1=>∃a,x = .ref a/\(∃xs,lI K H1 a xs)/\R (LO K a) H1
def K2(K:Fg1)(tl:TE):TI:=fun σ H R=>tl σ H λx H1=>∃a,x = .ref a/\(∃xs,jJ K H1 a xs)/\R (LN K a) H1
theorem CB{l:Expr}{tl:TE}(j:PE X l tl):PI X tg l (Jv X.K tl):=by
 intro Z8 s σ H R I h;refine eQ (j Z8 s σ H _ I h) λv d ⟨x,H1,c,i,k⟩=>?_;obtain⟨a,e,⟨xs,m⟩,q⟩:=k;subst e;cases i;obtain⟨f,r,p,n⟩:=c.list m;refine wpAny_pyIter_list p.isList ?_;refine⟨d.heap.objs.size,[d.heap.objs.size],_,_,H1,O,c.kept (t':=d.toks) λb o e=>hP1 _ e,xh a _,⟨_,hS1 _ O,O,O⟩,λb g=>?_,q⟩;have e:b=d.heap.objs.size:=by simpa using g
 subst e;exact c.fpOk (nR1 _) (c.hok.fresh (nR1 _))
theorem FJ{l:Expr}{tl:TE}(j:PE X l tl):PI X tg l (K2 X.K tl):=by
 intro Z8 s σ H R I h;refine eQ (j Z8 s σ H _ I h) λv c ⟨x,H1,d,i,k⟩=>?_;obtain⟨a,e,⟨xs,m⟩,q⟩:=k;subst e;cases i;obtain⟨f,r,p,n⟩:=d.tuple m;refine wpAny_pyIter_tuple (show c.heap.IsTuple a f.toArray from p) ?_;refine⟨c.heap.objs.size,[c.heap.objs.size],_,_,H1,O,d.kept (t':=c.toks) λb o e=>hP1 _ e,uE a _,⟨_,hS1 _ O,O,O⟩,λb g=>?_,q⟩;have e:b=c.heap.objs.size:=by simpa using g
 subst e;exact d.fpOk (nR1 _) (d.hok.fresh (nR1 _))
theorem sM{Z8:List (c0×Obj)}{σ:St}{H:Hp}{s:cZ}{R:It->Hp->Prop}{E:cY->cZ->Prop}{lo hi:Int}{t u v:Tok}{tk:Nat}(I:Inv X Z8 σ H s)(h1: -(2^62)<=lo)(h2:lo<2^62)(c: -(2^62)<=hi)(f:hi<2^62)(q:R (J0 lo (hi-lo).toNat) H):db (model X.prog X.w) X.A (pyIter (.ref s.heap.objs.size)) (LJ X Z8 σ tg R) E {s with heap:=s.heap.push {cls:=.type "range",data:=.fields #[.int lo t,.int hi u,.int 1 v]},toks:=tk}:=by
 refine wpAny_pyIter_range (IsRange.new ..) (small_one h1 h2 c f) ?_;have a:Inv X Z8 σ H {s with heap:=s.heap.push {cls:=.type "range",data:=.fields #[.int lo t,.int hi u,.int 1 v]},toks:=tk}:=I.kept λb o e=>hP1 _ e;refine⟨(s.heap.push {cls:=.type "range",data:=.fields #[.int lo t,.int hi u,.int 1 v]}).objs.size,[(s.heap.push {cls:=.type "range",data:=.fields #[.int lo t,.int hi u,.int 1 v]}).objs.size],_,_,H,O,
  a.kept (t':=tk) λb o e=>hP1 _ e,uF _ lo (hi-lo).toNat,?_,λb g=>?_,q⟩
 ·have d:lo+((0:Nat):Int)*1=lo:=by simp
  have h:(((hi-lo).toNat:Nat):Int)-((0:Nat):Int)=Builtin.Range.rangeSize lo hi 1:=by rw[rangeSize_one];split<;>lia
  show IsRangeIter _ _ (lo+((0:Nat):Int)*1) ((((hi-lo).toNat:Nat):Int)-((0:Nat):Int)) 1;rw[d,h];exact hS1 _ O
 ·have e:b=(s.heap.push {cls:=.type "range",data:=.fields #[.int lo t,.int hi u,.int 1 v]}).objs.size:=by simpa using g
  subst e;exact a.fpOk (nR1 _) (a.hok.fresh (nR1 _))
def Ju(ta:TA):TI:=fun σ H R=>ta σ H λvs H1=>∃j:Int,vs=[.int j] /\ -(2^62)<=j/\j<2^62/\R (J0 0 j.toNat) H1
def Jt(ta:TA):TI:=fun σ H R=>ta σ H λvs H1=>∃i j:Int,vs=[.int i,.int j]/\(-(2^62)<=i/\i<2^62 /\ -(2^62)<=j/\j<2^62)/\R (J0 i (j-i).toNat) H1
theorem xE {a:Expr}{ta:TA}{p pos:Pos}(hg:Gl X "range")(hm:X.mg "range"=Y)(ha:PA X [a] ta)(hs:c9 [a] X.env=[(J,eval a X.env)]:=by rfl):PI X tg (.Call (.Name "range" p) [a] [] pos) (Ju ta):=by
 intro Z8 s σ H R I h;refine Call_ (jx I hg hm boot_range (PyProof.Rows.callWith_type1 (eQ (ha pos Z8 s σ H _ I h) λi k ⟨vs,H1,c,d,b⟩=>?_) hs O));obtain⟨j,e,b,f,q⟩:=b;subst e;cases d with
 |cons r g=>
  cases g;obtain⟨t,rfl⟩:=r;exact call_range_1 (sM c (by lia) (by lia) b f (by simpa using q))
theorem xD {a b:Expr}{ta:TA}{p pos:Pos}(hg:Gl X "range")(hm:X.mg "range"=none)(ha:PA X [a,b] ta)(hs:c9 [a,b] X.env=[(false,eval a X.env),(false,eval b X.env)]:=by rfl)(hs2:c9 [b] X.env=[(false,eval b X.env)]:=by rfl):
  PI X tg (.Call (.Name "range" p) [a,b] [] pos) (Jt ta):=by
 intro Z8 s σ H R I h;refine Call_ (jx I hg hm boot_range (PyProof.Rows.callWith_type1 (eQ (ha pos Z8 s σ H _ I h) λo v ⟨vs,H1,f,g,c⟩=>?_) (by rw[hs,hs2]) (by rw[hs2];rfl)));obtain⟨i,j,e,⟨c,k,m,n⟩,q⟩:=c;subst e;cases g with
 |cons r d=>
  cases d with
  |cons l d=>
   cases d;obtain⟨t,rfl⟩:=r;obtain⟨u,rfl⟩:=l;exact call_range_2 (sM f c k m n q)
def Ic(wi:TI)(g:TG)(tb:TS):TS:=λD σ H=>wi σ H λag H1=>∃W:Nat->Nat->St->Hp->Prop,(∃m,W 0 m σ H1) /\ ∀i m σ H,W i m σ H ->
 (ag.stop i H/\D.nx σ H)\/(ag.go i H /\ ∃N:St->Hp->Prop,(∀ σ' H',N σ' H' -> ∃m',m'<m/\W (i+1) m' σ' H') /\ ∀x H',ag.yld i H x H'->g x σ H' fun σ2 H2=>tb {D with nx:=N,ct:=N,bk:=D.nx} σ2 H2)
def nM(fp:List c0)(h:de):List (c0×Obj):=fp.filterMap λb=>(h.get? b).map λo=>(b,o)
theorem iT{a:List c0}{h:de}{b:c0}{o:Obj}(hb:b∈a)(e:h.get? b=Z o):(b,o)∈nM a h:=aF.mpr ⟨b,hb,by rw[e];rfl⟩
theorem xF{a:List c0}{h:de}{p:c0×Obj}(hp:p∈nM a h):p.1∈a/\h.get? p.1=Z p.2:=by
 obtain⟨b,d,e⟩:=aF.mp hp;cases q:h.get? b with
 |none=>rw[q]at e;cases e
 |some o=>
  rw[q]at e;have c:(b,o)=p:=Option.some.inj e;subst c;exact⟨d,q⟩
theorem Inv.pinned{Z8:List (c0×Obj)}{σ:St}{H:Hp}{s:cZ}{a:List c0}(I:Inv X Z8 σ H s)(hf:∀b∈a,j5 X Z8 H b)(ho:∀b∈a,∃o,s.heap.get? b=Z o /\ ∀v,o.data ≠ .cell v):Inv X (Z8++nM a s.heap) σ H s:=
 I.pins_of λp i=>(az.mp i).elim (λz=>I.pin p (mA1 _ z)) λz=>by
  obtain⟨f,e⟩:=xF z;obtain⟨g,j,h,_⟩:=hf p.1 f;obtain⟨o,c,d⟩:=ho p.1 f;rw[e]at c;cases c;exact⟨e,g,j,h,d⟩
theorem Inv.unpinned{Z8 pl:List (c0×Obj)}{σ:St}{H:Hp}{s:cZ}(I:Inv X (Z8++pl) σ H s):Inv X Z8 σ H s:=I.pins_of λp a=>I.pin p (mA1 _ (aA _ a))
theorem FB{iter:Expr}{t:List dg}{U:TI}{g:TG}{tb:TS}{pos:Pos}(hp:PassesOwn (model X.prog X.w) X.A X.env X.xe)(hc:X.calm=M)(hi:PI X tg iter U)(hg:PG X tg g)(hb:uw X t tb)(hs:∀x,foldedSetIterable iter X.env x=pure x:=by intro _;rfl):PS X (.For tg iter t [] pos) (Ic U g tb):=by
 intro Z8 s σ H D I h;refine wpAny_For (eQ (hi Z8 s σ H _ I h) λv s1 h1=>eQ h1 λitv s2 h2=>?_) hs;obtain⟨it,A,wq,ag,H2,e,I2,T,ah,R,W,⟨m0,w0⟩,E⟩:=h2;subst e
 -- what stays M of the iterator's objects through the loop
 have p:∀{H':Hp},(∀b∈A,H' b=Y) -> ∀b∈A,j5 X Z8 H' b:=λhn b hb=>⟨hn b hb,(R b hb).2⟩;refine codeAny_forLoop_any (λn s'=>∃i k H',Inv X Z8 k H' s'/\wq i s'.heap/\(∀b∈A,H' b=Y)/\W i n k H') ?_ m0 ⟨0,σ,H2,I2,ah,λb hb=>(R b hb).1,w0⟩;rintro n ai ⟨i,l,F,S,y,B,w3⟩;rcases E i n l F w3 with⟨C,qn⟩|⟨go,N,hN,step⟩
 ·refine wpAny_passesOwn hp (eQ (T.done X O O O hc i Z8 ai l F X.xe S (p B) y C) λr s4 ⟨P,I4⟩=>?_);subst P;exact wpAny_execs_nil ⟨l,F,I4,qn⟩
 ·refine wpAny_passesOwn hp (eQ (T.item X rfl rfl rfl hc i Z8 ai l F X.xe S (p B) y go) fun r s4 ⟨u,P,h4⟩=>?_);subst P;refine wpAny_passesOwn hp (eQ h4 fun _ Q ⟨x,V,I5,r5,y5,w,G⟩=>?_);have aj:=I5.pinned (p G) (T.obj _ _ w);refine wpAny_passesOwn hp (eQ (hg _ Q l V x u _ aj r5 (step x V y5)) fun _ s6 ⟨K,H6,I6,q6⟩=>?_);refine wpAny_passesOwn hp (eQ (hb _ s6 K H6 _ I6 q6) fun f L q=>?_);have again:∀ {a:St} {j:Hp},Inv X (Z8++nM A Q.heap) a j L->N a j -> ∃ m,m<n /\ ∃ i k H',Inv X Z8 k H' L/\wq i L.heap/\(∀ b∈A,H' b=none)/\W i m k H':=fun {a j} c z=>by
   obtain⟨m',hm,w7⟩:=hN a j z;refine⟨m',hm,i+1,a,j,c.unpinned,T.keep _ _ _ w λb hb o e=>(c.pin (b,o) (mA1 _ (mA1 _ (iT hb e)))).1,λb hb=>?_,w7⟩;obtain⟨o,e,d⟩:=T.obj _ _ w b hb;exact(c.pin (b,o) (mA1 _ (mA1 _ (iT hb e)))).2.1
  cases f with
  |next=>obtain⟨a,j,c,z⟩:=q;exact again c z
  |cont=>obtain⟨a,j,c,z⟩:=q;exact again c z
  |brk=>obtain⟨a,j,c,q⟩:=q;exact⟨a,j,c.unpinned,q⟩
  |ret v=>obtain⟨x7,a,j,c,r7,q⟩:=q;exact⟨x7,a,j,c.unpinned,r7,q⟩
end
end L2
namespace L2
open PySem PySem.Spec PyProof.Rows
abbrev R2:=V->V->Hp->VK->Prop
def fY(X:Cx)(f:cY->cY->Sem cY)(r:R2):Prop:=
 ∀(Z8:List (c0×Obj)) (s:cZ) (σ:St) (H:Hp) (x y:V) (v u:cY) (Q:VK),Inv X Z8 σ H s->dG x v->dG y u->r x y H Q ->
  db (model X.prog X.w) X.A (f v u) (EP X Z8 σ Q) X.xe s
def HP(X:Cx)(f:cY->Sem cY)(r:V->Hp->VK->Prop):Prop:=
 ∀(Z8:List (c0×Obj)) (s:cZ) (σ:St) (H:Hp) (x:V) (v:cY) (Q:VK),Inv X Z8 σ H s->dG x v->r x H Q ->
  db (model X.prog X.w) X.A (f v) (EP X Z8 σ Q) X.xe s
def eh(X:Cx)(f:cY)(r:List V->Hp->VK->Prop):Prop:=
 ∀(Z8:List (c0×Obj)) (s:cZ) (σ:St) (H:Hp) (xs:List V) (us:List cY) (Q:VK),Inv X Z8 σ H s->dR xs us->r xs H Q ->
  db (model X.prog X.w) X.A (call f us) (EP X Z8 σ Q) X.xe s
def Lj(X:Cx)(r:V->Hp->(Bool->Hp->Prop)->Prop):Prop:=
 ∀(Z8:List (c0×Obj)) (s:cZ) (σ:St) (H:Hp) (x:V) (v:cY) (Q:Bool->Hp->Prop),Inv X Z8 σ H s->dG x v->r x H Q ->
  db (model X.prog X.w) X.A (truthy v) (TP X Z8 σ Q) X.xe s
def H7(r:R2)(ta tb:TE):TE:=fun σ H Q=>ta σ H λx H1=>tb σ H1 λy H2=>r x y H2 Q
def Ly(r:V->Hp->VK->Prop)(ta:TE):TE:=fun σ H Q=>ta σ H λx H1=>r x H1 Q
def rI(C:Int->Int->Prop)(g:Int->Int->V):R2:=λx y H Q=>∃i j,x = .int i/\y = .int j/\C i j/\Q (g i j) H
def En(g:Int->Int->V):R2:=λx y H Q=>∃i j,x = .int i/\y = .int j/\Q (g i j) H
def rU(g:Int->V):V->Hp->VK->Prop:=λx H Q=>∃i,x = .int i/\Q (g i) H
section
variable{X:Cx}{a b c:Expr}{ta tb tc:TE}{pos:Pos}
theorem Ht(ha:PE X a ta)(hb:PE X b tb){Z8:List (c0×Obj)}{s:cZ}{σ:St}{H:Hp}{R:V->V->Hp->Prop}(I:Inv X Z8 σ H s)(h:ta σ H fun x H1=>tb σ H1 fun y H2=>R x y H2){Q:cY->cZ->Prop}{f:cY->cY->Sem cY}(hf:∀v u e x y H2,Inv X Z8 σ H2 e->dG x v->dG y u->R x y H2->db (model X.prog X.w) X.A (f v u) Q X.xe e):
  db (model X.prog X.w) X.A (eval a X.env) (λv c=>db (model X.prog X.w) X.A (eval b X.env) (λu d=>db (model X.prog X.w) X.A (f v u) Q X.xe d) X.xe c) X.xe s:=by
 refine eQ (ha Z8 s σ H _ I h) λv m ⟨x,H1,i,j,l⟩=>?_;refine eQ (hb Z8 m σ H1 _ i l) λu e ⟨y,H2,g,r2,k⟩=>?_;exact hf v u e x y H2 g j r2 k
theorem IG{op:Operator}{r:R2}(ho:fY X (binaryOp op) r)(ha:PE X a ta)(hb:PE X b tb):PE X (.BinOp a op b pos) (H7 r ta tb):=by
 intro Z8 s σ H Q I h;exact wpAny_BinOp (Ht ha hb I h λv u d x y H2 c e f q=>ho Z8 d σ H2 x y v u Q c e f q)
theorem IF{op:UnaryOp}{r:V->Hp->VK->Prop}(ho:HP X (unaryOp op) r)(ha:PE X a ta):PE X (.UnaryOp op a pos) (Ly r ta):=by
 intro Z8 s σ H Q I h;exact UnaryOp_ (eQ (ha Z8 s σ H _ I h) λv b ⟨x,H1,d,c,e⟩=>ho Z8 b σ H1 x v Q d c e)
theorem Kg{f:cY->cY->Sem cY}{C:Int->Int->Prop}{g:Int->Int->Int}(a:∀(i j:Int) (t u:Tok) (s:cZ) (Q:cY->cZ->Prop) (E:cY->cZ->Prop),C i j->Q (.int (g i j) s.toks) {s with toks:=s.toks+1}->db (model X.prog X.w) X.A (f (.int i t) (.int j u)) Q E s):
  fY X f (rI C λi j=>.int (g i j)):=by
 intro Z8 s σ H x y v u Q I c d h;obtain⟨i,j,rfl,rfl,hc,q⟩:=h;obtain⟨t,rfl⟩:=c;obtain⟨b,rfl⟩:=d;exact a i j t b s _ _ hc ⟨.int (g i j),H,I.tok _,⟨_,O⟩,q⟩
theorem IN{f:cY->cY->Sem cY}{g:Int->Int->Int}(a:∀(i j:Int) (t u:Tok) (s:cZ) (Q:cY->cZ->Prop) (E:cY->cZ->Prop),Q (.int (g i j) s.toks) {s with toks:=s.toks+1}->db (model X.prog X.w) X.A (f (.int i t) (.int j u)) Q E s):
  fY X f (En λi j=>.int (g i j)):=by
 intro Z8 s σ H x y v u Q I c d h;obtain⟨i,j,rfl,rfl,q⟩:=h;obtain⟨t,rfl⟩:=c;obtain⟨b,rfl⟩:=d;exact a i j t b s _ _ ⟨.int (g i j),H,I.tok _,⟨_,O⟩,q⟩
theorem F8{f:cY->cY->Sem cY}{g:Int->Int->Bool}(a:∀(i j:Int) (t u:Tok) (s:cZ) (Q:cY->cZ->Prop) (E:cY->cZ->Prop),Q (.bool (g i j)) s->db (model X.prog X.w) X.A (f (.int i t) (.int j u)) Q E s):
  fY X f (En λi j=>.bl (g i j)):=by
 intro Z8 s σ H x y v u Q I c d h;obtain⟨i,j,rfl,rfl,q⟩:=h;obtain⟨t,rfl⟩:=c;obtain⟨b,rfl⟩:=d;exact a i j t b s _ _ ⟨.bl (g i j),H,I,O,q⟩
def J9(i j:Int):Prop:=0<j/\j<1073741824
def J8(i j:Int):Prop:=0<=j/\j<=1000000/\i.natAbs<2^64
theorem F7:fY X (binaryOp .Add) (En λi j=>.int (i+j)):=IN λ_ _ _ _ _ _ _ q=>add_int q
theorem F3:fY X (binaryOp .Sub) (En λi j=>.int (i-j)):=IN λ_ _ _ _ _ _ _ q=>sub_int q
theorem CN:fY X (binaryOp .FloorDiv) (rI J9 λi j=>.int (i/j)):=Kg λi j _ _ _ _ _ hc q=>by
 have h1:(0:Int)<j:=hc.1;have h2:j<1073741824:=hc.2;exact floordiv_int (by lia) (by rw[Int.fdiv_eq_ediv_of_nonneg i (by lia)];exact q) (.inl (PyProof.noPylong_small (by lia)))
theorem F5:fY X (binaryOp .Mod) (rI (λ_ j=>0<j) λi j=>.int (i%j)):=Kg λi j _ _ _ _ _ hc q=>by
 have h1:(0:Int)<j:=hc;exact mod_int' (by lia) (by rw[Int.fmod_eq_emod_of_nonneg i (by lia)];exact q)
theorem F4:fY X (binaryOp .Pow) (rI J8 λi j=>.int (i^j.toNat)):=Kg λ_ _ _ _ _ _ _ hc q=>pow_int_small hc.1 hc.2.1 hc.2.2 q
theorem LR{f:cY->Sem cY}{g:Int->Int}(a:∀(i:Int) (t:Tok) (s:cZ) (Q:cY->cZ->Prop) (E:cY->cZ->Prop),Q (.int (g i) s.toks) {s with toks:=s.toks+1}->db (model X.prog X.w) X.A (f (.int i t)) Q E s):
  HP X f (rU λi=>.int (g i)):=by
 intro Z8 s σ H x v Q I b h;obtain⟨i,rfl,q⟩:=h;obtain⟨t,rfl⟩:=b;exact a i t s _ _ ⟨.int (g i),H,I.tok _,⟨_,O⟩,q⟩
theorem E2:HP X (unaryOp .USub) (rU λi=>.int (-i)):=LR λ_ _ _ _ _ q=>neg_int q
theorem IK:fY X (compareOp .LtE) (En λi j=>.bl (decide (i<=j))):=F8 λ_ _ _ _ _ _ _ q=>le_int q
theorem IL:fY X (compareOp .Gt) (En λi j=>.bl (decide (j<i))):=F8 λ_ _ _ _ _ _ _ q=>gt_int q
theorem IM:fY X (compareOp .GtE) (En λi j=>.bl (decide (j<=i))):=F8 λ_ _ _ _ _ _ _ q=>ge_int q
theorem Ab(b:Expr){op:CmpOp}(h:op ≠ .In:=by decide)(h2:op ≠ .NotIn:=by decide):behindInMarks op b=J:=by
 have c:(op == CmpOp.In)=J:=by cases op<;>first|rfl|exact absurd rfl h
 have a:(op == CmpOp.NotIn)=J:=by cases op<;>first|rfl|exact absurd rfl h2
 cases b<;>simp[behindInMarks,c,a]
theorem CH{op:CmpOp}{r:R2}(ho:fY X (compareOp op) r)(ha:PE X a ta)(hb:PE X b tb)(hm:behindInMarks op b=J):PE X (.Compare a [op] [b] pos) (H7 r ta tb):=by
 intro Z8 s σ H Q I h;exact wpAny_Compare1 (Ht ha hb I h λv u d x y H2 c e f q=>ho Z8 d σ H2 x y v u Q c e f q) hm
def Eg(t:TE):TT:=fun σ H Q=>t σ H λx H'=>∃k,x = .bl k/\Q k H'
theorem Cp{op:CmpOp}{r:R2}(ho:fY X (compareOp op) r)(ha:PE X a ta)(hb:PE X b tb)(hm:behindInMarks op b=J):PT X (.Compare a [op] [b] pos) (Eg (H7 r ta tb)):=by
 intro Z8 s σ H Q I h;refine wpAny_isTrue_Compare1 (eQ (ha Z8 s σ H _ I h) λv q ⟨x,H1,g,j,o⟩=>eQ (hb Z8 q σ H1 _ g o) λu m ⟨y,H2,d,r2,l⟩=>
  eQ (ho Z8 m σ H2 x y v u _ d j r2 l) λc t ⟨z,i,f,p,k,e,n⟩=>?_) hm
 subst e;cases p;exact wpAny_truthy_bool ⟨i,f,n⟩
def zf(r r':R2)(ta tb tc:TE):TE:=fun σ H Q=>ta σ H λx H1=>tb σ H1 λy H2=>r x y H2 λz H3=>∃k,z = .bl k /\
 (if k=M then tc σ H3 λw' H4=>r' y w' H4 Q else Q (.bl J) H3)
theorem zP{op op':CmpOp}{r g:R2}(ho:fY X (compareOp op) r)(ho':fY X (compareOp op') g)(ha:PE X a ta)(hb:PE X b tb)(hc:PE X c tc)(hm:lastMarks [op,op'] [b,c]=J:=by with_unfolding_all rfl):PE X (.Compare a [op,op'] [b,c] pos) (zf r g ta tb tc):=by
 intro Z8 s σ H Q I h;refine Compare_chain (eQ (ha Z8 s σ H _ I h) λv q ⟨x,H1,D,F,p⟩=>chain_link (eQ (hb Z8 q σ H1 _ D p) λu A ⟨y,H2,l,r2,n⟩=>
  eQ (ho Z8 A σ H2 x y v u _ l F r2 n) λd E ⟨z,f,j,ag,k,e,i⟩=>?_)) hm
 subst e;cases ag;refine wpAny_truthy_bool ?_;cases k with
 |false=>exact ite_ff ⟨.bl J,f,j,O,i⟩
 |true=>exact ite_tt (chain_last (eQ (hc Z8 E σ f _ j i) λG C ⟨m,o,w,t,B⟩=>ho' Z8 C σ o y m u G Q w r2 t B))
def BH(K:Fg1)(x:V)(H:Hp)(k:Bool):Prop:=
 match x with
 | .non=>k=J
 | .bl b=>k=b
 | .int i=>k=(i != 0)
 | .str y=>y.length<=da/\k=((y.length:Int) != 0)
 | .byt y=>y.size<=da/\k=((y.size:Int) != 0)
 | .ref p=>(∃xs,lI K H p xs/\k = !xs.isEmpty)\/(∃xs,jJ K H p xs/\k = !xs.isEmpty) \/ ∃kvs,H p=Z (.dK kvs)/\k = !kvs.isEmpty
 |_=>False
theorem u4{κ:Type}{kvs:List (κ×V)}{vs:List (κ×cY)}(r:KV kvs vs):(!vs.isEmpty) = !kvs.isEmpty:=by
 cases r<;>rfl
theorem n6{xs:List V}{its:List cY}(r:dR xs its):(!its.toArray.isEmpty) = !xs.isEmpty:=by
 cases r<;>simp
theorem lW:(da:Nat)<2^63:=by rw[sizeLine_eq];decide
theorem y3:Lj X (λx H Q=>∃k,BH X.K x H k/\Q k H):=by
 intro Z8 s σ H x v Q I d h;obtain⟨k,e,q⟩:=h;have o:=lW;have u:da=16777216:=sizeLine_eq;cases x with
 |non=>
  cases d;have a:k=J:=e;subst a;exact truthy_none ⟨H,I,q⟩
 |bl b=>
  cases d;have a:k=b:=e;subst a;exact wpAny_truthy_bool ⟨H,I,q⟩
 |int i=>
  obtain⟨t,rfl⟩:=d;have a:k=(i != 0):=e;subst a;exact PySem.P.truthy_int ⟨H,I,q⟩
 |str y=>
  obtain⟨t,rfl⟩:=d;obtain⟨n,a⟩:y.length<=da/\k=((y.length:Int) != 0):=e;subst a;exact PySem.P.truthy_str (by lia) ⟨H,I.tok _,q⟩
 |byt y=>
  obtain⟨t,rfl⟩:=d;obtain⟨n,a⟩:y.size<=da/\k=((y.size:Int) != 0):=e;subst a;exact PySem.W.truthy_bytes (by lia) ⟨H,I.tok _,q⟩
 |ref p=>
  cases d;have a:(∃xs,lI X.K H p xs/\k = !xs.isEmpty)\/(∃xs,jJ X.K H p xs/\k = !xs.isEmpty) \/ ∃kvs,H p=Z (.dK kvs)/\k = !kvs.isEmpty:=e;rcases a with⟨xs,f,a⟩|⟨xs,f,a⟩|⟨kvs,f,a⟩
  ·subst a;obtain⟨g,r,pl,j⟩:=I.list f;have c:=r.length;exact wpAny_truthy_list pl.isList (by simp only[sT1];lia) ⟨H,I.tok _,by rw[n6 r];exact q⟩
  ·subst a;obtain⟨g,r,pl,j⟩:=I.tuple f;have c:=r.length;exact truthy_tuple pl (by simp only[sT1];lia) ⟨H,I.tok _,by rw[n6 r];exact q⟩
  ·subst a;obtain⟨j,l,vs,r,m⟩:kvs.length<=da/\(p == sysModules)=false /\ ∃vs,KV kvs vs/\s.heap.DictOf (eZ X.prog X.w) p vs:=I.hok p _ f;have c:kvs.length=vs.length:=Paired.length r;exact wpAny_truthy_dict l m (by lia) ⟨H,I.tok _,by rw[u4 r];exact q⟩
 |_=>exact(show False from e).elim
theorem zB(ha:PE X a ta)(he:∀ b,isTrue a X.env b=(do let v<-b;standAt a.pos;holding [v] (truthy v))):
  PT X a (fun σ H Q=>ta σ H λx H'=>∃k,BH X.K x H' k/\Q k H'):=by
 intro Z8 s σ H Q I h;exact isTrue_plain (eQ (ha Z8 s σ H _ I h) λv f ⟨x,H1,c,d,e⟩=>y3 Z8 f σ H1 x v Q c d e) (he _)
theorem uS:fY X (binaryOp .Add) (λx y H Q=>∃i j,x = .str i/\y = .str j/\i.length+j.length<=da/\Q (.str (i++j)) H):=by
 intro Z8 s σ H x y v u Q I a c h;obtain⟨i,j,rfl,rfl,b,q⟩:=h;obtain⟨t,rfl⟩:=a;obtain⟨d,rfl⟩:=c;exact add_str (λd tk=>⟨.str (i++j),H,I.tok _,⟨_,O⟩,q⟩) b
theorem gU{x:V}{a:List cY}(r:dR [x] a):∃u,a=[u]/\dG x u:=by
 cases r with
 |cons b r2=>cases r2;exact⟨_,O,b⟩
theorem yO{x y:V}{a:List cY}(r:dR [x,y] a):∃u w',a=[u,w']/\dG x u/\dG y w':=by
 cases r with
 |cons c r2=>
  cases r2 with
  |cons d b=>cases b;exact⟨_,_,O,c,d⟩
theorem yn(hc:X.calm=M):eh X (.builtin "max") (λxs H Q=>∃i j,xs=[.int i,.int j]/\Q (.int (if j>i then j else i)) H):=by
 intro Z8 s σ H xs b Q I r h;obtain⟨i,j,rfl,q⟩:=h;obtain⟨u,d,rfl,⟨t,rfl⟩,⟨c,rfl⟩⟩:=yO r;refine max_two_ints (I.ok.hd hc) λh' tk k=>⟨_,H,I.kept k,?_,q⟩;by_cases a:j>i
 ·rw[ae a,ae a];exact⟨_,O⟩
 ·rw[ab a,ab a];exact⟨_,O⟩
theorem ym(hc:X.calm=M):eh X (.builtin "min") (λxs H Q=>∃i j,xs=[.int i,.int j]/\Q (.int (if j<i then j else i)) H):=by
 intro Z8 s σ H xs b Q I r h;obtain⟨i,j,rfl,q⟩:=h;obtain⟨u,d,rfl,⟨t,rfl⟩,⟨c,rfl⟩⟩:=yO r;refine min_two_ints (I.ok.hd hc) λh' tk k=>⟨_,H,I.kept k,?_,q⟩;by_cases a:j<i
 ·rw[ae a,ae a];exact⟨_,O⟩
 ·rw[ab a,ab a];exact⟨_,O⟩
theorem pR:eh X (.type "int") (λxs H Q=>(∃i,xs=[.int i]/\Q (.int i) H) \/ ∃k,xs=[.bl k]/\Q (.int (if k then 1 else 0)) H):=by
 intro Z8 s σ H xs b Q I r h;rcases h with⟨i,rfl,q⟩|⟨k,rfl,q⟩
 ·obtain⟨u,rfl,t,rfl⟩:=gU r;exact call_int_int ⟨.int i,H,I,⟨_,O⟩,q⟩
 ·obtain⟨u,rfl,a⟩:=gU r;cases a;exact call_int_bool ⟨.int (if k then 1 else 0),H,I.tok _,⟨_,O⟩,q⟩
theorem rV:eh X (.type "str") (λxs H Q=>∃i,xs=[.int i]/\i.natAbs.log2<1920/\Q (.str (toString i)) H):=by
 intro Z8 s σ H xs b Q I r h;obtain⟨i,rfl,a,q⟩:=h;obtain⟨u,rfl,t,rfl⟩:=gU r;exact PySem.P.str_of_int a ⟨.str _,H,I.tok _,⟨_,O⟩,q⟩
end
end L2
namespace L2
open PySem PySem.Spec PyProof.Rows
structure HG (h:de)(x dx C:c0)(mA:Str->Option cY):Prop where
 obj:h.get? x=some (PySem.W.instObj C dx)
 ns:h.Ns1 dx mA
 ne:dx≠x
theorem xP{h:de}{dx:c0}{mA:Str->Option cY}(n:h.Ns1 dx mA):∃c,h.get? dx=Z c /\ ∀name,PySem.W.lookIn name c=Z (mA name):=by
 obtain⟨o,es,ep,f,d,g,_,k⟩:=n;refine⟨o,f,λname=>?_⟩;have e:=k name;unfold nsFind findBy at e;rw[<- Array.find?_toList]at e;unfold PySem.W.lookIn;rw[d];dsimp only;split
 ·rename_i y q;rw[q]at e;exact congrArg Z e
 ·rename_i q;rw [q] at e;have a:es.toList.any (·.refKey)=false:=by
   rw[List.any_eq_false];intro y j;obtain⟨z,t,b⟩:=g y (Array.mem_toList_iff.mp j);simp[DictEntry.refKey,b]
  have i:¬ es.toList.any (·.refKey)=M:=by rw[a];exact aD
  rw[ab i];exact congrArg Z e
theorem HG.look{h:de}{x dx C:c0}{mA:Str->Option cY}(I:HG h x dx C mA):∃a,PySem.W.InstAt h x (PySem.W.instObj C dx) C (Z a) /\ ∀name,PySem.W.lookIn name a=Z (mA name):=
 let ⟨a,ho,hl⟩:=xP I.ns
 ⟨a,⟨I.obj,O,O,ho⟩,hl⟩
section
variable{prog:c5}{w:c7}{A:c6}{E:cY->cZ->Prop}{s:cZ}{K:Fg1}{x dx C f:c0}{mA:Str->Option cY}{name:Str}{v:cY}
end
theorem kC.some_of{v:V}{o:Option cY}(r:kC (Z v) o):∃u,o=Z u/\dG v u:=by
 cases o with
 |none=>exact(show False from r).elim
 |some u=>exact⟨u,O,r⟩
section
variable{P:c5}{w:c7}{H H':Hp}{h h':de}{a C dx:c0}{fs fs':List (Str×V)}
theorem Dx(b:kE P w H h)(e:H a=Z (.ins C dx fs)):∃mA,HG h a dx C mA/\(∀f,kC (fs.lookup f) (mA f))/\PySem.Within mA (fs.map (·.1))/\fs.length<=1000/\H dx=Z (.own a):=by
 obtain⟨d,z,ne,c,mA,n,r,q⟩:=(show eA P w H h a (.ins C dx fs)from b a _ e);exact⟨mA,⟨c,n,ne⟩,r,q,z,d⟩
end
structure Lu (K:Fg1)(C:c0):Prop where
 pg:PySem.W.plainGet K C Str.empty=true
 hd:PySem.W.hasDictIn K C=true
 po:PySem.W.plainOver K C=true
 sa:PySem.W.findIn K (.ref C) "__setattr__"=some (some (.builtin "object.__setattr__"))
theorem Lu.get{K:Fg1}{C:c0}(c:Lu K C)(f:Str):PySem.W.plainGet K C f=M:=c.pg
section
variable{X:Cx}{Z8:List (c0×Obj)}{σ:St}{H:Hp}{s:cZ}{a C dx:c0}{fs:List (Str×V)}{f:Str}{v:V}{A:c6}{E:cY->cZ->Prop}
end
section
variable{X:Cx}{o e value:Expr}{f:Str}{pos pos' tpos:Pos}{ta tv:TE}
end
section
variable{X:Cx}{Z8:List (c0×Obj)}{σ:St}{H:Hp}{s:cZ}{A:c6}{E:cY->cZ->Prop}{Q:cY->cZ->Prop}{c:cY}{b:Bool}
inductive mX (K:Fg1)(H:Hp):V->cY->Prop where
 |non:mX K H .non (.type "NoneType")
 |bl (x:Bool):mX K H (.bl x) (.type "bool")
 |int (i:Int):mX K H (.int i) (.type "int")
 |str (x:Str):mX K H (.str x) (.type "str")
 |flt (x:UInt64):mX K H (.flt x) (.type "float")
 |lst {a:c0} {xs:List V} (e:H a=some (.lst xs)):mX K H (.ref a) (.type "list")
 |frz {a:c0} {o:Obj} {xs:List V} (e:H a=some (.frz o (.lst xs))):mX K H (.ref a) (.type "list")
 |tup {a:c0} {xs:List V} (e:H a=some (.tup xs)):mX K H (.ref a) (.type "tuple")
 |dK {a:c0} {kvs:List (Key×V)} (e:H a=some (.dK kvs)):mX K H (.ref a) (.type "dict")
 |dT {a:c0} {kvs:List (List Key×V)} (e:H a=some (.dT kvs)):mX K H (.ref a) (.type "dict")
 | ins {a C dx:c0} {fs:List (Str×V)} (e:H a=some (.ins C dx fs)) (cl:Lu K C) (ha:PySem.W.findIn K (.ref C) "__class__"=some (some (.builtin "object.__class__")))
   (hn:PySem.W.specialIn K (.builtin "object.__class__") "__get__"=some (some (.builtin "getset_descriptor.__get__"))) (htk:PySem.W.takesIn K (.builtin "object.__class__")=some true)
   (hm:PySem.W.mroIn K C (.type "object")=some true):mX K H (.ref a) (.ref C)
theorem iH{x:V}{u t:cY}(I:Inv X Z8 σ H s)(d:dG x u)(ty:mX X.K H x t)(e:PySem.W.kitOne X.K t c=some b)(h:∀ tk,Q (.bool b) {s with toks:=tk}):
  db (model X.prog X.w) A (call (.builtin "isinstance") [u,c]) Q E s:=by
 cases ty with
 |non=>cases(show u=Value.none from d);exact PySem.W.kia_one PySem.W.kitx_none I.kIn True.intro e (λz=>nomatch z) h
 |bl y=>cases(show u=Value.bool y from d);exact PySem.W.kia_one PySem.W.kitx_bool I.kIn True.intro e (λz=>nomatch z) h
 |int i=>obtain⟨t,q⟩:=(show∃t,u=Value.int i t from d);cases q;exact PySem.W.kia_one PySem.W.kitx_int I.kIn True.intro e (λz=>nomatch z) h
 |str y=>obtain⟨t,q⟩:=(show∃t,u=Value.str y t from d);cases q;exact PySem.W.kia_one PySem.W.kitx_str I.kIn True.intro e (λz=>nomatch z) h
 |flt y=>obtain⟨t,q⟩:=(show∃t,u=Value.float y t from d);cases q;exact PySem.W.kia_one PySem.W.kitx_float I.kIn True.intro e (λz=>nomatch z) h
 | @lst a xs f=>
  cases(show u=Value.ref a from d);obtain⟨_,_,n,_,h1⟩:=(show eA X.prog X.w H s.heap a (.lst xs)from I.hok a _ f);exact PySem.W.kia_one PySem.W.kitx_list I.kIn ⟨_,h1,O⟩ e (λz=>nomatch z) h
 | @frz a m xs f=>
  cases(show u=Value.ref a from d);obtain⟨_,_,_,n,_,h1⟩:=(show eA X.prog X.w H s.heap a (.frz m (.lst xs))from I.hok a _ f);exact PySem.W.kia_one PySem.W.kitx_list I.kIn ⟨_,h1,O⟩ e (λz=>nomatch z) h
 | @tup a xs f=>
  cases(show u=Value.ref a from d);obtain⟨_,_,_,p⟩:=(show eA X.prog X.w H s.heap a (.tup xs)from I.hok a _ f);obtain⟨o,h1,h2,_⟩:=p;exact PySem.W.kia_one PySem.W.kitx_tuple I.kIn ⟨o,h1,h2⟩ e (λz=>nomatch z) h
 | @dK a kvs f=>
  cases(show u=Value.ref a from d);obtain⟨_,_,vs,_,p⟩:=(show eA X.prog X.w H s.heap a (.dK kvs)from I.hok a _ f);obtain⟨o,es,ep,h1,h2,_⟩:=p;exact PySem.W.kia_one PySem.W.kitx_dict I.kIn ⟨o,h1,h2.1⟩ e (λz=>nomatch z) h
 | @dT a kvs f=>
  cases(show u=Value.ref a from d);obtain⟨_,_,xs,_,o,es,ep,h1,h2,_⟩:=(show eA X.prog X.w H s.heap a (.dT kvs)from I.hok a _ f);exact PySem.W.kia_one PySem.W.kitx_dict I.kIn ⟨o,h1,h2.1⟩ e (λz=>nomatch z) h
 | @ins a C dx fs f j k l g r=>
  cases(show u=Value.ref a from d);obtain⟨mA,aj,_⟩:=Dx I.hok f;obtain⟨v,ag,_⟩:=aj.look;exact PySem.W.kia_one (PySem.W.kitx_own (j.get _) j.hd k l g r) I.kIn ag e (λz=>nomatch z) h
end
end L2
namespace L2
open PySem PySem.Spec PyProof.Rows
structure fB (k:Nat)(A:c6):Prop where
 hd:A.handled=none
 dp:A.depth+3*k+5<recursionLimit
 un:A.units+16*k+200<cLine
 gd:A.guards=some []
theorem fB.mono{j k:Nat}{A:c6}(r:fB k A)(h:j<=k):fB j A:=⟨r.hd,by have:=r.dp;lia,by have:=r.un;lia,r.gd⟩
theorem fB.deeper{k:Nat}{A:c6}(r:fB (k+1) A)(env:Env):fB k (A.deeper env):=
 ⟨r.hd,by have:=r.dp;show A.depth+1+3*k+5<_;lia,by have:=r.un;show A.units+3+16*k+200<_;lia,r.gd⟩
theorem fB.depth{k:Nat}{A:c6}(r:fB k A):A.depth<recursionLimit:=by have:=r.dp;lia
theorem fB.units{k:Nat}{A:c6}(r:fB k A):A.units+64<cLine:=by have:=r.un;lia
def Kw:TA:=λ_ H Q=>Q [] H
def Ig(ta:TE)(tr:TA):TA:=fun σ H Q=>ta σ H λx H1=>tr σ H1 λxs H2=>Q (x::xs) H2
section
variable{X:Cx}{e:Expr}{es:List Expr}{te:TE}{t:TA}{pos:Pos}
theorem lQ:PA X [] Kw:=λ_ _ _ _ H Q I h=>Calls.spliced_nil ⟨[],H,I,.nil,h⟩
theorem iR(ha:PE X e te)(hr:PA X es t)(hs:c9 (e::es) X.env=(J,eval e X.env)::c9 es X.env:=by rfl):PA X (e::es) (Ig te t):=by
 intro pos Z8 s σ H Q I h;rw[hs];show db _ _ (spliced ((J,eval e X.env)::backTo pos (c9 es X.env))) _ _ s;refine Calls.spliced_cons (eQ (ha Z8 s σ H _ I h) λu g ⟨x,H1,b,c,f⟩=>?_);exact eQ (hr pos Z8 g σ H1 _ b f) λi j ⟨xs,H2,a,r2,d⟩=>⟨x::xs,H2,a,.cons c r2,d⟩
def Kr(t:TA):TE:=fun σ H Q=>t σ H λxs H1=>xs.length<=da /\ ∀p,H1 p=Y->Q (.ref p) (upd H1 p (.tup xs))
def KA(t:TA):TE:=fun σ H Q=>t σ H λxs H1=>xs.length<=da /\ ∀p,H1 p=Y->Q (.ref p) (upd H1 p (.lst xs))
theorem FP{x1}(h:PA X es t):PE X (.Tuple es x1 pos) (Kr t):=by
 intro Z8 s σ H Q I g;refine wpAny_Tuple_spliced (eQ (h pos Z8 s σ H _ I g) λf a ⟨xs,H1,c,r,z,q⟩=>⟨by rw[<- r.length];exact z,?_⟩);have d:H1 a.heap.objs.size=Y:=c.hok.fresh (nR1 _);refine⟨.ref a.heap.objs.size,upd H1 a.heap.objs.size (.tup xs),c.laid (t':=a.toks) (λb u e=>hP1 _ e) (nR1 _) ?_,O,q _ d⟩;exact⟨z,f,r,⟨_,hS1 _ O,O,_,O⟩⟩
theorem FY(h:PA X es t):PE X (.List es pos) (KA t):=by
 intro Z8 s σ H Q I g;refine wpAny_List_spliced (eQ (h pos Z8 s σ H _ I g) λf a ⟨xs,H1,c,r,z,q⟩=>⟨by rw[<- r.length];exact z,?_⟩);have d:H1 a.heap.objs.size=Y:=c.hok.fresh (nR1 _);refine⟨.ref a.heap.objs.size,upd H1 a.heap.objs.size (.lst xs),c.laid (t':=a.toks) (λb u e=>hP1 _ e) (nR1 _) ?_,O,q _ d⟩;exact⟨z,f,0,r,hS1 _ O⟩
end
abbrev Sp:=List V->Hp->VK->XK->Prop
abbrev yu:=List Env->Hp->cZ->XK->cY->cZ->Prop
structure Ec (P:c5)(w:c7)(K:Fg1)(mg:Str->Option cY)(base:de)(A:c6)(outer:List Env)(s:cZ)(H:Hp):Prop where
 frames:A.frames=some outer
 mod:Mod K mg base
 bs:∀b o,base.get? b=some o->s.heap.get? b=some o/\H b=none
 bsz:base.objs.size<=s.heap.objs.size
 funs:s.heap.FunFrames base outer
 frf:∀b∈frs outer,H b=none
 hok:kE P w H s.heap
 bare:AllBare s.gens
def CE(outer:List Env)(P:c5)(w:c7)(H:Hp)(s:cZ)(Q:VK)(u:cY)(s':cZ):Prop:=
 ∃v H',s'.os=s.os/\AllBare s'.gens/\Un (frs outer) [] H H' s.heap s'.heap/\kE P w H' s'.heap/\dG v u/\Q v H'
def CR(CX:yu)(outer:List Env)(P:c5)(w:c7)(H:Hp)(s:cZ)(Q:VK)(E:XK)(r:Result)(s':cZ):Prop:=
 match r with
 | .ok (.ret u)=>CE outer P w H s Q u s'
 | .ok _=>False
 | .error e=>CX outer H s E e s'
structure jK (P:c5)(w:c7)(K:Fg1)(mg:Str->Option cY)(base:de)(CX:yu)(k:Nat)(f:c0)(fd:df)(ps:List Str)(sp:Sp):Prop where
 len:∀vs H Q E,sp vs H Q E->vs.length=ps.length
 run:∀(A:c6) (outer:List Env) (s:cZ) (H:Hp) (args:Args) (us:List cY) (vs:List V) (Q:VK) (E:XK),fB k A->Ec P w K mg base A outer s H->BindsTo s fd args (ps.zip us)->dR vs us->sp vs H Q E ->
  codeAny (model P w) A (.call (.ref f) args) (CR CX outer P w H s Q E) s
theorem jK.imp{P:c5}{w:c7}{K:Fg1}{mg:Str->Option cY}{base:de}{CX:yu}{k:Nat}{f:c0}{fd:df}{ps:List Str}{sp sp':Sp}(F:jK P w K mg base CX k f fd ps sp)(h:∀vs H Q E,sp' vs H Q E->sp vs H Q E):jK P w K mg base CX k f fd ps sp':=
 ⟨λvs H Q E q=>F.len vs H Q E (h _ _ _ _ q),λA a s H b e vs Q E i g c d j=>F.run A a s H b e vs Q E i g c d (h _ _ _ _ j)⟩
section
variable{X:Cx}{Z8:List (c0×Obj)}{σ:St}{H:Hp}{s s':cZ}
theorem Inv.env0(I:Inv X Z8 σ H s):Ec X.prog X.w X.K X.mg X.base X.A X.stack s H:=
 ⟨I.ok.frames,I.ok.mod,I.bs,av I.ok.bsz I.sz,I.stack,I.stkFree,I.hok,I.bare⟩
theorem Inv.after{Q:VK}{u:cY}(I:Inv X Z8 σ H s)(h:CE X.stack X.prog X.w H s Q u s'):EP X Z8 σ Q u s':=by
 obtain⟨v,H',i,a,un,c,r,q⟩:=h;obtain⟨f,g,d,t,e⟩:=s';obtain rfl:e=s.os:=i;exact⟨v,H',I.call (h':=f) (g':=g) (d':=d) (t':=t) (ch:=[]) un c a (λb z=>absurd z (by simp)),r,q⟩
end
def Ei(sp:Sp)(dvs:List V)(E:XK)(t:TA):TE:=fun σ H Q=>t σ H λvs H1=>sp (vs++dvs) H1 Q E
def jd(K:Fg1)(fd:df)(ps:List Str)(ds:List cY):Prop:=
 ∀(s:cZ) (us:List cY),K.In s.heap->(us++ds).length=ps.length->BindsTo s fd ⟨us,[]⟩ (ps.zip (us++ds))
theorem jd.all{K:Fg1}{fd:df}{ps:List Str}(h:∀a:List cY,a.length=ps.length->bindArgs fd ⟨a,[]⟩=pure (ps.zip a)):jd K fd ps []:=λs a _ b=>by
 rw[aG]at b ⊢;exact .of_eq (h a b)
def sm(CX:yu)(X:Cx)(E:XK):Prop:=∀(Z8:List (c0×Obj)) (σ:St) (H:Hp) (s:cZ) (e:cY) (s':cZ),Inv X Z8 σ H s->CX X.stack H s E e s'->X.xe e s'
section
variable{X:Cx}{CX:yu}{k:Nat}{f C:c0}{fd:df}{ps:List Str}{sp:Sp}{dvs:List V}{ds:List cY}{E:XK}{x m:Str}{p pos apos:Pos}{e o:Expr}{es:List Expr}{ta:TE}{t:TA}
theorem zv{Z8:List (c0×Obj)}{σ:St}{H:Hp}{s:cZ}{Q:VK}{a:List cY}{vs:List V}(F:jK X.prog X.w X.K X.mg X.base CX k f fd ps sp)(hr:fB k X.A)(hb:jd X.K fd ps ds)(hd:dR dvs ds)(hx:sm CX X E)(I:Inv X Z8 σ H s)(r:dR vs a)(h:sp (vs++dvs) H Q E):db (model X.prog X.w) X.A (call (.ref f) a) (EP X Z8 σ Q) X.xe s:=by
 have r2:dR (vs++dvs) (a++ds):=r.append hd;have d:(a++ds).length=ps.length:=by rw[<- r2.length];exact F.len _ _ _ _ h
 refine wpAny_call (codeAny_mono (F.run X.A X.stack s H ⟨a,[]⟩ (a++ds) (vs++dvs) Q E hr I.env0 (hb s a I.kIn d) r2 h) λr s' b=>?_);cases r with
 |error e=>exact hx Z8 σ H s e s' I b
 |ok c=>
  cases c with
  |ret u=>exact I.after b
  |next=>exact False.elim b
  |brk=>exact False.elim b
  |cont=>exact False.elim b
theorem CK (F:jK X.prog X.w X.K X.mg X.base CX k f fd ps sp)(hr:fB k X.A)(hg:Gl X x)(hm:X.mg x=some (.ref f))(hk:wK1 X.K (.ref f)=true)(hb:jd X.K fd ps ds)(hd:dR dvs ds)(hx:sm CX X E)
  (ha:PA X (e::es) t) (hdb:(x == ("__debug__":Str))=J:=by decide) (he:c9 (e::es) X.env=(J,eval e X.env)::c9 es X.env:=by rfl) (hpl:(backTo pos (c9 es X.env)).any (·.1)=J:=by rfl):
  PE X (.Call (.Name x p) (e::es) [] pos) (Ei sp dvs E t):=by
 intro Z8 s σ H Q I h;refine wpAny_Call_Name_kw (wz I hg hm ?_ hdb);refine PySem.W.callWith_K (h₀:=X.base) I.ok.mod.kin hk (eQ (ha pos Z8 s σ H _ I h) λc b ⟨vs,H1,a,r,q⟩=>⟨a.kIn,?_⟩) he hpl;exact zv F hr hb hd hx a r q
end
section
variable{X:Cx}{CX:yu}{k:Nat}{f C:c0}{fd:df}{ps ks:List Str}{sp:Sp}{E:XK}{x m:Str}{p pos apos kpos:Pos}{e o:Expr}{es:List Expr}{kws:List Keyword}{te ta:TE}{t tk:TA}{nm:Option Str}
variable{g:List cY->List cY->List cY}{gV:List V->List V->List V}
end
structure gv (N P:List Str)(sc:dh):Prop where
 kind:sc.kind = .function
 co:sc.isCoroutine=false
 gen:sc.isGenerator=false
 nd:N.Nodup
 pre:N.take P.length=P
 par:∀x∈P,sc.names.lookup x=some .local\/sc.names.lookup x=some .cell
 nofree:∀y∈sc.names,y.2 ≠ .free
theorem pT{kindOf:Str->Option NameKind}{x:Str}:∀{binds:List (Str×cY)} {m:Str->Option cY},(∀v,(x,v)∉binds)->bindL kindOf binds m x=m x
 |[],_,_=>rfl
 |(n,v)::r,m,h=>by
  unfold bindL;rw[pT λw a=>h w (mC1 _ a)];split
  ·have:x≠n:=by rintro rfl;exact h v mS1
   simp[this]
  ·rfl
theorem pV{kindOf:Str->Option NameKind}{x:Str}:∀{binds:List (Str×cY)} {m:Str->Option cY},(∀v,(x,v)∉binds)->bindC kindOf binds m x=m x
 |[],_,_=>rfl
 |(n,v)::r,m,h=>by
  unfold bindC;rw[pV λw a=>h w (mC1 _ a)];split
  ·rfl
  ·have:x≠n:=by rintro rfl;exact h v mS1
   simp[this]
theorem pU{kindOf:Str->Option NameKind}{x:Str}{v:cY}:∀ {P:List Str} {vs:List cY} {i:Nat} {m:Str->Option cY},P.Nodup->P[i]? = some x->vs[i]? = some v->kindOf x=some .local ->
  bindL kindOf (P.zip vs) m x=Z v
 |[],_,_,_,_,h,_,_=>by simp at h
 |_::_,[],_,_,_,_,h,_=>by simp at h
 |p::P,w::vs,0,m,nd,h1,h2,hk=>by
  simp at h1 h2;subst h1;subst h2;show bindL kindOf ((p,w)::P.zip vs) m p=_;unfold bindL;rw[pT λv a=>(aH.mp nd).1 (aI a).1,ae hk];simp
 |p::P,w::vs,i+1,m,nd,h1,h2,hk=>by
  show bindL kindOf ((p,w)::P.zip vs) m x=_;unfold bindL;exact pU (i:=i) (aH.mp nd).2 (by simpa using h1) (by simpa using h2) hk
theorem pW{kindOf:Str->Option NameKind}{x:Str}{v:cY}:∀ {P:List Str} {vs:List cY} {i:Nat} {m:Str->Option cY},P.Nodup->P[i]? = some x->vs[i]? = some v->kindOf x≠some .local ->
  bindC kindOf (P.zip vs) m x=Z v
 |[],_,_,_,_,h,_,_=>by simp at h
 |_::_,[],_,_,_,_,h,_=>by simp at h
 |p::P,w::vs,0,m,nd,h1,h2,hk=>by
  simp at h1 h2;subst h1;subst h2;show bindC kindOf ((p,w)::P.zip vs) m p=_;unfold bindC;rw[pV λv a=>(aH.mp nd).1 (aI a).1,ab hk];simp
 |p::P,w::vs,i+1,m,nd,h1,h2,hk=>by
  show bindC kindOf ((p,w)::P.zip vs) m x=_;unfold bindC;exact pW (i:=i) (aH.mp nd).2 (by simpa using h1) (by simpa using h2) hk
def jj(N:List Str)(vs:List V):St:=vs.map Z++aJ (N.length-vs.length) Y
def mW(CX:yu)(P:c5)(w:c7)(K:Fg1)(mg:Str->Option cY)(base:de)(N:List Str)(qual:Str)(scope:dh)(f:c0)(cd:cY)(A:c6)(outer:List Env)(s:cZ)(H:Hp)(E:XK):Cx where
 prog:=P
 w:=w
 K:=K
 mg:=mg
 base:=base
 A:=A.deeper (envOfC qual scope s.heap.objs.size f cd)
 N:=N
 s₀:=s
 H₀:=H
 env:=envOfC qual scope s.heap.objs.size f cd
 outer:=outer
 stack:=envOfC qual scope s.heap.objs.size f cd::outer
 ex:=[]
 calm:=M
 fn:=λ_=>M
 pn:=[]
 xe:=λe s'=>db (model P w) (A.deeper (envOfC qual scope s.heap.objs.size f cd)) (leaving (envOfC qual scope s.heap.objs.size f cd) e) (λ_ s''=>CX outer H s E e s'') (λe' s''=>CX outer H s E e' s'') s'
theorem ud{a:dh}{n:Nat}{x:Str}(h:a.names.lookup x=Z .cell):∃c,(cellsFrom n a.names []).lookup x=Z c:=by
 have q:=PySem.W.cellsFrom_some a.names n [] (.inl h);exact aK.mp q
theorem xU{CX:yu}{P:c5}{w:c7}{K:Fg1}{mg:Str->Option cY}{base:de}{N ps:List Str}{g:Str}{scope:dh}{f:c0}{t:cY}{A:c6}{d:List Env}{s s1:cZ}{H:Hp}{E:XK}{B:List cY}{vs:List V}(S:gv N ps scope)(hd:A.handled=none)(e0:Ec P w K mg base A d s H)(L:vs.length=ps.length)(r:dR vs B)(x:InCallC s s.heap.objs.size (bindL (envOfC g scope s.heap.objs.size f t).kindOf (ps.zip B) fun _=>none) (cellsFrom (s.heap.objs.size+1) scope.names []) (bindC (envOfC g scope s.heap.objs.size f t).kindOf (ps.zip B) fun _=>none) s1):
  Inv (mW CX P w K mg base N g scope f t A d s H E) [] (jj N vs) H s1:=by
 have G:ps.length<=N.length:=by have:=congrArg List.length S.pre;rw[aL]at this;lia
 obtain⟨h1,tk,rfl,D⟩:=x.done;have j:∀b:c0,b∉(mW CX P w K mg base N g scope f t A d s H E).ex:=λb z=>absurd (show b∈([]:List c0)from z) (by simp);refine⟨⟨e0.mod,S.kind,O,O,nR1 _,λy z c h1 h2=>?_,λy l=>?_,λy c _ h=>?_,λ_=>hd,Around.frames_deeper e0.frames,.inr ⟨O,O⟩,λb z=>absurd z (j b),e0.bs,e0.bsz,λb _ _=>j b,λb z=>absurd z (j b),e0.funs,e0.frf⟩,
  rfl,e0.bare,Un.kept D,⟨_,x.toInCall.ns,λi y v h1 h2 ag=>?_⟩,λy c h=>⟨_,x.cell y c h⟩,e0.hok.fresh (nR1 _),λy c h=>?_,λp o=>absurd (show p∈([]:List (c0×Obj))from o) (by simp),e0.hok.kept D,?_⟩
 ·exact name_of_addr x.apart (PySem.mem_of_lookup h1) (PySem.mem_of_lookup h2)
 ·have l:scope.names.lookup y=Z .cell\/scope.names.lookup y=Z .free:=l;rcases l with l|l
  ·exact ud l
  ·exact absurd O (S.nofree _ (PySem.mem_of_lookup l))
 ·exact Nat.le_of_lt (x.above y c (PySem.mem_of_lookup h))
 ·have hi:i<vs.length:=by
   unfold jj at h2;by_cases hi:i<vs.length
   ·exact hi
   ·rw[gR1 (by simpa using hi)]at h2;rw[aM]at h2;split at h2<;>cases h2
  have F:vs[i]?=Z v:=by
   unfold jj at h2;rw[gL1 (by simpa using hi),gP1]at h2;cases e:vs[i]? with
   |none=>rw[e]at h2;cases h2
   |some a=>rw[e]at h2;cases h2;rfl
  obtain⟨u,C,I⟩:=r.get F;have o:ps[i]?=Z y:=by
   rw[<- S.pre,aN (by lia)];exact h1
  have m:ps.Nodup:=by rw[<- S.pre];exact S.nd.sublist (List.take_sublist _ _)
  refine⟨u,I,?_⟩;rcases S.par y (gM1 o)with k|k
  ·exact .inl ⟨k,pU m o C k⟩
  ·obtain⟨c,e⟩:=ud (n:=s.heap.objs.size+1) k;refine .inr ⟨.inl k,c,e,?_⟩;have q:=x.cell y c e;rw[pW m o C (by show scope.names.lookup y≠_;rw[k];decide)]at q;exact q
 ·exact e0.hok.fresh (Nat.le_of_lt (x.above y c (PySem.mem_of_lookup h)))
 ·unfold jj;show _=N.length;rw[lA1,lM1,lR1];lia
theorem Jz{CX:yu}{P:c5}{w:c7}{K:Fg1}{mg:Str->Option cY}{base:de}{k:Nat}{f:c0}{name c:Str}{params:Arguments}{g:List dg}{scope:dh}{T kV z ah d ct oc:cY}{L W:Option c0}{C:Array (Option cY)}{N ps:List Str}{sp:Sp}(lk:K.lookup f=some ⟨oc,W,.func (wF1 name c params g scope T kV z ah L d ct),C⟩)(hcd:wC1 K d c=true)(S:gv N ps scope)(len:∀vs H Q E,sp vs H Q E->vs.length=ps.length)(i:∀(A:c6) (a:List Env) (s:cZ) (H:Hp) (vs:List V) (Q:VK) (E:XK),fB k (A.deeper (envOfC c scope s.heap.objs.size f d))->sp vs H Q E ->
   ∃t,uw (mW CX P w K mg base N c scope f d A a s H E) g t/\t {nx:=λ_ H'=>Q .non H',rt:=Q} (jj N vs) H):
  jK P w K mg base CX (k+1) f (wF1 name c params g scope T kV z ah L d ct) ps sp:=by
 refine⟨len,λA a s H R ai vs Q E F m U r p=>?_⟩;have hl:=len _ _ _ _ p;have aj:K.In s.heap:=m.mod.kin.keeps λb o e=>(m.bs b o e).1;have D:s.heap.NoLimit:=m.mod.nolimit.keeps λb o e=>(m.bs b o e).1;have j:∀y∈ps.zip ai,scope.names.lookup y.1=Z .local\/(scope.names.lookup y.1=Z .cell/\((cellsFrom (s.heap.objs.size+1) scope.names []).lookup y.1).isSome=M):=λ⟨n,v⟩ X=>by
  rcases S.par n (aI X).1 with q|q
  ·exact .inl q
  ·exact .inr ⟨q,PySem.W.cellsFrom_some _ _ _ (.inl q)⟩
 refine codeAny_call_function F.depth (aj _ _ lk) O S.co S.gen O (PySem.W.codeRec_of aj hcd) (U _ _ _ _ ?_);refine wpAny_newFunctionEnv_cells S.kind j λenv wq s1 x=>?_;subst wq;refine⟨D.keeps x.toInCall.keep,codeAny_func ?_⟩;obtain⟨t,ht,hq⟩:=i A a s H vs Q E (F.deeper _) p;have I:Inv (mW CX P w K mg base N c scope f d A a s H E) [] (jj N vs) H s1:=xU S F.hd m hl r x;refine wpAny_mono (ht [] s1 (jj N vs) H _ I hq) (λfl s' l=>?_) λe s' l=>l;have B:∀{h:St} {H':Hp} {v:V} {u:cY},Inv (mW CX P w K mg base N c scope f d A a s H E) [] h H' s'->dG v u->Q v H'->CE a P w H s Q u s':=
  λ{h H' v u} ag G q=>⟨v,H',ag.os,ag.bare,ag.base,ag.hok,G,q⟩
 cases fl with
 |ret u=>
  obtain⟨v,h,H',ag,G,q⟩:=l;exact B ag G q
 |next=>
  obtain⟨h,H',ag,q⟩:=l;exact B (v:=V.non) (u:=Value.none) ag O q
 |brk=>
  obtain⟨_,_,_,q⟩:=l;exact False.elim q
 |cont=>
  obtain⟨_,_,_,q⟩:=l;exact False.elim q
end L2
namespace L2
open PySem PySem.Spec PyProof.Rows
section
variable{X:Cx}{x:Str}{p pos:Pos}{e:Expr}{es:List Expr}{t:TA}{id T:String}{r:List V->Hp->VK->Prop}
def LA(r:List V->Hp->VK->Prop)(t:TA):TE:=fun σ H Q=>t σ H λvs H1=>r vs H1 Q
theorem nO (hc:eh X (.builtin id) r)(hg:Gl X x)(hm:X.mg x=none)(hv:bootBuiltins x=some (.builtin id))(ha:PA X (e::es) t)(hn:x≠"__name__":=by decide)(hdb:(x == ("__debug__":Str))=false:=by decide)
  (he:c9 (e::es) X.env=(J,eval e X.env)::c9 es X.env:=by rfl) (hpl:(backTo pos (c9 es X.env)).any (·.1)=J:=by rfl):PE X (.Call (.Name x p) (e::es) [] pos) (LA r t):=by
 intro Z8 s σ H Q I h;refine wpAny_Call_Name_kw (jx I hg hm hv ?_ hn hdb);exact PyProof.Rows.callWith_builtin1 (eQ (ha pos Z8 s σ H _ I h) λc f ⟨vs,H1,a,b,d⟩=>hc Z8 f σ H1 vs c Q a b d) he hpl
theorem jR (hc:eh X (.type T) r)(hg:Gl X x)(hm:X.mg x=none)(hv:bootBuiltins x=some (.type T))(ha:PA X (e::es) t)(hn:x≠"__name__":=by decide)(hdb:(x == ("__debug__":Str))=false:=by decide)
  (he:c9 (e::es) X.env=(J,eval e X.env)::c9 es X.env:=by rfl) (hpl:(backTo pos (c9 es X.env)).any (·.1)=J:=by rfl):PE X (.Call (.Name x p) (e::es) [] pos) (LA r t):=by
 intro Z8 s σ H Q I h;refine wpAny_Call_Name_kw (jx I hg hm hv ?_ hn hdb);exact PyProof.Rows.callWith_type1 (eQ (ha pos Z8 s σ H _ I h) λc f ⟨vs,H1,a,b,d⟩=>hc Z8 f σ H1 vs c Q a b d) he hpl
end
end L2
namespace HT
open PySem PyProof.Rows
section
open PySem.SeqAt
open PySem.AutoSeq1 (wpAny_loadPart')
open PySem.MeetsSeq PySem.MeetsSeq2 PySem.MeetsSeq3
end
section
variable{prog:c5}{w:c7}{A:c6}{E:cY->cZ->Prop}{s:cZ}
theorem DW {t b:c0}{vs ws:List cY}{Q:cY->cZ->Prop}(ht:IsTup s.heap t vs.toArray)(hb:IsTup s.heap b ws.toArray)(hv:vs≠[])
  (h1:ws=[]->Q (.ref t) s) (h2:ws≠[]->Q (.ref s.heap.objs.size) {s with heap:=s.heap.push {cls:=.type "tuple",data:=.seq (vs++ws).toArray}})
  (hsz:vs.length+ws.length<=da):db (model prog w) A (binaryOp .Add (.ref t) (.ref b)) Q E s:=by
 obtain⟨⟨cls,m,data,p⟩,h,hc,n,k⟩:=id ht;obtain⟨⟨l,c,j,f⟩,a,g,o,d⟩:=id hb;simp only at hc k g d;subst hc k g d;have e:vs.toArray++ws.toArray=(vs++ws).toArray:=by simp
 by_cases i:ws=[]
 ·exact concat_meets ⟨_,h,rfl⟩ ⟨_,a,rfl⟩ noFill_tuple_add seq_tuple_add PySem.F.slot_tuple_add PySem.F.entry_tuple_add (PySem.F.args_tuple_add_2 _ _)
   (tuple_addW1 t b vs.toArray ws.toArray n o m c p f (by simpa using hv) (by simp[i])) ⟨h,a,h1 i⟩
 ·refine concat_meets ⟨_,h,rfl⟩ ⟨_,a,rfl⟩ noFill_tuple_add seq_tuple_add PySem.F.slot_tuple_add PySem.F.entry_tuple_add (PySem.F.args_tuple_add_2 _ _)
   (tuple_addW2 t b vs.toArray ws.toArray n o m c p f (by simpa using hv) (by simpa using i) (by rw[sT1,sT1];exact hsz)) ⟨h,a,?_⟩
  rw[e];exact h2 i
def sIx(n d:Nat):Option Int->Nat
 |none=>d
 |some v=>if v<0 then(v+(n:Int)).toNat else min v.toNat n
theorem sH(n d:Nat):sIx n d Y=d:=rfl
theorem vW(n d k:Nat):sIx n d (Z (k:Int))=min k n:=by
 show(if(k:Int)<0 then((k:Int)+(n:Int)).toNat else min (k:Int).toNat n)=min k n;rw[ab (by lia),Int.toNat_natCast]
theorem Fm(n d:Nat)(hd:d<=n)(o:Option Int):sIx n d o<=n:=by
 cases o with
 |none=>exact hd
 |some v=>
  show(if v<0 then(v+(n:Int)).toNat else min v.toNat n)<=n;by_cases a:v<0
  ·rw[ae a];lia
  ·rw[ab a];exact Nat.min_le_right _ _
theorem wW(v:Int)(n d:Nat):(if v<0 then max (v+(n:Int)) 0 else min v (n:Int))=((sIx n d (Z v):Nat):Int):=by
 show(if v<0 then max (v+(n:Int)) 0 else min v (n:Int))=(((if v<0 then(v+(n:Int)).toNat else min v.toNat n):Nat):Int);by_cases a:v<0
 ·simp only[ae a];lia
 ·simp only[ab a];lia
theorem vq(lo hi:Option Int)(n:Nat):Builtin.Slice.sliceAdjust lo hi 1 (n:Int)=(((sIx n 0 lo:Nat):Int),((sIx n n hi:Nat):Int)):=by
 have h1:¬ ((1:Int)<0):=by lia
 unfold Builtin.Slice.sliceAdjust;simp only[h1,if_false];refine Prod.ext ?_ ?_
 ·cases lo with
  |none=>rfl
  |some v=>exact wW v n 0
 ·cases hi with
  |none=>rfl
  |some v=>exact wW v n n
theorem uN(i j:Nat):Builtin.Slice.slicePlaces (i:Int) (j:Int) 1=j-i:=by
 unfold Builtin.Slice.slicePlaces;have h1:(1:Int)>0:=by lia
 simp only[h1,if_true,Int.ediv_one];split<;>lia
theorem gX{v:cY}{o:Option Int}{Q:Option Int->cZ->Prop}(p:IsPart v o)(h:Q o s):db (model prog w) A (Builtin.Slice.slicePartIndex v) Q E s:=by
 cases p with
 |none=>exact slicePart_none h
 |int i t=>exact slicePart_int h
theorem iy{e:c0}{c d:cY}{lo hi:Option Int}{n:Nat}{Q:Int×Int×Nat->cZ->Prop}(hs:s.heap.IsSliceOf e c d .none)(pl:IsPart c lo)(f:IsPart d hi)(h:Q (((sIx n 0 lo:Nat):Int),1,sIx n n hi-sIx n 0 lo) s):db (model prog w) A (Builtin.Slice.sliceApplied (.ref e) (pure (n:Int))) Q E s:=by
 obtain⟨i,a,g,b⟩:=id hs;unfold Builtin.Slice.sliceApplied Builtin.Slice.sliceFields;refine wB1 (wB1 (wpAny_field a b (x:=c) O (wB1 (wpAny_field a b (x:=d) O (wB1 (wpAny_field a b (x:=.none) O (wP1 ?_)))))));refine wB1 (slicePart_none ?_);show db _ _ (if((1:Int) == 0)=M then _ else _) _ _ s;rw[ab (by decide)];refine wB1 (gX pl (wB1 (gX f (wB1 (wP1 ?_)))));show db _ _ (match Builtin.Slice.sliceAdjust lo hi 1 (n:Int)with|(lo,hi)=>pure (lo,(1:Int),Builtin.Slice.slicePlaces lo hi 1)) _ _ s;rw[vq lo hi n];show db _ _ (pure (((sIx n 0 lo:Nat):Int),(1:Int),Builtin.Slice.slicePlaces ((sIx n 0 lo:Nat):Int) ((sIx n n hi:Nat):Int) 1)) _ _ s;rw[uN];exact wP1 h
theorem zK(xs:Array cY)(i k:Nat):((Z7 k).filterMap λ(m:Nat)=>xs[((i:Int)+(m:Int)*1).toNat]?).toArray=((xs.toList.drop i).take k).toArray:=by
 have e:(λ(m:Nat)=>xs[((i:Int)+(m:Int)*1).toNat]?)=λm=>xs[i+m]?:=by
  funext m
  have:((i:Int)+(m:Int)*1).toNat=i+m:=by lia
  rw[this]
 rw[e];have:=pick_run xs i k;rw[aO]at this;have a:((λx=>xs[x]?)∘λx=>i+x)=λm=>xs[i+m]?:=rfl;rw[a]at this;rw[this]
theorem lr {t f:c0}{items:Array cY}{g i:cY}{lo hi:Option Int}{Q:cY->cZ->Prop}(ht:IsTup s.heap t items)(hs:s.heap.IsSliceOf f g i .none)(pl:IsPart g lo)(k:IsPart i hi)
  (hw:¬ (sIx items.size 0 lo=0/\sIx items.size items.size hi=items.size))
  (h:Q (.ref s.heap.objs.size) {s with heap:=s.heap.push {cls:=.type "tuple",data:=.seq ((items.toList.drop (sIx items.size 0 lo)).take (sIx items.size items.size hi-sIx items.size 0 lo)).toArray}})
  (hsz:items.size<=da):db (model prog w) A (getItem (.ref t) (.ref f)) Q E s:=by
 have a:sizeOk (.seq ((items.toList.drop (sIx items.size 0 lo)).take (sIx items.size items.size hi-sIx items.size 0 lo)).toArray):=by
  show((items.toList.drop (sIx items.size 0 lo)).take (sIx items.size items.size hi-sIx items.size 0 lo)).toArray.size<=da;rw[sT1,aL,aP,aC];omega
 have p:sIx items.size items.size hi<=items.size:=Fm _ _ (nR1 _) hi;obtain⟨j,b,d,l⟩:=id hs;have c:s.TypeIs (.ref f) "slice":=⟨j,b,d⟩;unfold getItem
 try with_reducible refine wpAny_holding ?_
 first|refine wB1 (wP1 ?_)|skip
 refine wB1 (wpAny_sequenceKey ht.typeIs (by decide) ?_);refine wB1 (wpAny_callSpecial?_slot (name:=Str.ofString "__getitem__") ht.typeIs PyProof.Rows.slot_tuple_getitem
  (wE1 PyProof.Rows.slot_tuple_getitem ht.typeIs entry_tuple_getitem ?_ (args_tuple_getitem _ _)))
 show db _ _ (Builtin.Tuple.tupleItemsOf (.ref t) >>= _) _ _ s;refine wB1 (tupleItemsOf_ ht ?_);refine wB1 (wpAny_typeOf c ?_);rw[ae (by decide)];refine wB1 (iy hs pl k ?_);have e:¬ ((((sIx items.size 0 lo:Nat):Int) == 0&&(1:Int) == 1&&(sIx items.size items.size hi-sIx items.size 0 lo) == items.size)=M):=by
  intro q;rw[bA1,bA1]at q;have o:((sIx items.size 0 lo:Nat):Int)=0:=eq_of_beq q.1.1;have n:sIx items.size items.size hi-sIx items.size 0 lo=items.size:=eq_of_beq q.2;exact hw ⟨by omega,by omega⟩
 show db _ _ (if(((sIx items.size 0 lo:Nat):Int) == 0&&(1:Int) == 1&&(sIx items.size items.size hi-sIx items.size 0 lo) == items.size)=M then _ else _) _ _ s;rw[ab e,zK]
 first
  |exact wB1 (m:=Builtin.Tuple.tupleExact _) (wO1 (wP1 ⟨_,rfl,wP1 h⟩) a)
  |exact wB1 (m:=Builtin.Tuple.tupleExact _) (wO1 (wB1 (wP1 (wP1 ⟨_,rfl,wP1 h⟩))) a)
  |exact wB1 (wB1 (m:=Builtin.Tuple.tupleExact _) (wO1 (wP1 (wP1 ⟨_,rfl,wP1 h⟩)) a))
  |exact wB1 (wB1 (m:=Builtin.Tuple.tupleExact _) (wO1 (wP1 ⟨_,rfl,wP1 h⟩) a))
end
end HT
namespace L2
open PySem PySem.Spec PyProof.Rows
abbrev TO:=St->Hp->(Option Int->Hp->Prop)->Prop
def PO(X:Cx)(e:Option Expr)(t:TO):Prop:=
 ∀(Z8:List (c0×Obj)) (s:cZ) (σ:St) (H:Hp) (Q:Option Int->Hp->Prop),Inv X Z8 σ H s->t σ H Q ->
  db (model X.prog X.w) X.A (evalPart e X.env) (λu s'=>∃o H',Inv X Z8 σ H' s'/\IsPart u o/\Q o H') X.xe s
def B2:TO:=λ_ H Q=>Q Y H
def H0(t:TE):TO:=fun σ H Q=>t σ H λx H1=>∃i,x = .int i/\Q (Z i) H1
section
variable{X:Cx}{e:Expr}{te:TE}{lo hi:Option Expr}{tl th:TO}{pos p2:Pos}
theorem Cy:PO X Y B2:=by
 intro Z8 s σ H Q I h;rw[evalPart_none];exact wP1 ⟨Y,H,I,.none,h⟩
theorem Cw(h:PE X e te):PO X (Z e) (H0 te):=by
 intro Z8 s σ H Q I b;rw[evalPart_some];refine eQ (h Z8 s σ H _ I b) λu f ⟨x,H1,a,c,d⟩=>?_;obtain⟨i,rfl,q⟩:=d;obtain⟨t,rfl⟩:=c;exact⟨Z i,H1,a,.int i t,q⟩
def BP(X:Cx)(r:V->Option Int->Option Int->Hp->VK->Prop):Prop:=
 ∀(Z8:List (c0×Obj)) (s:cZ) (σ:St) (H:Hp) (x:V) (v vl vu:cY) (lo hi:Option Int) (sl:c0) (Q:VK),Inv X Z8 σ H s->dG x v->s.heap.IsSliceOf sl vl vu .none->IsPart vl lo->IsPart vu hi->r x lo hi H Q ->
  ∃T id,typeLookup (.type T) "__getitem__"=pure (Z (.builtin id))/\s.TypeIs v T/\db (model X.prog X.w) X.A (getItem v (.ref sl)) (EP X Z8 σ Q) X.xe s
theorem BP.or{r f:V->Option Int->Option Int->Hp->VK->Prop}(h:BP X r)(h':BP X f):BP X (λx lo hi H Q=>r x lo hi H Q\/f x lo hi H Q):=by
 intro Z8 s σ H x v a c lo hi d Q I b g pl e q;rcases q with q|q
 ·exact h Z8 s σ H x v a c lo hi d Q I b g pl e q
 ·exact h' Z8 s σ H x v a c lo hi d Q I b g pl e q
def LS(r:V->Option Int->Option Int->Hp->VK->Prop)(te:TE)(tl th:TO):TE:=fun σ H Q=>te σ H λx H1=>tl σ H1 λl H2=>th σ H2 λu H3=>r x l u H3 Q
theorem zM{r:V->Option Int->Option Int->Hp->VK->Prop}(hr:BP X r)(he:PE X e te)(y:PO X lo tl)(j:PO X hi th):PE X (.Subscript e (.Slice lo hi Y p2) pos) (LS r te tl th):=by
 intro Z8 s σ H Q I h;refine Subscript_ (eQ (he Z8 s σ H _ I h) λv p ⟨x,H1,C,D,o⟩=>?_);refine wpAny_Slice (eQ (y Z8 p σ H1 _ C o) λc z ⟨l,H2,g,pl,k⟩=>eQ (j Z8 z σ H2 _ g k) λd a ⟨u,f,t,m,n⟩=>?_);rw[evalPart_none];refine wP1 ?_;have w:Inv X Z8 σ f {a with heap:=a.heap.push {cls:=.type "slice",data:=.fields #[c,d,.none]}}:=t.kept (t':=a.toks) λb E q=>hP1 _ q;obtain⟨T,id,i,A,B⟩:=hr Z8 {a with heap:=a.heap.push {cls:=.type "slice",data:=.fields #[c,d,.none]}} σ f x v c d l u a.heap.objs.size Q w D (Heap.IsSliceOf.new ..) pl m n;show db (model X.prog X.w) X.A (subscriptTail e (.Slice lo hi Y p2) v (.ref a.heap.objs.size)) (EP X Z8 σ Q) X.xe {a with heap:=a.heap.push {cls:=.type "slice",data:=.fields #[c,d,.none]}};exact tail_any (ops:=[.ref a.heap.objs.size,v]) A i B (by with_unfolding_all rfl)
def t5(xs:List V)(lo hi:Option Int):List V:=(xs.drop (HT.sIx xs.length 0 lo)).take (HT.sIx xs.length xs.length hi-HT.sIx xs.length 0 lo)
theorem mH(xs:List V)(lo hi:Option Int):(t5 xs lo hi).length<=xs.length:=by
 unfold t5;rw[aL,aP];lia
def KI(K:Fg1):V->Option Int->Option Int->Hp->VK->Prop:=λx lo hi H Q=>∃a xs,x = .ref a/\jJ K H a xs /\
 ¬ (HT.sIx xs.length 0 lo=0/\HT.sIx xs.length xs.length hi=xs.length) /\ ∀p,H p=Y->Q (.ref p) (upd H p (.tup (t5 xs lo hi)))
theorem Fh:BP X (KI X.K):=by
 intro Z8 s σ H x v m n lo hi p Q I g l pl k h;obtain⟨a,xs,rfl,i,j,q⟩:=h;cases g;obtain⟨d,r,f,e⟩:=I.tuple i;have c:d.toArray.size=xs.length:=by rw[sT1];exact r.length.symm
 refine⟨"tuple",_,PyProof.Rows.slot_tuple_getitem.lookup,f.typeIs,?_⟩;refine HT.lr f l pl k (by rw[c];exact j) ?_ (by rw[c];exact e);rw[c];refine⟨.ref s.heap.objs.size,_,I.laid (t':=s.toks) (o:=.tup (t5 xs lo hi)) (λb t q=>hP1 _ q) (nR1 _) ?_,O,q _ (I.hok.fresh (nR1 _))⟩;exact⟨av (mH xs lo hi) e,_,(r.drop (HT.sIx xs.length 0 lo)).take (HT.sIx xs.length xs.length hi-HT.sIx xs.length 0 lo),IsTup.new _ _⟩
def Iz(K:Fg1):R2:=λx y H Q=>∃a b xs ys,x = .ref a/\y = .ref b/\jJ K H a xs/\jJ K H b ys/\xs≠[]/\xs.length+ys.length<=da /\
 (ys=[]->Q (.ref a) H)/\(ys≠[] -> ∀p,H p=Y->Q (.ref p) (upd H p (.tup (xs++ys))))
theorem dR.nil_iff{xs:List V}{a:List cY}(r:dR xs a):a=[]↔xs=[]:=by
 cases r with
 |nil=>simp
 |cons _ _=>simp
theorem CO:fY X (binaryOp .Add) (Iz X.K):=by
 intro Z8 s σ H x y v u Q I f n h;obtain⟨a,b,xs,ys,rfl,rfl,i,k,p,e,m,l⟩:=h;cases f;cases n;obtain⟨j,c,g,_⟩:=I.tuple i;obtain⟨d,r2,p2,_⟩:=I.tuple k;refine HT.DW g p2 (λz=>p (c.nil_iff.mp z)) (λz=>⟨.ref a,H,I,O,m (r2.nil_iff.mp z)⟩) (λz=>?_) (by rw[<- c.length,<- r2.length];exact e);refine⟨.ref s.heap.objs.size,_,I.laid (t':=s.toks) (o:=.tup (xs++ys)) (λb r q=>hP1 _ q) (nR1 _) ?_,O,l (λw=>z (r2.nil_iff.mpr w)) _ (I.hok.fresh (nR1 _))⟩;exact⟨by rw[lA1];exact e,_,c.append r2,IsTup.new _ _⟩
end
end L2
namespace L2
open PySem PySem.Spec PyProof.Rows
def xT(n:Nat)(i:Int):Option Nat:=if 0<=i then(if i<n then Z i.toNat else Y)else if-(n:Int)<=i then Z (i+n).toNat else Y
def vo{α:Type}(xs:List α)(i:Int):Option α:=(xT xs.length i).bind λj=>xs[j]?
theorem rl{n:Nat}{i:Int}{j:Nat}(h:xT n i=Z j):seqIndex? i n=Z j/\j<n /\ -(n:Int)<=i/\i<n:=by
 unfold xT at h;by_cases a:0<=i
 ·rw[ae a]at h;by_cases h1:i<n
  ·rw[ae h1]at h;have e:i.toNat=j:=Option.some.inj h;exact⟨by rw[seqIndex_of a h1,e],by lia,by lia,h1⟩
  ·rw[ab h1]at h;cases h
 ·rw[ab a]at h;by_cases h1: -(n:Int)<=i
  ·rw[ae h1]at h;have e:(i+n).toNat=j:=Option.some.inj h;exact⟨by rw[seqIndex_neg (by lia) h1,e],by lia,h1,by lia⟩
  ·rw[ab h1]at h;cases h
theorem w1{α:Type}{xs:List α}{i:Int}{v:α}(h:vo xs i=Z v):∃j,seqIndex? i xs.length=Z j/\xs[j]?=Z v/\j<xs.length /\ -(xs.length:Int)<=i/\i<xs.length:=by
 unfold vo at h;cases e:xT xs.length i with
 |none=>rw[e]at h;cases h
 |some j=>
  rw[e]at h;obtain⟨h1,h2,b,a⟩:=rl e;exact⟨j,h1,h,h2,b,a⟩
def ni(b:Expr):Prop:=∀o i,subscripted b J o i=operate [o,i] (getItem o i)
def EV(X:Cx)(r:R2):Prop:=
 ∀(value slice:Expr) (Z8:List (c0×Obj)) (s:cZ) (σ:St) (H:Hp) (x y:V) (v u:cY) (Q:VK),Inv X Z8 σ H s->dG x v->dG y u->r x y H Q ->
  subscripted slice J v u=operate [v,u] (getItem v u)->db (model X.prog X.w) X.A (subscriptTail value slice v u) (EP X Z8 σ Q) X.xe s
def HI(X:Cx)(id:String)(r:V->List V->Hp->VK->Prop):Prop:=
 ∀(Z8:List (c0×Obj)) (s:cZ) (σ:St) (H:Hp) (x:V) (xs:List V) (v:cY) (us:List cY) (Q:VK),Inv X Z8 σ H s->dG x v->dR xs us->r x xs H Q ->
  db (model X.prog X.w) X.A (call (.builtin id) (v::us)) (EP X Z8 σ Q) X.xe s
section
variable{X:Cx}{a b:Expr}{ta tb:TE}{pos:Pos}
theorem IH{r:R2}(hr:EV X r)(ha:PE X a ta)(hb:PE X b tb)(hs:ni b):PE X (.Subscript a b pos) (H7 r ta tb):=by
 intro Z8 s σ H Q I h;exact Subscript_ (Ht ha hb I h λv u d x y H2 c e f q=>hr a b Z8 d σ H2 x y v u Q c e f q (hs _ _))
def KM(K:Fg1):R2:=λx y H Q=>∃p xs i v,x = .ref p/\y = .int i/\lI K H p xs/\vo xs i=Z v/\Q v H
def KL(K:Fg1):R2:=λx y H Q=>∃p xs i v,x = .ref p/\y = .int i/\jJ K H p xs/\vo xs i=Z v/\Q v H
theorem Ds:EV X (KM X.K):=by
 intro value b Z8 s σ H x y v u Q I m C h k;obtain⟨p,xs,i,z,rfl,rfl,B,A,q⟩:=h;cases m;obtain⟨t,rfl⟩:=C;obtain⟨c,r,pl,E⟩:=I.list B;obtain⟨j,h1,h2,D,n,l⟩:=w1 A;obtain⟨w,g,d⟩:=r.get h2;have o:=r.length;have F:=lW;have a:EP X Z8 σ Q w s:=⟨z,H,I,d,q⟩;by_cases f:0<=i
 ·have e:i.toNat=j:=by
   rw[seqIndex_of f l]at h1;exact Option.some.inj h1
  exact item_listR pl.isList f (by lia) (by rw[e];simpa using g) a k
 ·have e:(i+(c.toArray.size:Int)).toNat=j:=by
   rw[seqIndex_neg (by lia) n]at h1;rw[sT1,<- o];exact Option.some.inj h1
  exact subscriptTail_builtinR (x:=w) pl.isList.typeIs slot_list_getitem.lookup
   (wpAny_getItem_list_neg (Q:=λr s'=>r=w/\EP X Z8 σ Q r s') pl.isList (by lia) (by rw[sT1]<;>lia) (by lia) (by rw[e];simpa using g) ⟨O,a⟩) k
theorem GZ:EV X (KL X.K):=by
 intro value a Z8 s σ H x y v u Q I d l h n;obtain⟨p,xs,i,z,rfl,rfl,m,k,q⟩:=h;cases d;obtain⟨t,rfl⟩:=l;obtain⟨e,r,pl,C⟩:=I.tuple m;obtain⟨j,h1,h2,A,B,o⟩:=w1 k;obtain⟨w,f,b⟩:=r.get h2;have g:=r.length;have D:=lW;have c:EP X Z8 σ Q w s:=⟨z,H,I,b,q⟩;exact subscriptTail_builtinR (x:=w) pl.typeIs slot_tuple_getitem.lookup
  (getItem_tuple (j:=j) (Q:=λr s'=>r=w/\EP X Z8 σ Q r s') pl (by lia) (by lia) (by rw[sT1,<- g];exact h1) (by simpa using f) ⟨O,c⟩) n
theorem uZ(its:List cY)(n j:Nat)(u:cY):Obj.mapSeq (·.setIfInBounds j u) {cls:=.type "list",data:=.seq its.toArray n}={cls:=.type "list",data:=.seq (its.set j u).toArray n}:=by
 simp[Obj.mapSeq]
theorem Inv.lst{Z8:List (c0×Obj)}{σ:St}{H:Hp}{s:cZ}{p:c0}{xs:List V}(I:Inv X Z8 σ H s)(h:H p=some (.lst xs)):
  ∃(its:List cY) (n:Nat),dR xs its/\s.heap.get? p=Z {cls:=.type "list",data:=.seq its.toArray n}/\xs.length<=da:=by
 obtain⟨z,its,n,r,e⟩:=I.hok p _ h;exact⟨its,n,r,e,z⟩
theorem Inv.lstUpd {Z8:List (c0×Obj)}{σ:St}{H:Hp}{s:cZ}{p:c0}{xs ys:List V}{its its':List cY}{n n':Nat}{f:Obj->Obj}(I:Inv X Z8 σ H s)(h:H p=some (.lst xs))
  (ho:s.heap.get? p=Z {cls:=.type "list",data:=.seq its.toArray n}) (hf:f {cls:=.type "list",data:=.seq its.toArray n}={cls:=.type "list",data:=.seq its'.toArray n'}) (r:dR ys its') (hz:ys.length<=da) (t:Nat):
  Inv X Z8 σ (upd H p (.lst ys)) {s with heap:=s.heap.update p f,toks:=t}:=by
 have e:(s.heap.update p f).get? p=Z {cls:=.type "list",data:=.seq its'.toArray n'}:=by
  rw[hW1 f ho (by rw[hf]<;>rfl),hf]
 refine I.write (x:=p) (e:=p) (by rw[h];trivial) (.inl O) (λb u a q=>(Heap.get?_update_other _ _ (Ne.symm a)).trans q) ⟨_,e⟩ ?_;exact⟨hz,its',n',r,e⟩
def Iw:V->V->V->Hp->(Hp->Prop)->Prop:=λo i v H Q=>∃p xs k j,o = .ref p/\i = .int k/\H p=Z (.lst xs)/\xT xs.length k=Z j/\Q (upd H p (.lst (xs.set j v)))
theorem zq:vx X Iw:=by
 intro Z8 s σ H o i v B C u Q I z x A h;obtain⟨p,xs,k,j,rfl,rfl,m,y,q⟩:=h;cases z;obtain⟨t,rfl⟩:=x;obtain⟨a,n,r,b,w⟩:=I.lst m;obtain⟨h1,h2,e,l⟩:=rl y;have d:=r.length;have D:=lW;have g:Inv X Z8 σ (upd H p (.lst (xs.set j v))) {s with heap:=s.heap.update p (Obj.mapSeq (·.setIfInBounds j u))}:=
  I.lstUpd m b (uZ a n j u) (r.set A j) (by rw[aQ];exact w) s.toks
 by_cases f:0<=k
 ·have c:k.toNat=j:=by
   rw[seqIndex_of f l]at h1;exact Option.some.inj h1
  exact PySem.W.ki_setAt b f (by lia) (by rw[sT1,<- d];exact l) (by rw[c];exact⟨_,g,q⟩)
 ·have c:(k+(a.toArray.size:Int)).toNat=j:=by
   rw[seqIndex_neg (by lia) e]at h1;rw[sT1,<- d];exact Option.some.inj h1
  exact PySem.W.ki_setBack b (by lia) (by rw[sT1,<- d];exact e) (by lia) (by rw[c];exact⟨_,g,q⟩)
theorem qj(lo hi:Option Int)(n:Nat):(sliceBounds lo hi Y n).1=((HT.sIx n 0 lo:Nat):Int)/\(sliceBounds lo hi Y n).2.1=((HT.sIx n n hi:Nat):Int)/\(sliceBounds lo hi Y n).2.2=1:=by
 refine⟨?_,?_,O⟩
 ·cases lo with
  |none=>simp[sliceBounds,HT.sIx]
  |some i=>
   simp only[sliceBounds,HT.sIx,Option.getD_none,show(1:Int)>0 by decide,if_true];by_cases h:i<0
   ·simp only[h,if_true]<;>lia
   ·simp only[h,if_false]<;>lia
 ·cases hi with
  |none=>simp[sliceBounds,HT.sIx]
  |some i=>
   simp only[sliceBounds,HT.sIx,Option.getD_none,show(1:Int)>0 by decide,if_true];by_cases h:i<0
   ·simp only[h,if_true]<;>lia
   ·simp only[h,if_false]<;>lia
theorem oQ(its:List cY)(lo hi:Option Int):slicePick its.toArray lo hi Y=((its.drop (HT.sIx its.length 0 lo)).take (HT.sIx its.length its.length hi-HT.sIx its.length 0 lo)).toArray:=by
 obtain⟨h1,h2,a⟩:=qj lo hi its.toArray.size;unfold slicePick;rw[h1,h2,a];simp only[sliceRange_one,pick_run,sT1]<;>rfl
def KJ(K:Fg1):V->Option Int->Option Int->Hp->VK->Prop:=λx lo hi H Q=>∃a xs,x = .ref a/\lI K H a xs /\ ∀p,H p=Y->Q (.ref p) (upd H p (.lst (t5 xs lo hi)))
theorem Cd:BP X (KJ X.K):=by
 intro Z8 s σ H x v l m lo hi n Q I e k pl i h;obtain⟨a,xs,rfl,f,q⟩:=h;cases e;obtain⟨g,r,d,j⟩:=I.list f;have c:=r.length;refine⟨"list",_,slot_list_getitem.lookup,d.isList.typeIs,?_⟩;refine wpAny_getItem_list_slice d.isList k pl i .none (by simp) ?_ (by rw[sT1]<;>lia);rw[oQ,<- c];refine⟨.ref s.heap.objs.size,_,I.laid (t':=s.toks) (o:=.lst (t5 xs lo hi)) (λb p q=>hP1 _ q) (nR1 _) ?_,O,q _ (I.hok.fresh (nR1 _))⟩;exact⟨av (mH xs lo hi) j,_,0,(r.drop (HT.sIx xs.length 0 lo)).take (HT.sIx xs.length xs.length hi-HT.sIx xs.length 0 lo),hS1 _ O⟩
def ke:V->Bool
 | .non=>M
 | .bl _=>M
 | .int _=>M
 | .str _=>M
 |_=>J
def uu:V->V->Bool
 | .non,.non=>M
 | .bl a,.bl b=>a == b
 | .bl a,.int b=>(if a then 1 else 0) == b
 | .int a,.bl b=>a == (if b then 1 else 0)
 | .int a,.int b=>a == b
 | .str a,.str b=>a == b
 |_,_=>J
theorem ky{A:c6}{s:cZ}{y x:V}{u v:cY}(e:dG y u)(c:dG x v)(g:ke y=M)(f:ke x=M):SeqAt.EqAt A s u v (uu y x):=by
 cases y with
 |non=>
  cases e;cases x with
  |non=>cases c;exact SeqAt.EqAt.same _
  |bl b=>cases c;exact SeqAt.EqAt.none_bool b
  |int b=>obtain⟨t,rfl⟩:=c;exact SeqAt.EqAt.none_int b t
  |str b=>obtain⟨t,rfl⟩:=c;exact SeqAt.EqAt.none_str b t
  |_=>exact absurd (show J=M from f) aD
 |bl a=>
  cases e;cases x with
  |non=>cases c;exact SeqAt.EqAt.bool_none a
  |bl b=>cases c;exact SeqAt.EqAt.bool_bool a b
  |int b=>obtain⟨t,rfl⟩:=c;exact SeqAt.EqAt.bool_int a b t
  |str b=>obtain⟨t,rfl⟩:=c;exact SeqAt.EqAt.bool_str a b t
  |_=>exact absurd (show J=M from f) aD
 |int a=>
  obtain⟨d,rfl⟩:=e;cases x with
  |non=>cases c;exact SeqAt.EqAt.int_none a d
  |bl b=>cases c;exact SeqAt.EqAt.int_bool a d b
  |int b=>obtain⟨t,rfl⟩:=c;exact SeqAt.EqAt.int_int a d b t
  |str b=>obtain⟨t,rfl⟩:=c;exact SeqAt.EqAt.int_str a d b t
  |_=>exact absurd (show J=M from f) aD
 |str a=>
  obtain⟨d,rfl⟩:=e;cases x with
  |non=>cases c;exact SeqAt.EqAt.str_none a d
  |bl b=>cases c;exact SeqAt.EqAt.str_bool a d b
  |int b=>obtain⟨t,rfl⟩:=c;exact SeqAt.EqAt.str_int a d b t
  |str b=>obtain⟨t,rfl⟩:=c;exact SeqAt.EqAt.str_str a d b t
  |_=>exact absurd (show J=M from f) aD
 |_=>exact absurd (show J=M from g) aD
theorem rY:eh X (.builtin "len") (λxs H Q=>∃p ys,xs=[.ref p]/\(lI X.K H p ys\/jJ X.K H p ys)/\Q (.int ys.length) H):=by
 intro Z8 s σ H xs g Q I r h;obtain⟨p,ys,rfl,b,q⟩:=h;obtain⟨u,rfl,e⟩:=gU r;cases e;have i:=lW;rcases b with b|b
 ·obtain⟨c,d,pl,f⟩:=I.list b;have a:=d.length;exact Calls.call_len_list pl.isList (by simp only[sT1]<;>lia) ⟨.int ys.length,H,I.tok _,⟨s.toks+1,by rw[sT1,a]⟩,q⟩
 ·obtain⟨c,d,pl,f⟩:=I.tuple b;have a:=d.length;exact len_tuple pl (by simp only[sT1]<;>lia) ⟨.int ys.length,H,I.tok _,⟨s.toks+1,by rw[sT1,a]⟩,q⟩
theorem rX:eh X (.builtin "len") (λxs H Q=>∃z,xs=[.str z]/\z.length<=da/\Q (.int z.length) H):=by
 intro Z8 s σ H xs a Q I r h;obtain⟨z,rfl,b,q⟩:=h;obtain⟨u,rfl,t,rfl⟩:=gU r;have c:=lW;exact len_str (by lia) ⟨.int z.length,H,I.tok _,⟨_,O⟩,q⟩
theorem rW:eh X (.type "list") (λxs H Q=>∃p ys,xs=[.ref p]/\(lI X.K H p ys\/jJ X.K H p ys) /\ ∀l,H l=Y->Q (.ref l) (upd H l (.lst ys))):=by
 intro Z8 s σ H xs w Q I r h;obtain ⟨p,ys,rfl,j,q⟩:=h;obtain ⟨u,rfl,v⟩:=gU r;cases v;have k:∀ (a:List cY),dR ys a->ys.length<=da -> ∀ (h':de) (d:Nat),(∀ b o',s.heap.get? b=some o'->h'.get? b=some o') ->
   h'.get? s.heap.objs.size=Z {cls:=.type "list",dict:=Y,data:=.seq a.toArray d,slots:= #[]}->EP X Z8 σ Q (.ref s.heap.objs.size) {s with heap:=h'}:=λa c i h' d g e=>
  ⟨.ref s.heap.objs.size,_,I.laid (t':=s.toks) g (nR1 _) (show eA X.prog X.w _ h' _ (.lst ys)from⟨i,a,d,c,e⟩),O,q _ (I.hok.fresh (nR1 _))⟩
 rcases j with j|j
 ·obtain⟨a,c,pl,i⟩:=I.list j;have f:=c.length;obtain⟨o,t,hc,n,m⟩:=pl.isList;exact call_list_seq p (.inl O) t hc m (λh' d g e=>k a c i h' d g e) (by simp only[sT1]<;>lia)
 ·obtain⟨a,c,pl,i⟩:=I.tuple j;have f:=c.length;obtain⟨o,t,hc,n,m⟩:=pl;exact call_list_seq p (.inr O) t hc m (λh' d g e=>k a c i h' d g e) (by simp only[sT1]<;>lia)
theorem o4:eh X (.type "tuple") (λxs H Q=>∃p ys,xs=[.ref p]/\((lI X.K H p ys /\ ∀l,H l=Y->Q (.ref l) (upd H l (.tup ys)))\/(jJ X.K H p ys/\Q (.ref p) H))):=by
 intro Z8 s σ H xs n Q I r h;obtain⟨p,ys,rfl,h⟩:=h;obtain⟨u,rfl,k⟩:=gU r;cases k;rcases h with⟨d,q⟩|⟨d,q⟩
 ·obtain ⟨a,c,pl,i⟩:=I.list d;have g:=c.length;refine call_tuple_list pl.isList (fun h' m=>?_) (by simp only [sT1]<;>lia);have f:Inv X Z8 σ H {s with heap:=h'}:=I.kept (t':=s.toks) m;have j:Inv X Z8 σ (upd H h'.objs.size (.tup ys)) {s with heap:=h'.push {cls:=.type "tuple",data:=.seq a.toArray}}:=
   f.laid (t':=s.toks) (λb o e=>hP1 _ e) (nR1 _) (show eA X.prog X.w _ _ _ (.tup ys)from⟨i,a,c,IsTup.new _ _⟩)
  exact⟨.ref h'.objs.size,_,j,O,q _ (f.hok.fresh (nR1 _))⟩
 ·obtain⟨a,c,pl,i⟩:=I.tuple d;exact call_tuple_same pl ⟨.ref p,H,I,O,q⟩
def Lw(K:Fg1)(T:String)(x:V)(H:Hp):Prop:=match x with
 | .str _=>T="str"
 | .int _=>T="int"
 | .ref p=>(T="list" /\ ∃ xs,lI K H p xs)\/(T="tuple" /\ ∃ o,K.lookup p=some o/\o.cls = .type "tuple"/\o.dict=none) \/
   (T="dict"/\((∃kvs,H p=Z (.dK kvs)) \/ ∃kvs,H p=Z (.dT kvs)))\/(T="set" /\ ∃S n,H p=Z (.set S n))
 |_=>False
theorem E3{Z8:List (c0×Obj)}{σ:St}{H:Hp}{s:cZ}{T:String}{x:V}{v:cY}(I:Inv X Z8 σ H s)(r:dG x v)(ty:Lw X.K T x H):
  s.TypeIs v T /\ ∀a,v = .ref a -> ∃g,s.heap.get? a=Z g/\g.dict=Y:=by
 cases x with
 |str z=>
  obtain⟨t,rfl⟩:=r;cases(show T="str" from ty);exact⟨typeIs_str s z t,λ_ e=>nomatch e⟩
 |int i=>
  obtain⟨t,rfl⟩:=r;cases(show T="int" from ty);exact⟨typeIs_int s i t,λ_ e=>nomatch e⟩
 |ref p=>
  cases r;rcases ty with⟨rfl,xs,j⟩|⟨rfl,o,b,hc,d⟩|⟨rfl,b⟩|⟨rfl,S,n,b⟩
  ·obtain⟨h,_,pl,_⟩:=I.list j;refine⟨pl.isList.typeIs,λa e=>?_⟩;cases e;obtain⟨o,n,e,c,d,_⟩:=pl;exact⟨o,e,d⟩
  ·refine⟨⟨o,I.kIn p o b,hc⟩,λa e=>?_⟩;cases e;exact⟨o,I.kIn _ o b,d⟩
  ·have z:∃ o,s.heap.get? p=some o/\o.ExactDict:=by
    rcases b with⟨kvs,b⟩|⟨kvs,b⟩
    ·obtain⟨_,_,_,_,o,_,_,e,ex,_⟩:=I.hok p _ b;exact⟨o,e,ex⟩
    ·obtain⟨_,_,_,_,o,_,_,e,ex,_⟩:=I.hok p _ b;exact⟨o,e,ex⟩
   obtain⟨o,e,ex⟩:=z;refine⟨⟨o,e,ex.1⟩,λa f=>?_⟩;cases f;exact⟨o,e,ex.2.1⟩
  ·obtain⟨o,_,_,_,e,ex,_⟩:=I.hok p _ b;refine⟨⟨o,e,ex.1⟩,λa f=>?_⟩;cases f;exact⟨o,e,ex.2.1⟩
 |_=>exact False.elim ty
def LX(K:Fg1)(T:String)(r:V->List V->Hp->VK->Prop)(to:TE)(t:TA):TE:=fun σ H Q=>to σ H λx H1=>Lw K T x H1/\t σ H1 λxs H2=>r x xs H2 Q
variable{o e:Expr}{es:List Expr}{to:TE}{t:TA}{name:Str}{apos cpos:Pos}{T id:String}{r:V->List V->Hp->VK->Prop}
theorem II (g:PlainAttrs T)(slot:Slot T name id)(hty:typeOf (.builtin id)=pure (.type "method_descriptor"))(hm:HI X id r)(ho:PE X o to)(ha:PA X (e::es) t)
  (hbase:attributeBase o name X.env (eval o X.env)=eval o X.env:=by rfl)
  (hfew:((backTo cpos (c9 (e::es) X.env)).all (λx=> !x.1)&&(backToKw cpos (keywordEach [] X.env)).all (λx=>x.1.isSome)
   && decide ((e::es).length+([]:List Keyword).length+(if([]:List Keyword).isEmpty then 0 else 1)<30))=M:=by rfl)
  (hline:(apos.endLine == cpos.line)=M:=by rfl) (hs:c9 (e::es) X.env=(J,eval e X.env)::c9 es X.env:=by rfl) (hplain:(backTo cpos (c9 es X.env)).any (·.1)=J:=by rfl):
  PE X (.Call (.Attribute o name apos) (e::es) [] cpos) (LX X.K T r to t):=by
 intro Z8 s σ H Q I h;refine wpAny_Call_method_late hbase hfew hline O (eQ (ho Z8 s σ H _ I h) λv l ⟨x,H1,a,c,ty,k⟩=>?_);obtain⟨h1,h2⟩:=E3 a c ty;refine⟨T,id,g,slot,hty,h1,h2,?_⟩;have b:=ha cpos Z8 l σ H1 _ a k;rw[hs]at b ⊢;refine Calls.callWith_builtin (by show(J||(backTo cpos (c9 es X.env)).any (·.1))=J;rw[hplain]<;>rfl) (Calls.evalArgs_plain ?_);exact eQ b λi j ⟨vs,H2,d,r2,f⟩=>hm Z8 j σ H2 x vs v i Q d c r2 f
end
end L2
namespace L2
open PySem PySem.Spec PyProof.Rows
def LK(X:Cx)(id:String)(r:V->List V->Hp->VK->Prop):Prop:=
 ∀(Z8:List (c0×Obj)) (s:cZ) (σ:St) (H:Hp) (x:V) (xs:List V) (v:cY) (us:List cY) (Q:VK),Inv X Z8 σ H s->dG x v->dR xs us->r x xs H Q ->
  db (model X.prog X.w) X.A (call (.builtin id) (v::us)) (EP X Z8 σ Q) X.xe s
theorem dR.one:∀{x:V} {a:List cY},dR [x] a -> ∃u,a=[u]/\dG x u:=by
 intro x a h;cases h with
 |cons r t=>cases t;exact⟨_,O,r⟩
theorem dR.eraseIdx:∀{xs:List V} {a:List cY} (i:Nat),dR xs a->dR (xs.eraseIdx i) (a.eraseIdx i)
 |_,_,_,.nil=>.nil
 |_,_,0,.cons _ t=>t
 |_,_,i+1,.cons r t=>.cons r (dR.eraseIdx i t)
theorem px{α:Type}:∀(l:List α) (i:Nat),(l.eraseIdx i).length<=l.length
 |[],_=>nR1 _
 |_::_,0=>aR _
 |_::r,i+1=>Nat.succ_le_succ (px r i)
section
variable{X:Cx}{Z8:List (c0×Obj)}{σ:St}{H:Hp}{s:cZ}{l b:c0}{xs ys zs:List V}
theorem Inv.lset {its its':List cY}{n:Nat}{f:Array cY->Array cY}{t':Nat}(I:Inv X Z8 σ H s)(b:H l=some (.lst xs))
  (e:s.heap.get? l=Z {cls:=.type "list",data:=.seq its.toArray n}) (hf:f its.toArray=its'.toArray) (hv:dR ys its') (hz:ys.length<=da):
  Inv X Z8 σ (upd H l (.lst ys)) {s with heap:=s.heap.update l (Obj.mapSeq f),toks:=t'}:=by
 have q:=PySem.IsL.update e f;rw[hf]at q;refine I.write (x:=l) (e:=l) (by rw[b];exact trivial) (.inl O) (λd u a c=>(Heap.get?_update_other s.heap (Obj.mapSeq f) (Ne.symm a)).trans c) ⟨_,q⟩ ?_;exact⟨hz,its',_,hv,q⟩
theorem Inv.lnew{its:List cY}{t':Nat}(I:Inv X Z8 σ H s)(hv:dR ys its)(hz:ys.length<=da):
  Inv X Z8 σ (upd H s.heap.objs.size (.lst ys)) {s with heap:=s.heap.push {cls:=.type "list",data:=.seq its.toArray},toks:=t'}:=
 I.laid (λ_ _ q=>hP1 _ q) (nR1 _) ⟨hz,its,0,hv,hS1 _ O⟩
theorem Inv.fresh(I:Inv X Z8 σ H s):H s.heap.objs.size=Y:=I.hok.fresh (nR1 _)
theorem Inv.lstM(I:Inv X Z8 σ H s)(a:H l=Z (.lst xs)):xs.length<=da /\ ∃(its:List cY) (n:Nat),dR xs its/\xs.length=its.length/\s.heap.get? l=Z {cls:=.type "list",data:=.seq its.toArray n}:=by
 obtain⟨z,its,n,r,e⟩:=I.hok l _ a;exact⟨z,its,n,r,r.length,e⟩
end
section
variable{X:Cx}
def Cn:V->List V->Hp->VK->Prop:=λx vs H Q=>∃l xs y,x = .ref l/\vs=[y]/\H l=Z (.lst xs)/\xs.length<da/\Q .non (upd H l (.lst (xs++[y])))
theorem pu:LK X "list.append" Cn:=by
 intro Z8 s σ H x vs v i Q I c f h;obtain⟨l,xs,y,rfl,rfl,b,j,q⟩:=h;cases c;obtain⟨u,rfl,d⟩:=f.one;obtain⟨z,a,n,r,g,e⟩:=I.lstM b;refine call_meets F.slot_list_append ⟨_,e,O⟩ F.entry_list_append (F.args_list_append_2 _ _) (PySem.list_append l a.toArray n u (by rw[sT1];lia)) ⟨e,?_⟩;refine⟨.non,_,I.lset (its':=a++[u]) b e (by simp) (r.append (.cons d .nil)) ?_,O,q⟩;rw[lA1,aS];lia
def Fq:V->List V->Hp->VK->Prop:=λx vs H Q=>∃l xs i k y,x = .ref l/\vs=[.int i]/\H l=Z (.lst xs) /\ -(2^63)<=i/\i<2^63/\seqIndex? i xs.length=Z k/\xs[k]?=Z y/\Q y (upd H l (.lst (xs.eraseIdx k)))
theorem Ah:LK X "list.pop" Fq:=by
 intro Z8 s σ H x vs v A Q I d p h;obtain⟨l,xs,i,k,y,rfl,rfl,c,h1,h2,g,o,q⟩:=h;cases d;obtain⟨u,rfl,m⟩:=p.one;obtain⟨t,rfl⟩:=m;obtain⟨z,a,n,r,j,e⟩:=I.lstM c;obtain⟨w,f,b⟩:=r.get o;refine call_meets F.slot_list_pop ⟨_,e,O⟩ F.entry_list_pop (F.args_list_pop_2 _ _)
  (MeetsSeq.list_pop_at l a.toArray n i t k w (fitsIndex_both h1 h2) (by rw[sT1,<- j];exact g) (by rw[<- aT1];exact f) (by rw[sT1];lia)) ⟨e,?_⟩
 refine⟨y,_,I.lset (its':=a.eraseIdx k) c e ?_ (r.eraseIdx k) ?_,b,q⟩
 ·show a.toArray.eraseIdxIfInBounds k=(a.eraseIdx k).toArray;rw[List.eraseIdxIfInBounds_toArray]
 ·have:=px xs k;lia
def KN:R2:=λx y H Q=>∃l b xs zs,x = .ref l/\y = .ref b/\H l=Z (.lst xs)/\H b=Z (.lst zs)/\xs.length+zs.length<=da /\ ∀p,H p=Y->Q (.ref p) (upd H p (.lst (xs++zs)))
theorem F6:fY X (binaryOp .Add) KN:=by
 intro Z8 s σ H x y v u Q I d m h;obtain⟨l,b,xs,zs,rfl,rfl,f,k,w,q⟩:=h;cases d;cases m;obtain⟨z,c,n,r,p,e⟩:=I.lstM f;obtain⟨o,a,t,r2,g,i⟩:=I.lstM k;refine PySem.P.add_list e i ?_ (by rw[sT1,sT1];lia);have j:c.toArray++a.toArray=(c++a).toArray:=by simp
 rw[j];exact⟨.ref _,_,I.lnew (t':=s.toks) (r.append r2) (by rw[lA1];lia),O,q _ I.fresh⟩
end
section
variable{prog:c5}{w:c7}{A:c6}{E:cY->cZ->Prop}{s:cZ}
end
section
variable{X:Cx}
end
end L2
namespace Att
open PySem PySem.W PySem.Calls PyProof.Rows
theorem mS{P:Params}{h:de}:∀(ns:List Int) (vs:List cY),WellAll P h vs (ns.map WData.int)->IntsAre vs ns:=by
 intro ns
 induction ns with
 |nil=>
  intro vs w;rw[aT]at w;cases w;exact .nil
 |cons n ns ih=>
  intro vs w;rw[mP1]at w;cases w with
  |cons a b=>
   cases a;exact .cons _ _ (ih _ b)
theorem xt{l:OpenLaw}{n:Nat}(hn:l.most=some n){P:Params}{h:de}{args:List WData}{c:List cY}(b:l.row.toRowW.claim.pre args=true)(k:WellAll P h c args):
  ∃a vs ns,c=[Value.ref a]/\args=[WData.list (ns.map WData.int)]/\h.get? a=Z {cls:=.type "list",data:=.seq vs.toArray}/\IntsAre vs ns/\ns.length<=n:=by
 have j:WShape.hasAll [] args [.list .int]=M:=(pre_splitW b).1;have hc:l.pre.holds [] {args:=args}=M:=(pre_splitW b).2;obtain⟨d,r,rfl,h1,h2⟩:=hasAllW_cons j;obtain rfl:=hasAllW_nil h2;obtain⟨xs,rfl,o⟩:=hasW_list h1;obtain⟨ns,rfl⟩:=items_int o;have e:ns.length<=n:=by
  unfold OpenLaw.pre at hc;have i:(WTm.not (.lt (.lit (.int (n:Int))) (.len (.arg 0)))).holds [] {args:=[.list (ns.map .int)]}=M:=by
   have i:=(holds_andW hc).1;rw[hn]at i;exact i
  have g:=condW_of i (w_not (w_lt w_lit (w_len_list (w_arg O))));rw[lM1]at g;refine Nat.le_of_not_lt λq=>?_;have t:(n:Int)<((ns.length:Nat):Int):=by omega
  first
   |(rw[Z9 t]at g;exact absurd g (by decide))
   |(simp at g;omega)
 cases k with
 |cons m s=>
  cases s;cases m with
  |list p f=>exact⟨_,_,ns,O,O,p,mS ns _ f,e⟩
theorem xB(l:OpenLaw)(args:List WData):l.row.toRowW.claim.post args (.bool M) args=M:=
 postW_of (r:=l.row.toRowW) (X:=(M == M))
  (show WShape.has [] (.bool M) .bool=M by first|rfl|decide|simp[WShape.has,WShape.arms,WShape.armsAll])
  (show(WTm.eq .res (.lit (.bool M))).value [] {args:=args,res:=Z (.bool M),after:=args}=Z (.bool (M == M))from w_eq_bool (w_res O) w_lit) O
theorem attach_call {l:OpenLaw}{n:Nat}{q:c5}{e:List Str}{XP:(Str->Option cY)->de->Prop}{D:c7->de->Prop}{d:DefRec}
  (hn:l.most=Z n) (t:d.params.defaults=[])
  (call:∀(w:c7) (c b:cZ) (mg x:Str->Option cY) (i:c0) (o:Obj) (v p h:cY) (a:c0) (vs:List cY) (ns:List Int),
   Ground q e [] XP w c mg x b.heap->D w b.heap ->
   b.heap.get? i=Z o->o.data = .func (docDef d.name d.params d.body d.scope v p h)->b.heap.CodeRec p d.name->mg d.name=Z (.ref i) ->
   b.heap.get? a=Z {cls:=.type "list",data:=.seq vs.toArray}->IntsAre vs ns->ns.length<=n->b.gens = #[] ->
   codeAny (model l.prog w) callerA (.call (.ref i) ⟨[.ref a],[]⟩) (λr s'=>r = .ok (.ret (.bool M))/\OldK b.heap s'.heap/\s'.os=b.os/\AllBare s'.gens) b):
  WalkO q e XP D l.row.toRowW d [] (λf vs=>PySem.call f vs):=by
 intro w c b mg x G ai i o v p h N kV L F s B u K C A as k z ag y H;obtain rfl:N = .none:=Dflts.none B t;obtain rfl:kV = .none:=Dflts.noKw B;obtain⟨a,vs,ns,rfl,rfl,j,g,m⟩:=xt hn k y;refine enter_call (codeAny_mono (call w c b mg x i o v p h a vs ns G ai L (fd_plain F) s u j g m K) λr s' I=>?_);obtain⟨rfl,h2,ah,aj⟩:=I;exact⟨.inl ⟨.bool M,.bool M,[],O,λ_=>rfl,.bool M,xB l _,λ_=>⟨List.Pairwise.nil,λ_ E=>(nomatch E)⟩⟩,h2,ah,aj⟩
section
variable{prog:c5}{w:c7}{A:c6}{E:cY->cZ->Prop}{s:cZ}{K:Frag}
end
end Att
namespace L2
open PySem PySem.Spec PyProof.Rows
theorem xg:∀{vs:List cY} {ns:List Int},IntsAre vs ns->dR (ns.map V.int) vs:=by
 intro vs ns h
 induction h with
 |nil=>exact .nil
 |cons n t h ih=>exact .cons ⟨t,O⟩ ih
def Ea(H:Hp):Prop:=∀b,H b=Y \/ ∃o xs,H b=Z (.frz o (.lst xs))
theorem AN {P:c5}{w:c7}{K:Fg1}{mg I:Str->Option cY}{CX:yu}{k:Nat}{G a:c0}{fd:df}{x:Str}{sp:Sp}{s₁:cZ}{vs:List cY}{ns:List Int}
  (N:K.In s₁.heap) (l:s₁.heap.Ns c8 mg) (hb:s₁.heap.Ns builtinsNs I) (L:∀x:Str,x≠"__name__"->I x=bootBuiltins x) (j:s₁.heap.NoLimit) (hg:s₁.gens = #[])
  (ha:s₁.heap.get? a=Z {cls:=.type "list",data:=.seq vs.toArray}) (hi:IntsAre vs ns) (R:ns.length<=da) (hr:fB k callerA)
  (F:∀base:de,K.In base->base.Ns c8 mg->jK P w K mg base CX k G fd [x] sp) (g:∀(s:cZ) (u:cY),BindsTo s fd ⟨[u],[]⟩ [(x,u)])
  (D:∀H:Hp,Ea H->lI K H a (ns.map V.int)->sp [.ref a] H (λv _=>v = .bl M) λ_ _ _=>False)
  (ag:∀H e s',CX [] H s₁ (λ_ _ _=>False) e s'->False):
  codeAny (model P w) callerA (.call (.ref G) ⟨[.ref a],[]⟩) (λr s'=>r = .ok (.ret (.bool M))/\OldK s₁.heap s'.heap/\s'.os=s₁.os/\AllBare s'.gens) s₁:=by
 have S:=xg hi;have y:=hi.length
 -- from an abstract heap in which nothing but the script may be tracked
 have f:∀ H:Hp,Ea H->lI K H a (ns.map V.int)->kE P w H s₁.heap->(∀ b,H b≠none->b=a)->(H a≠none->K.lookup a=none) ->
   codeAny (model P w) callerA (.call (.ref G) ⟨[.ref a],[]⟩) (λr s'=>r = .ok (.ret (.bool M))/\OldK s₁.heap s'.heap/\s'.os=s₁.os/\AllBare s'.gens) s₁:=by
  intro H Q hS p aj hK;have base_of:∀{b:c0} {o:Obj},s₁.heap.get? b=Z o->H b=Y->(rq s₁.heap H).get? b=Z o:=λe n=>AU e n;have E:∀{b:c0} {o:Obj} {es:Array DictEntry} {ep:Nat},s₁.heap.get? b=Z o->o.data = .dict es ep->H b=Y:=λ{b o es ep} e d=>by
   cases q:H b with
   |none=>rfl
   |some u=>
    have C:b=a:=aj b (by rw[q];simp);subst C;rw[ha]at e;cases e;have d':Data.seq vs.toArray _=Data.dict es ep:=d;cases d'
  have c:∀{b:c0} {m:Str->Option cY},s₁.heap.Ns b m->(rq s₁.heap H).Ns b m:=λ{b m} ⟨o,es,ep,e,d,r⟩=>⟨o,es,ep,base_of e (E e d),d,r⟩;have B:K.In (rq s₁.heap H):=λb o e=>base_of (N b o e) (by
   cases q:H b with
   |none=>rfl
   |some u=>
    have C:b=a:=aj b (by rw[q];simp);subst C;rw[hK (by rw[q];simp)]at e;cases e)
  have hM:Mod K mg (rq s₁.heap H):=⟨B,c l,⟨I,c hb,L⟩,let ⟨mc,h1,h2⟩:=j;⟨mc,c h1,h2⟩⟩;have T:Ec P w K mg (rq s₁.heap H) callerA [] s₁ H:=⟨O,hM,λb o e=>CP e,Nat.le_of_eq (xW _ _),trivial,λb hb=>absurd (show b∈([]:List c0)from hb) (by simp),p,.of_eq hg⟩;refine codeAny_mono ((F _ B (c l)).run callerA [] s₁ H ⟨[.ref a],[]⟩ [.ref a] [.ref a] _ _ hr T (g s₁ (.ref a)) (.cons O .nil) (D H Q hS)) λr s' h=>?_;cases r with
  |error e=>exact(ag H e s' h).elim
  |ok fl=>
   cases fl with
   |next=>exact False.elim h
   |brk=>exact False.elim h
   |cont=>exact False.elim h
   |ret u=>
    obtain⟨v,H',U,A,un,i,W,q⟩:=h;have q':v = .bl M:=q;subst q';obtain rfl:u=Value.bool true:=W;refine⟨O,OldK.of_keep λb o e=>?_,U,A⟩;cases q:H b with
    |none=>exact un.keep b o e q (by intro z;exact absurd (show b∈([]:List c0)from z) (by simp)) (by simp)
    |some u=>
     rcases Q b with z|⟨X,xs,z⟩
     ·rw[q]at z;cases z
     ·have ai:=un.frzs b X _ z;obtain⟨ah,_⟩:=p b _ z;obtain⟨wq,_⟩:=i b _ ai;rw[e]at ah;cases ah;exact wq
 cases hk:K.lookup a with
 |some o=>
  -- the script is one of the module's own objects
  have e:=N a o hk;rw[ha]at e;cases e;refine f (λ_=>Y) (λ_=>.inl O) (.inr ⟨_,vs.toArray,_,hk,O,O,O,by rw[sT1,y];exact R,by simpa using S⟩) (λb u z=>by have t:(Y:Option HO)=Z u:=z;cases t) (λb z=>absurd O z) λz=>absurd O z
 |none=>
  refine f (λb=>if b=a then Z (.frz {cls:=.type "list",data:=.seq vs.toArray} (.lst (ns.map V.int)))else Y) (λb=>?_) (.inl (.inr ⟨{cls:=.type "list",data:=.seq vs.toArray},ae O⟩)) (λb u z=>?_) (λb z=>?_) λ_=>hk
  ·by_cases hb:b=a
   ·exact .inr ⟨_,_,ae hb⟩
   ·exact .inl (ab hb)
  ·by_cases hb:b=a
   ·have t:=(ae hb).symm.trans z;cases t;subst hb;exact⟨ha,by rw[lM1];exact R,vs,_,S,ha⟩
   ·have t:=(ab hb).symm.trans z;cases t
  ·by_cases hb:b=a
   ·exact hb
   ·exact absurd (ab hb) z
end L2
namespace L2
open PySem PySem.Spec PyProof.Rows
theorem BY{l:PySem.W.OpenLaw}{n k:Nat}{q:c5}{g:List Str}{XP:(Str->Option cY)->de->Prop}{C:c7->de->Prop}{d:DefRec}{K:Params->Fg1}{CX:c7->yu}{sp:c7->Sp}{x:Str}(hn:l.most=some n)(t:n<=da)(r:d.params.defaults=[])(hr:fB k callerA)(ah:∀(w:c7) (h:de),C w h->(K w.params).In h)(F:∀(w:c7) (mg:Str->Option cY) (m:c0) (h:de),(K w.params).In h->h.Ns c8 mg->mg d.name=some (.ref m) ->
   ∃fd:df,(∀(s:cZ) (u:cY),BindsTo s fd ⟨[u],[]⟩ [(x,u)]) /\
    ∀base:de,(K w.params).In base->base.Ns c8 mg->jK l.prog w (K w.params) mg base (CX w) k m fd [x] (sp w))(p:∀(w:c7) (H:Hp) (a:c0) (ns:List Int),ns.length<=n->Ea H->lI (K w.params) H a (ns.map V.int)->sp w [.ref a] H (λv _=>v = .bl M) λ_ _ _=>False)(z:∀(w:c7) (H:Hp) (s:cZ) (e:cY) (s':cZ),CX w [] H s (λ_ _ _=>False) e s'->False):
  PySem.W.WalkO q g XP C l.row.toRowW d [] (λf vs=>PySem.call f vs):=by
 refine Att.attach_call hn r λw A j mg S m o R P ag a vs ns G ai T Q D y i c b aj=>?_;have B:=ah w _ ai;obtain⟨fd,E,I⟩:=F w mg m _ B G.T.g y;exact AN B G.T.g G.T.b G.T.builtins G.T.nolimit aj i c (av b t) hr I E (λH L N=>p w H a ns b L N) λH e s'=>z w H j e s'
end L2
namespace L2
open PySem PySem.Spec PyProof.Rows
def im(s:dg):Arguments:=match s with
 | .FunctionDef _ a _ _ _ _ _ _ _ _=>a
 |_=>{posonlyargs:=[],args:=[],vararg:=Y,kwonlyargs:=[],kw_defaults:=[],kwarg:=Y,defaults:=[]}
def fe(s:dg):List dg:=match s with
 | .FunctionDef _ _ b _ _ _ _ _ _ _=>b
 |_=>[]
def dI(s:dg):dh:=match s with
 | .FunctionDef _ _ _ _ _ _ sc _ _ _=>sc
 |_=>{kind:=.function,names:=[],isGenerator:=J,isCoroutine:=J}
abbrev um:yu:=λ_ _ _ _ _ _=>False
abbrev E0:XK:=λ_ _ _=>False
theorem Eo{X:Cx}:sm um X E0:=λ_ _ _ _ _ _ _ h=>h.elim
structure xa (K:Fg1)(x qual:Str)(st:dg)(f:c0)(fd:df):Prop where
 ex:∃(oc:cY) (od:Option c0) (kV doc pm:cY) (an:Option c0) (cdv ct:cY) (osl:Array (Option cY)),
  fd=wF1 x qual (im st) (fe st) (dI st) .none kV doc pm an cdv ct/\K.lookup f=some ⟨oc,od,.func fd,osl⟩/\wC1 K cdv qual=true
 kp:wK1 K (.ref f)=true
section
variable{P:c5}{w:c7}{K:Fg1}{mg:Str->Option cY}{base:de}
theorem xa.ok{x b:Str}{st:dg}{f:c0}{fd:df}{N ps:List Str}{k:Nat}{sp:Sp}(F:xa K x b st f fd)(S:gv N ps (dI st))(len:∀ vs H Q E,sp vs H Q E->vs.length=ps.length)(d:∀(c:cY) (A:c6) (a:List Env) (s:cZ) (H:Hp) (vs:List V) (Q:VK) (E:XK),fB k (A.deeper (envOfC b (dI st) s.heap.objs.size f c))->sp vs H Q E ->
   ∃t,uw (mW um P w K mg base N b (dI st) f c A a s H E).nox (fe st) t/\t {nx:=λ_ H'=>Q .non H',rt:=Q} (jj N vs) H):jK P w K mg base um (k+1) f fd ps sp:=by
 obtain⟨o,p,kV,j,n,m,c,ct,i,rfl,lk,e⟩:=F.ex;refine Jz lk e S len λA a s H vs Q E l g=>?_;obtain⟨t,h,q⟩:=d c A a s H vs Q E l g;exact⟨t,h.nox,q⟩
theorem xa.binds{x a:Str}{st:dg}{f:c0}{fd:df}{ps:List Str}(F:xa K x a st f fd)(h:∀(kV c e:cY) (d:Option c0) (b ct:cY) (g:List cY),g.length=ps.length->bindArgs (wF1 x a (im st) (fe st) (dI st) .none kV c e d b ct) ⟨g,[]⟩=pure (ps.zip g)):jd K fd ps []:=by
 obtain⟨k,l,kV,c,e,d,b,ct,i,rfl,lk,j⟩:=F.ex;exact .all (h kV c e d b ct)
theorem AY{x a:Str}{st:dg}{f:c0}{i:cY}{j g:Option c0}{e:Array (Option cY)}{kV d h b ct:cY}(l:K.lookup f=Z ⟨i,j,.func (wF1 x a (im st) (fe st) (dI st) .none kV d h g b ct),e⟩)(c:wC1 K b a=M)(k:wK1 K (.ref f)=M):xa K x a st f (wF1 x a (im st) (fe st) (dI st) .none kV d h g b ct):=⟨⟨i,j,kV,d,h,g,b,ct,e,O,l,c⟩,k⟩
end
section
variable{X:Cx}
end
def o5(H H':Hp):Prop:=∀b o,H b=Z o->H' b=Z o
theorem o5.refl(H:Hp):o5 H H:=λ_ _ h=>h
theorem o5.trans{H H1 H2:Hp}(a:o5 H H1)(b:o5 H1 H2):o5 H H2:=λc o h=>b c o (a c o h)
theorem o5.free{H H':Hp}(e:o5 H H'){l:c0}(h:H' l=Option.none):H l=Option.none:=by
 cases q:H l with
 |none=>rfl
 |some o=>
  rw[e l o q]at h;cases h
theorem o5.seq{K:Fg1}{H H':Hp}{a:c0}{xs:List V}(e:o5 H H')(h:lI K H a xs):lI K H' a xs:=by
 rcases h with(h|⟨o,h⟩)|h
 ·exact .inl (.inl (e _ _ h))
 ·exact .inl (.inr ⟨o,e _ _ h⟩)
 ·exact .inr h
end L2
namespace L2
open PySem PySem.Spec PyProof.Rows
section
variable{κ:Type} [DecidableEq κ]
def gD(kvs:List (κ×V))(k:κ):Option V:=(kvs.find? λkv=>decide (kv.1=k)).map (·.2)
def iP(kvs:List (κ×V))(k:κ)(v:V):List (κ×V):=
 if(kvs.any λkv=>decide (kv.1=k))=M then kvs.map (λkv=>if kv.1=k then(kv.1,v)else kv)else kvs++[(k,v)]
def EG(kvs:List (κ×V))(k:κ):List (κ×V):=kvs.filter λkv=>decide (kv.1≠k)
theorem nq{p:κ×V}{r:List (κ×V)}{k:κ}(e:p.1=k):gD (p::r) k=Z p.2:=by simp[gD,aU,e]
theorem nr{p:κ×V}{r:List (κ×V)}{k:κ}(e:¬ p.1=k):gD (p::r) k=gD r k:=by simp[gD,aU,e]
theorem sD(k:κ):∀kvs:List (κ×V),(kvs.any λa=>decide (a.1=k))=(gD kvs k).isSome
 |[]=>rfl
 |p::r=>by
  rw[aV];by_cases e:p.1=k
  ·simp only[nq e,Z9 e,Bool.true_or,Option.isSome_some]
  ·rw[nr e,aa e,Bool.false_or];exact sD k r
theorem jw(kvs:List (κ×V))(k:κ)(v:V):(iP kvs k v).length<=kvs.length+1:=by
 unfold iP;split
 ·rw[lM1];lia
 ·rw[lA1,lC1,aW];lia
theorem kC.isSome_eq{o:Option V}{u:Option cY}(r:kC o u):o.isSome=u.isSome:=by
 cases o with
 |none=>cases u with
  |none=>rfl
  |some _=>exact(show False from r).elim
 |some _=>cases u with
  |none=>exact(show False from r).elim
  |some _=>rfl
theorem kC.getD{o:Option V}{u:Option cY}{d:V}{d':cY}(r:kC o u)(a:dG d d'):dG (o.getD d) (u.getD d'):=by
 cases o with
 |none=>cases u with
  |none=>exact a
  |some _=>exact(show False from r).elim
 |some _=>cases u with
  |none=>exact(show False from r).elim
  |some _=>exact r
theorem KV.val{kvs:List (κ×V)}{vs:List (κ×cY)}(r:KV kvs vs)(k:κ):kC (gD kvs k) (valueAt vs k):=by
 unfold KV at r
 induction r with
 |nil=>exact True.intro
 | @cons p q ps c h t ih=>
  obtain⟨h1,h2⟩:=h;by_cases e:p.1=k
  ·have a:q.1=k:=h1.symm.trans e;have b:valueAt (q::c) k=Z q.2:=by simp[valueAt,aU,a]
   rw[nq e,b];exact h2
  ·have a:¬ q.1=k:=λz=>e (h1.trans z);have b:valueAt (q::c) k=valueAt c k:=by simp[valueAt,aU,a]
   rw[nr e,b];exact ih
theorem KV.any{kvs:List (κ×V)}{vs:List (κ×cY)}(r:KV kvs vs)(k:κ):(kvs.any λa=>decide (a.1=k))=vs.any λa=>decide (a.1=k):=by
 unfold KV at r
 induction r with
 |nil=>rfl
 |cons h t ih=>rw[aV,aV,ih,h.1]
theorem KV.repl{kvs:List (κ×V)}{vs:List (κ×cY)}(r:KV kvs vs)(k:κ){y:V}{u:cY}(b:dG y u):
  KV (kvs.map λa=>if a.1=k then(a.1,y)else a) (vs.map λa=>if a.1=k then(a.1,u)else a):=by
 unfold KV at r ⊢
 induction r with
 |nil=>exact .nil
 | @cons p q ps c h t ih=>
  rw[mP1,mP1];refine .cons ?_ ih;obtain⟨h1,h2⟩:=h;by_cases e:p.1=k
  ·rw[ae e,ae (h1.symm.trans e)];exact⟨h1,b⟩
  ·rw[ab e,ab (λz=>e (h1.trans z))];exact⟨h1,h2⟩
theorem KV.put{kvs:List (κ×V)}{vs:List (κ×cY)}(r:KV kvs vs)(k:κ){y:V}{u:cY}(a:dG y u):KV (iP kvs k y) (stored vs k u):=by
 unfold iP stored;rw[r.any k];by_cases e:(vs.any λb=>decide (b.1=k))=M
 ·rw[ae e,ae e];exact r.repl k a
 ·rw[ab e,ab e];exact Paired.snoc r ⟨O,a⟩
theorem KV.drop{kvs:List (κ×V)}{vs:List (κ×cY)}(r:KV kvs vs)(k:κ):KV (EG kvs k) (without vs k):=by
 unfold KV at r ⊢;unfold EG without
 induction r with
 |nil=>exact .nil
 | @cons p q ps d h t ih=>
  obtain⟨h1,h2⟩:=h;rw[aX,aX];by_cases e:p.1=k
  ·have a:¬ decide (p.1≠k)=M:=by simp[e]
   have b:¬ decide (q.1≠k)=M:=by simp[h1.symm.trans e]
   rw[ab a,ab b];exact ih
  ·have c:¬ q.1=k:=λz=>e (h1.trans z);have a:decide (p.1≠k)=M:=by simp[e]
   have b:decide (q.1≠k)=M:=by simp[c]
   rw[ae a,ae b];exact .cons ⟨h1,h2⟩ ih
theorem KV.keys{kvs:List (κ×V)}{vs:List (κ×cY)}(r:KV kvs vs):kvs.map (·.1)=vs.map (·.1):=by
 unfold KV at r
 induction r with
 |nil=>rfl
 |cons h t ih=>rw[mP1,mP1,ih,h.1]
theorem KV.length{kvs:List (κ×V)}{vs:List (κ×cY)}(r:KV kvs vs):kvs.length=vs.length:=Paired.length r
end
theorem pA{P:c5}{w:c7}{k:Key}{u:cY}(r:dG (kV k) u):(eZ P w).is k u=M:=by
 cases k with
 |inl i=>obtain⟨t,e⟩:=(show∃t,u=Value.int i t from r);subst e;exact tz P w i t
 |inr x=>obtain⟨t,e⟩:=(show∃t,u=Value.str x t from r);subst e;exact tw P w x t
theorem pB{P:c5}{w:c7}:∀{ks:List Key} {a:List cY},dR (ks.map kV) a->ItemsAre (eZ P w) ks a
 |[],_,r=>by rw[aT]at r;cases r;exact .nil
 |k::ks,_,r=>by
  rw[mP1]at r;cases r with
  |cons h t=>exact .cons (pA h) (pB t)
abbrev KT(H:Hp):List (List Key×V)->List (List Key×c0×cY)->Prop:=Paired λp q=>p.1=q.1/\H q.2.1=Z (.tup (p.1.map kV))/\dG p.2 q.2.2
theorem KT.val{H:Hp}{kvs:List (List Key×V)}{xs:List (List Key×c0×cY)}(r:KT H kvs xs)(k:List Key):kC (gD kvs k) ((atKey xs k).map (·.2)):=by
 induction r with
 |nil=>exact True.intro
 | @cons p q ps c h t ih=>
  obtain⟨h1,_,h2⟩:=h;by_cases e:p.1=k
  ·have a:q.1=k:=h1.symm.trans e;have b:atKey (q::c) k=Z q.2:=by simp[atKey,aU,a]
   rw[nq e,b];exact h2
  ·have a:¬ q.1=k:=λz=>e (h1.trans z);have b:atKey (q::c) k=atKey c k:=by simp[atKey,aU,a]
   rw[nr e,b];exact ih
theorem KT.repl{H:Hp}{kvs:List (List Key×V)}{xs:List (List Key×c0×cY)}(r:KT H kvs xs)(k:List Key){y:V}{u:cY}(b:dG y u):
  KT H (kvs.map λa=>if a.1=k then(a.1,y)else a) (xs.map (putAt k u)):=by
 induction r with
 |nil=>exact .nil
 | @cons p q ps d h t ih=>
  rw[mP1,mP1];refine .cons ?_ ih;obtain⟨h1,h2,c⟩:=h;unfold putAt;by_cases e:p.1=k
  ·rw[ae e,ae (h1.symm.trans e)];exact⟨h1,h2,b⟩
  ·rw[ab e,ab (λz=>e (h1.trans z))];exact⟨h1,h2,c⟩
theorem KT.put{H:Hp}{kvs:List (List Key×V)}{xs:List (List Key×c0×cY)}(r:KT H kvs xs)(k:List Key){b:c0}{y:V}{u:cY}(hb:H b=some (.tup (k.map kV)))(a:dG y u):
  KT H (iP kvs k y) (storedH xs k b u):=by
 have e:(kvs.any λc=>decide (c.1=k))=(atKey xs k).isSome:=by
  rw[sD,(r.val k).isSome_eq,aY]
 unfold iP storedH;rw[e];by_cases q:(atKey xs k).isSome=M
 ·rw[ae q,ae q];exact r.repl k a
 ·rw[ab q,ab q];exact Paired.snoc r ⟨O,hb,a⟩
theorem KT.keeps{H H':Hp}{kvs:List (List Key×V)}{xs:List (List Key×c0×cY)}(r:KT H kvs xs)(ht:∀b ys,H b=Z (.tup ys)->H' b=Z (.tup ys)):KT H' kvs xs:=
 Paired.mapP r λ_ _ z=>⟨z.1,ht _ _ z.2.1,z.2.2⟩
section
variable{P:c5}{w:c7}{H:Hp}{h:de}{a:c0}
theorem Em{u:HO}(ok:kE P w H h)(e:Rd H a u):eA P w H h a u:=e.ok ok
theorem oy{kvs:List (Key×V)}(ok:kE P w H h)(e:Rd H a (.dK kvs)):kvs.length<=da/\(a == sysModules)=J /\ ∃vs,KV kvs vs/\h.DictOf (eZ P w) a vs:=
 show eA P w H h a (.dK kvs)from Em ok e
theorem wS{kvs:List (Key×V)}(ok:kE P w H h)(e:H a=Z (.dK kvs)):kvs.length<=da/\(a == sysModules)=J /\ ∃vs,KV kvs vs/\h.DictOf (eZ P w) a vs:=oy ok (.inl e)
theorem nZ{ks:List Key}(ok:kE P w H h)(e:H a=Z (.tup (ks.map kV))):(tupleKind (eZ P w)).is h ks a:=by
 obtain⟨_,b,r,o,h1,h2,n,c⟩:=(show eA P w H h a (.tup (ks.map kV))from ok a _ e);exact⟨o,b.toArray,n,h1,h2,c,by simpa using pB r⟩
theorem pN{kvs:List (List Key×V)}(ok:kE P w H h)(e:Rd H a (.dT kvs)):kvs.length<=da/\(a == sysModules)=false /\
  ∃xs,KT H kvs xs/\h.DictOfH (tupleKind (eZ P w)) a xs:=by
 obtain⟨z,y,xs,r,o,es,ep,h1,h2,f,g,d⟩:=(show eA P w H h a (.dT kvs)from Em ok e);refine⟨z,y,xs,r,o,es,ep,h1,h2,f,g,λx b=>?_,d⟩;have all:∀{l:List (List Key×V)} {m:List (List Key×c0×cY)},KT H l m -> ∀x∈m,(tupleKind (eZ P w)).is h x.1 x.2.1:=by
  intro l m q
  induction q with
  |nil=>intro x b;exact nomatch b
  | @cons p q ps i c t ih=>
   intro x b;rcases ay.mp b with e|b
   ·subst e;exact nZ ok (by rw[<- c.1];exact c.2.1)
   ·exact ih x b
 exact all r x b
theorem JD{kvs:List (List Key×V)}(ok:kE P w H h)(e:H a=some (.dT kvs)):kvs.length<=da/\(a == sysModules)=false /\
  ∃xs,KT H kvs xs/\h.DictOfH (tupleKind (eZ P w)) a xs:=pN ok (.inl e)
end
def pb(H:Hp)(a:c0)(y:V)(r:Option V):Prop:=
 (∃kvs k,Rd H a (.dK kvs)/\y=kV k/\r=gD kvs k) \/ ∃kvs k b,Rd H a (.dT kvs)/\y = .ref b/\H b=Z (.tup (k.map kV))/\r=gD kvs k
def yt(H:Hp)(a:c0)(y v:V)(H':Hp):Prop:=
 (∃kvs k,H a=Z (.dK kvs)/\y=kV k/\kvs.length<da/\H'=upd H a (.dK (iP kvs k v))) \/
 ∃kvs k b,H a=Z (.dT kvs)/\y = .ref b/\H b=Z (.tup (k.map kV))/\kvs.length<da/\H'=upd H a (.dT (iP kvs k v))
theorem pb.k{H:Hp}{a:c0}{kvs:List (Key×V)}{k:Key}(e:H a=Z (.dK kvs)):pb H a (kV k) (gD kvs k):=.inl ⟨kvs,k,.inl e,O,O⟩
theorem pb.t{H:Hp}{a b:c0}{kvs:List (List Key×V)}{k:List Key}(e:H a=Z (.dT kvs))(eb:H b=Z (.tup (k.map kV))):pb H a (.ref b) (gD kvs k):=.inr ⟨kvs,k,b,.inl e,O,eb,O⟩
theorem yt.k{H:Hp}{a:c0}{kvs:List (Key×V)}{k:Key}{v:V}(e:H a=Z (.dK kvs))(b:kvs.length<da):yt H a (kV k) v (upd H a (.dK (iP kvs k v))):=.inl ⟨kvs,k,e,O,b,O⟩
theorem yt.t{H:Hp}{a b:c0}{kvs:List (List Key×V)}{k:List Key}{v:V}(e:H a=some (.dT kvs))(eb:H b=some (.tup (k.map kV)))(c:kvs.length<da):
  yt H a (.ref b) v (upd H a (.dT (iP kvs k v))):=.inr ⟨kvs,k,b,e,O,eb,c,O⟩
section
variable{X:Cx}{Z8:List (c0×Obj)}{σ:St}{H:Hp}{s:cZ}{a:c0}{y v:V}{u r:cY}{o:Option V}{A:c6}{E:cY->cZ->Prop}
theorem Inv.big(I:Inv X Z8 σ H s):sysModules<s.heap.objs.size:=by
 have h:c8<s.heap.objs.size:=(I.mod.glob.keeps I.bk).lt;exact aZ (by decide) h
theorem yd{Q:cY->cZ->Prop}(t:A.units+1<cLine)(I:Inv X Z8 σ H s)(g:pb H a y (some v))(q:dG y u)(h:∀ f s',Inv X Z8 σ H s'->dG v f->Q f s'):
  db (model X.prog X.w) A (getItem (.ref a) u) Q E s:=by
 rcases g with⟨kvs,k,e,j,l⟩|⟨kvs,k,b,e,j,eb,l⟩
 ·subst j;obtain⟨z,r,vs,d,n⟩:=oy I.hok e;obtain⟨f,i,c⟩:=kC.some_of (v:=v) (o:=valueAt vs k) (by rw[l];exact d.val k);exact wpAny_getItem_of (pA q) n.mapOf i (h f _ (I.tok _) c)
 ·subst j;cases(show u=Value.ref b from q);obtain⟨z,r,xs,d,n⟩:=pN I.hok e;obtain⟨f,i,c⟩:=kC.some_of (v:=v) (o:=(atKey xs k).map (·.2)) (by rw[l];exact d.val k);obtain⟨p,w,m⟩:=oM1.mp i;refine wpAny_getItem_heap (tupleKind_room_in1 t) (nZ I.hok eb) n w ?_;rw[m];exact h f _ (I.tok _) c
theorem K6{Q:cY->cZ->Prop}(m:A.units+1<cLine)(I:Inv X Z8 σ H s)(g:pb H a y o)(j:dG y u)(h:∀ s',Inv X Z8 σ H s'->Q (.bool o.isSome) s'):
  db (model X.prog X.w) A (compareOp .In u (.ref a)) Q E s:=by
 rcases g with⟨kvs,k,e,f,l⟩|⟨kvs,k,b,e,f,eb,l⟩
 ·subst f;obtain⟨z,d,vs,c,i⟩:=oy I.hok e;refine wpAny_in_of (pA j) d i.mapOf ?_;rw[<- (c.val k).isSome_eq,<- l];exact h _ (I.tok _)
 ·subst f;cases(show u=Value.ref b from j);obtain⟨z,d,xs,c,i⟩:=pN I.hok e;refine wpAny_in_heap (tupleKind_room_in1 m) (nZ I.hok eb) d i ?_;have q:=(c.val k).isSome_eq;rw[aY]at q;rw[<- q,<- l];exact h _ (I.tok _)
theorem DS{Q:cY->cZ->Prop}(m:A.units+1<cLine)(I:Inv X Z8 σ H s)(g:pb H a y o)(j:dG y u)(h:∀ s',Inv X Z8 σ H s'->Q (.bool (!o.isSome)) s'):
  db (model X.prog X.w) A (compareOp .NotIn u (.ref a)) Q E s:=by
 rcases g with⟨kvs,k,e,f,l⟩|⟨kvs,k,b,e,f,eb,l⟩
 ·subst f;obtain⟨z,d,vs,c,i⟩:=oy I.hok e;refine wpAny_notIn_of (pA j) d i.mapOf ?_;rw[<- (c.val k).isSome_eq,<- l];exact h _ (I.tok _)
 ·subst f;cases(show u=Value.ref b from j);obtain⟨z,d,xs,c,i⟩:=pN I.hok e;refine wpAny_notIn_heap (tupleKind_room_in1 m) (nZ I.hok eb) d i ?_;have q:=(c.val k).isSome_eq;rw[aY]at q;rw[<- q,<- l];exact h _ (I.tok _)
theorem lx{h':de}{t':Nat}{c:HO}(I:Inv X Z8 σ H s)(mu:HH (H a))(hs:Heap.SameBut a s.heap h')(he:∃ q,h'.get? a=some q)(new:eA X.prog X.w (upd H a c) h' a c):
  Inv X Z8 σ (upd H a c) {s with heap:=h',toks:=t'}:=
 I.write (x:=a) (e:=a) mu (.inl O) (λb q d z=>(hs.2 b d).trans z) he new
theorem A9{P:c5}{w:c7}{H':Hp}{h':de}{kvs:List (Key×V)}{vs:List (Key×cY)}(z:kvs.length<=da)(hd:(a == sysModules)=false)(b:KV kvs vs)(c:h'.DictOf (eZ P w) a vs):
  eA P w H' h' a (.dK kvs):=⟨z,hd,vs,b,c⟩
theorem yc{H':Hp}{Q:Unit->cZ->Prop}(F:A.units+1<cLine)(I:Inv X Z8 σ H s)(g:yt H a y v H')(x:dG y u)(C:dG v r)(h:∀ s',Inv X Z8 σ H' s'->Q () s'):
  db (model X.prog X.w) A (setItem (.ref a) u r) Q E s:=by
 rcases g with⟨kvs,k,e,n,l,m⟩|⟨kvs,k,b,e,n,eb,l,m⟩
 ·subst n m;obtain⟨z,j,vs,d,o⟩:=wS I.hok e;have t:vs.length<=da:=by rw[<- d.length];exact z
  have p:(iP kvs k v).length<=da:=by have:=jw kvs k v;lia
  refine wpAny_setItem_pairs (hsz:=t) (pA x) o λh' f w=>h _ ?_;have K:∃q,h'.get? a=Z q:=let ⟨q,_,_,i,_⟩:=f;⟨q,i⟩
  exact lx I (by rw[e];exact True.intro) w K (A9 p j (d.put k C) f)
 ·subst n m;cases(show u=Value.ref b from x);obtain⟨z,j,xs,d,o⟩:=JD I.hok e;have t:xs.length<=da:=by rw[<- Paired.length d];exact z
  have p:(iP kvs k v).length<=da:=by have:=jw kvs k v;lia
  refine wpAny_setItem_heap (hsz:=t) (tupleKind_room_in1 F) (nZ I.hok eb) o λh' f w=>h _ ?_;obtain⟨q,es,ep,i,h2,G,ag,_,D⟩:=f;refine lx I (by rw[e];exact True.intro) w ⟨q,i⟩ ⟨p,j,_,(d.put k eb C).keeps λc ys B=>?_,q,es,ep,i,h2,G,ag,D⟩;rw[dM (IU B e (λz=>nomatch z))];exact B
end
section
variable{X:Cx}{Z8:List (c0×Obj)}{σ:St}{H:Hp}{s:cZ}{a:c0}{kvs:List (Key×V)}{k:Key}{u:cY}{A:c6}{E:cY->cZ->Prop}
theorem JE{Q:cY->cZ->Prop}(I:Inv X Z8 σ H s)(e:Rd H a (.dK kvs))(h:∀t s',Inv X Z8 σ H s'->Q (.int kvs.length t) s'):db (model X.prog X.w) A (call (.builtin "len") [.ref a]) Q E s:=by
 obtain⟨z,c,vs,b,d⟩:=oy I.hok e;refine call_len_dict c d (by rw[<- b.length];rw[sizeLine_eq]at z;lia) ?_;rw[<- b.length];exact h _ _ (I.tok _)
end
theorem t0{X:Cx}{Z8:List (c0×Obj)}{σ:St}{H:Hp}{s:cZ}{a:c0}{y:V}{o:Option V}(I:Inv X Z8 σ H s)(g:pb H a y o):s.TypeIs (.ref a) "dict":=by
 rcases g with⟨kvs,k,e,_,_⟩|⟨kvs,k,b,e,_,_,_⟩
 ·obtain⟨_,_,vs,_,c⟩:=oy I.hok e;exact c.typeIs
 ·obtain⟨_,_,xs,_,c⟩:=pN I.hok e;exact c.typeIs
section
variable{X:Cx}{o i e value:Expr}{pos pos' tpos:Pos}{td ty tv:TE}
end
theorem Ba{P:c5}{w:c7}{H:Hp}(h:de)(hb:sysModules<h.objs.size):eA P w H (h.push {cls:=.type "dict",data:=.dict #[]}) h.objs.size (.dK []):=
 ⟨a0 _,beq_eq_false_iff_ne.mpr (Ne.symm (nN1 hb)),[],.nil,Heap.DictOf.new h⟩
def Fb:TE:=λ_ H Q=>∀p,H p=Y->Q (.ref p) (upd H p (.dK []))
section
variable{X:Cx}{pos:Pos}
theorem zO:PE X (.Dict [] [] pos) Fb:=λZ8 s σ H Q I h=>
 wpAny_Dict_empty ⟨.ref s.heap.objs.size,_,I.laid (a:=s.heap.objs.size) (o:=.dK []) (t':=s.toks) (λ_ _ q=>hP1 _ q) (nR1 _) (Ba s.heap I.big),O,h _ (I.hok.fresh (nR1 _))⟩
end
def zd:List (TE×TE)->St->Hp->(List (V×V)->Hp->Prop)->Prop
 |[],_,H,Q=>Q [] H
 |(tk,tv)::r,σ,H,Q=>tk σ H λx H1=>tv σ H1 λy H2=>zd r σ H2 λps H3=>Q ((x,y)::ps) H3
abbrev VV:List (V×V)->List (cY×cY)->Prop:=Paired λp q=>dG p.1 q.1/\dG p.2 q.2
def Mx(X:Cx)(pos:Pos)(keys:List (Option Expr))(values:List Expr)(trs:List (TE×TE)):Prop:=
 ∀(Z8:List (c0×Obj)) (s:cZ) (σ:St) (H:Hp) (Q:List (V×V)->Hp->Prop),Inv X Z8 σ H s->zd trs σ H Q ->
  db (model X.prog X.w) X.A (evalPairs (pairTrees keys values X.env pos)) (λvs s'=>∃ps H',Inv X Z8 σ H' s'/\VV ps vs/\Q ps H') X.xe s
structure M2 (X:Cx)(o:Expr)(m:Str)(apos:Pos)(e f:Expr)(cpos:Pos):Prop where
 base:attributeBase o m X.env (eval o X.env)=eval o X.env
 few:((backTo cpos (c9 [e,f] X.env)).all (λx=> !x.1)&&(backToKw cpos (keywordEach [] X.env)).all (λx=>x.1.isSome)
  && decide (([e,f]:List Expr).length+([]:List Keyword).length+(if([]:List Keyword).isEmpty then 0 else 1)<30))=true
 line:(apos.endLine == cpos.line)=true
 trees:backTo cpos (c9 [e,f] X.env)=[(false,eval e X.env),(false,eval f X.env)]
def Lr(H:Hp)(a:c0):Prop:=(∃kvs,Rd H a (.dK kvs)) \/ ∃kvs,Rd H a (.dT kvs)
theorem G4{X:Cx}{Z8:List (c0×Obj)}{σ:St}{H:Hp}{s:cZ}{a:c0}(I:Inv X Z8 σ H s)(d:Lr H a):
  s.TypeIs (.ref a) "dict"/\(∀b,Value.ref a = .ref b -> ∃c,s.heap.get? b=Z c/\c.dict=Y)/\(a == sysModules)=J:=by
 rcases d with⟨kvs,e⟩|⟨kvs,e⟩
 ·obtain⟨_,g,vs,_,f⟩:=oy I.hok e;refine⟨f.typeIs,λb q=>?_,g⟩;cases q;obtain⟨c,_,_,h1,h2,_⟩:=f;exact⟨c,h1,h2.2.1⟩
 ·obtain⟨_,g,xs,_,f⟩:=pN I.hok e;refine⟨f.typeIs,λb q=>?_,g⟩;cases q;obtain⟨c,_,_,h1,h2,_⟩:=f;exact⟨c,h1,h2.2.1⟩
section
variable{X:Cx}{Z8:List (c0×Obj)}{σ:St}{H:Hp}{s:cZ}{a:c0}{y d:V}{u r:cY}{o:Option V}{A:c6}{E:cY->cZ->Prop}
end
section
variable{X:Cx}{o e f:Expr}{apos cpos:Pos}{td ty tx:TE}
end
section
variable{X:Cx}{Z8:List (c0×Obj)}{σ:St}{H:Hp}{s:cZ}{a:c0}{kvs:List (Key×V)}{A:c6}{E:cY->cZ->Prop}
end
section
variable{X:Cx}{Z8:List (c0×Obj)}{σ:St}{H:Hp}{s:cZ}{a:c0}{y:V}{u:cY}{A:c6}{E:cY->cZ->Prop}
end
end L2
namespace Mi
open PySem PySem.Spec PyProof.Rows L2
inductive TK where
 |non|int (i:Int)|tup (xs:List TK)
instance:DecidableEq TK:=λ_ _=>Classical.propDecidable _
mutual
def TK.hash:TK->Int
 | .non=>0xFCA86420
 | .int i=>hashInt i
 | .tup xs=>reduceHash (Builtin.Tuple.tupleHashOf (TK.hashes xs))
def TK.hashes:List TK->List Int
 |[]=>[]
 |x::xs=>TK.hash x::TK.hashes xs
end
mutual
def TK.draws:TK->Nat
 | .non=>1
 | .int _=>1
 | .tup xs=>TK.drawsAll xs+1
def TK.drawsAll:List TK->Nat
 |[]=>0
 |x::xs=>TK.draws x+TK.drawsAll xs
end
mutual
def TK.dep:TK->Nat
 | .non=>0
 | .int _=>0
 | .tup xs=>TK.depAll xs+1
def TK.depAll:List TK->Nat
 |[]=>0
 |x::xs=>max (TK.dep x) (TK.depAll xs)
end
theorem TK.dep_mem:∀{xs:List TK} {x:TK},x∈xs->x.dep<=TK.depAll xs
 |y::ys,x,h=>by
  rw[TK.depAll];rcases ay.mp h with e|e
  ·rw[e];exact Nat.le_max_left _ _
  ·exact av (TK.dep_mem e) (Nat.le_max_right _ _)
theorem TK.hashes_app:∀a b:List TK,TK.hashes (a++b)=TK.hashes a++TK.hashes b
 |[],_=>rfl
 |x::xs,b=>by rw[ba,TK.hashes,TK.hashes,TK.hashes_app xs b];rfl
theorem TK.draws_app:∀a b:List TK,TK.drawsAll (a++b)=TK.drawsAll a+TK.drawsAll b
 |[],_=>by simp[TK.drawsAll]
 |x::xs,b=>by rw[ba,TK.drawsAll,TK.drawsAll,TK.draws_app xs b,bb]
def vw(xs:Array Nat):Prop:=xs.toList.Pairwise (· < ·)
def fW(m:Nat):Nat->Nat->Nat->List Nat
 |0,_,_=>[]
 |n+1,i,b=>bc i (SetTable.runEnd m i-i+1)++fW m n (SetTable.leap m i b).1 (SetTable.leap m i b).2
def xy(m:Nat):Prop:=m=7\/m=31\/m=127
def mP(m:Nat)(h:Int):List Nat:=fW m (SetTable.turns m) (SetTable.bits h%(m+1)) (SetTable.bits h)
def xw(m:Nat)(occ:List Nat)(h:Int)(j:Nat):Prop:=∃pre post,mP m h=pre++j::post /\ ∀y∈pre,y∈occ
structure sTT (es:Array (Int×cY))(t:SetTable):Prop where
 mks:xy t.mask
 up:vw t.place
 du:t.dummies = #[]
 sz:t.place.size=es.size
 le:∀j∈t.place.toList,j<=t.mask
 fl:es.size<=t.mask
 rc:∀z∈t.place.toList.zip es.toList,xw t.mask t.place.toList z.2.1 z.1
def stO(es:Array (Int×cY))(ep:Nat)(t:SetTable):Obj:={cls:=.type "set",dict:=Y,data:=.set es ep t,slots:= #[]}
def ul(a:c0)(xs:List (TK×c0×cY))(h:de):Prop:=(xs.map (·.1)).Nodup /\ ∃es ep t,h.get? a=Z (stO es ep t)/\sTT es t/\t.tooFull=J/\(∀e∈es.toList,∃z∈xs,e=(z.1.hash,.ref z.2.1))/\(∀z∈xs,(z.1.hash,Value.ref z.2.1)∈es.toList)/\es.size=xs.length
inductive D where
 |non|bl (b:Bool)|int (i:Int)|str (x:Str)|tup (xs:List D)|rol (xs:List D)|ref (n:Nat)|fn (x:Str)
inductive Ob where
 |lst (xs:List D)|dct (kvs:List (Key×D))|dcT (kvs:List (TK×D))|iset (xs:List Int)|dcF (kvs:List (TK×D))|tst (ks:List TK)
abbrev Sto:=List Ob
abbrev Ev:=List (Option D)
abbrev FE:=Ev->Sto->Option (D×Sto)
abbrev FT:=Ev->Sto->Option (Bool×Sto)
abbrev FA:=Ev->Sto->Option (List D×Sto)
abbrev FN:=List D->Sto->Option (D×Sto)
inductive Fl where
 |nx|rt (d:D)|bk|ct
abbrev FS:=Ev->Sto->Option (Fl×Ev×Sto)
def RoL(K:Fg1)(H:Hp)(a:c0)(xs:List V):Prop:=(∃o,H a=Z (.frz o (.lst xs))) \/
 ∃(o:Obj) (its:Array cY) (n:Nat),K.lookup a=Z o/\o.cls = .type "list"/\o.dict=Y/\o.data = .seq its n/\its.size<=da/\dR xs its.toList
theorem RoL.sq{K:Fg1}{H:Hp}{a:c0}{xs:List V}(h:RoL K H a xs):lI K H a xs:=h.elim (λ⟨o,q⟩=>.inl (.inr ⟨o,q⟩)) .inr
mutual
inductive eP (K:Fg1)(H:Hp)(mu:List c0):D->V->Prop
 |non:eP K H mu .non .non
 |bl (b:Bool):eP K H mu (.bl b) (.bl b)
 |int (i:Int):eP K H mu (.int i) (.int i)
 |str (x:Str):eP K H mu (.str x) (.str x)
 |tup {ds:List D} {vs:List V} {a:c0} (h:jJ K H a vs) (r:dD K H mu ds vs):eP K H mu (.tup ds) (.ref a)
 |rol {ds:List D} {vs:List V} {a:c0} (h:RoL K H a vs) (r:dD K H mu ds vs):eP K H mu (.rol ds) (.ref a)
 |ref {n:Nat} {a:c0} (h:mu[n]?=some a):eP K H mu (.ref n) (.ref a)
 |fn {x:Str} {a:c0} (h:wN1 K c8 x=some (some (.ref a))):eP K H mu (.fn x) (.ref a)
inductive dD (K:Fg1)(H:Hp)(mu:List c0):List D->List V->Prop
 |nil:dD K H mu [] []
 |cons {d:D} {v:V} {ds:List D} {vs:List V} (r:eP K H mu d v) (t:dD K H mu ds vs):dD K H mu (d::ds) (v::vs)
end
structure Ext (mu mu':List c0)(H H':Hp):Prop where
 pre:mu <+: mu'
 old:∀a o,H a=some o->a∉mu->H' a=some o
 tup:∀a xs,Rd H a (.tup xs)->Rd H' a (.tup xs)
 frz:∀a o u,H a=some (.frz o u)->H' a=some (.frz o u)
 new:∀a∈mu',a∈mu\/H a=none
theorem Ext.refl(mu:List c0)(H:Hp):Ext mu mu H H:=⟨bf,λ_ _ h _=>h,λ_ _ h=>h,λ_ _ _ h=>h,λ_ h=>.inl h⟩
theorem Ext.trans{mu m1 m2:List c0}{H H1 H2:Hp}(a:Ext mu m1 H H1)(b:Ext m1 m2 H1 H2):Ext mu m2 H H2 where
 pre:=a.pre.trans b.pre
 old:=λc o h n=>b.old c o (a.old c o h n) λz=>by
  rcases a.new c z with q|q
  ·exact n q
  ·rw[h]at q;cases q
 tup:=λc xs h=>b.tup c xs (a.tup c xs h)
 frz:=λc o u h=>b.frz c o u (a.frz c o u h)
 new:=λc h=>by
  rcases b.new c h with q|q
  ·exact a.new c q
  ·by_cases z:c∈mu
   ·exact .inl z
   ·right;cases e:H c with
    |none=>rfl
    |some o=>rw[a.old c o e z]at q;cases q
theorem Ext.at{mu mu':List c0}{H H':Hp}(e:Ext mu mu' H H'){n:Nat}{a:c0}(h:mu[n]?=Z a):mu'[n]?=Z a:=by
 obtain⟨t,rfl⟩:=e.pre;have b:n<mu.length:=(gE1.mp h).1;rw[gL1 b];exact h
theorem Ext.back{mu mu':List c0}{H H':Hp}(e:Ext mu mu' H H'):Ext mu mu H H':=⟨bf,e.old,e.tup,e.frz,λ_ h=>.inl h⟩
structure sw (mu mu':List c0)(H H':Hp):Prop where
 pre:mu <+: mu'
 tup:∀a xs,Rd H a (.tup xs)->Rd H' a (.tup xs)
 frz:∀a o u,H a=some (.frz o u)->H' a=some (.frz o u)
theorem Ext.w{mu mu':List c0}{H H':Hp}(e:Ext mu mu' H H'):sw mu mu' H H':=⟨e.pre,e.tup,e.frz⟩
theorem sw.trans{mu m1 m2:List c0}{H H1 H2:Hp}(a:sw mu m1 H H1)(b:sw m1 m2 H1 H2):sw mu m2 H H2:=⟨a.pre.trans b.pre,λc xs h=>b.tup c xs (a.tup c xs h),λc o u h=>b.frz c o u (a.frz c o u h)⟩
theorem sw.at{mu mu':List c0}{H H':Hp}(e:sw mu mu' H H'){n:Nat}{a:c0}(h:mu[n]?=Z a):mu'[n]?=Z a:=by
 obtain⟨t,rfl⟩:=e.pre;have b:n<mu.length:=(gE1.mp h).1;rw[gL1 b];exact h
structure EW (mu mu':List c0)(H H':Hp):Prop where
 pre:mu <+: mu'
 tup:∀a xs,Rd H a (.tup xs)->Rd H' a (.tup xs)
 frl:∀a o xs,H a=some (.frz o (.lst xs))->H' a=some (.frz o (.lst xs))
theorem sw.v{mu mu':List c0}{H H':Hp}(e:sw mu mu' H H'):EW mu mu' H H':=⟨e.pre,e.tup,λa o xs h=>e.frz a o _ h⟩
theorem Ext.v{mu mu':List c0}{H H':Hp}(e:Ext mu mu' H H'):EW mu mu' H H':=e.w.v
theorem EW.at{mu mu':List c0}{H H':Hp}(e:EW mu mu' H H'){n:Nat}{a:c0}(h:mu[n]?=Z a):mu'[n]?=Z a:=by
 obtain⟨t,rfl⟩:=e.pre;have b:n<mu.length:=(gE1.mp h).1;rw[gL1 b];exact h
theorem jJ.exv{K:Fg1}{mu mu':List c0}{H H':Hp}{a:c0}{vs:List V}(e:EW mu mu' H H')(h:jJ K H a vs):jJ K H' a vs:=by
 rcases h with h|h
 ·exact .inl (e.tup a vs h)
 ·exact .inr h
theorem RoL.exv{K:Fg1}{mu mu':List c0}{H H':Hp}{a:c0}{vs:List V}(e:EW mu mu' H H')(h:RoL K H a vs):RoL K H' a vs:=by
 rcases h with⟨o,h⟩|h
 ·exact .inl ⟨o,e.frl a o _ h⟩
 ·exact .inr h
theorem eP.exv{K:Fg1}{mu mu':List c0}{H H':Hp}(e:EW mu mu' H H'):∀ {d:D} {v:V},eP K H mu d v->eP K H' mu' d v:=fun h=>h.rec (motive_1:=fun d v _=>eP K H' mu' d v) (motive_2:=fun ds vs _=>dD K H' mu' ds vs)
  .non .bl .int .str (λh _ ih=>.tup (jJ.exv e h) ih) (λh _ ih=>.rol (RoL.exv e h) ih) (λh=>.ref (e.at h)) (λh=>.fn h) .nil (λ_ _ a b=>.cons a b)
theorem dD.ind{K:Fg1}{mu:List c0}{H:Hp}{P:(ds:List D)->(vs:List V)->dD K H mu ds vs->Prop}(hn:P [] [] .nil)(hc:∀{d v ds vs} (r:eP K H mu d v) (t:dD K H mu ds vs),P ds vs t->P (d::ds) (v::vs) (.cons r t)){ds:List D}{vs:List V}(h:dD K H mu ds vs):P ds vs h:=
 h.rec (motive_1:=λ_ _ _=>True) (motive_2:=P) trivial (λ_=>trivial) (λ_=>trivial) (λ_=>trivial) (λ_ _ _=>trivial) (λ_ _ _=>trivial) (λ_=>trivial) (λ_=>trivial) hn (λr t _ ih=>hc r t ih)
theorem dD.exv{K:Fg1}{mu mu':List c0}{H H':Hp}(e:EW mu mu' H H'):∀{ds:List D} {vs:List V},dD K H mu ds vs->dD K H' mu' ds vs:=λh=>h.ind (P:=λds vs _=>dD K H' mu' ds vs) .nil λr _ ih=>.cons (eP.exv e r) ih
section
variable{K:Fg1}{mu mu':List c0}{H H':Hp}{a:c0}{vs:List V}
theorem eP.exw(e:sw mu mu' H H'){d:D}{v:V}(h:eP K H mu d v):eP K H' mu' d v:=h.exv e.v
theorem dD.exw(e:sw mu mu' H H'){ds:List D}(h:dD K H mu ds vs):dD K H' mu' ds vs:=h.exv e.v
theorem eP.ext(e:Ext mu mu' H H'){d:D}{v:V}(h:eP K H mu d v):eP K H' mu' d v:=h.exv e.v
theorem dD.ext(e:Ext mu mu' H H'){ds:List D}(h:dD K H mu ds vs):dD K H' mu' ds vs:=h.exv e.v
end
section
variable{K:Fg1}{H:Hp}{mu:List c0}
theorem dD.length:∀{ds:List D} {vs:List V},dD K H mu ds vs->ds.length=vs.length:=λh=>h.ind (P:=λds vs _=>ds.length=vs.length) O λ_ _ ih=>congrArg (· + 1) ih
theorem dD.get:∀{ds:List D} {vs:List V} {i:Nat} {d:D},dD K H mu ds vs->ds[i]?=Z d -> ∃v,vs[i]?=Z v/\eP K H mu d v:=by
 intro ds vs i d h e
 induction h using dD.ind generalizing i with
 |hn=>cases e
 |hc r t ih=>cases i with
  |zero=>cases e;exact⟨_,O,r⟩
  |succ i=>exact ih (i:=i) e
theorem dD.getV:∀{ds:List D} {vs:List V} {i:Nat} {v:V},dD K H mu ds vs->vs[i]?=Z v -> ∃d,ds[i]?=Z d/\eP K H mu d v:=by
 intro ds vs i d h e
 induction h using dD.ind generalizing i with
 |hn=>cases e
 |hc r t ih=>cases i with
  |zero=>cases e;exact⟨_,O,r⟩
  |succ i=>exact ih (i:=i) e
theorem dD.append:∀{ds es:List D} {vs ws:List V},dD K H mu ds vs->dD K H mu es ws->dD K H mu (ds++es) (vs++ws):=λh s=>h.ind (P:=λds vs _=>dD K H mu (ds++_) (vs++_)) s λr _ ih=>.cons r ih
theorem dD.take:∀{ds:List D} {vs:List V} (n:Nat),dD K H mu ds vs->dD K H mu (ds.take n) (vs.take n):=by
 intro ds vs n h
 induction h using dD.ind generalizing n with
 |hn=>rw[ak,ak];exact .nil
 |hc r t ih=>cases n with
  |zero=>exact .nil
  |succ n=>exact .cons r (ih n)
theorem dD.drop:∀{ds:List D} {vs:List V} (n:Nat),dD K H mu ds vs->dD K H mu (ds.drop n) (vs.drop n):=by
 intro ds vs n h
 induction h using dD.ind generalizing n with
 |hn=>rw[am,am];exact .nil
 |hc r t ih=>cases n with
  |zero=>exact .cons r t
  |succ n=>exact ih n
theorem dD.set{d:D}{v:V}(r:eP K H mu d v):∀{ds:List D} {vs:List V} (i:Nat),dD K H mu ds vs->dD K H mu (ds.set i d) (vs.set i v):=by
 intro ds vs i h
 induction h using dD.ind generalizing i with
 |hn=>exact .nil
 |hc q t ih=>cases i with
  |zero=>exact .cons r t
  |succ i=>exact .cons q (ih i)
theorem dD.eraseIdx:∀{ds:List D} {vs:List V} (i:Nat),dD K H mu ds vs->dD K H mu (ds.eraseIdx i) (vs.eraseIdx i):=by
 intro ds vs i h
 induction h using dD.ind generalizing i with
 |hn=>exact .nil
 |hc q t ih=>cases i with
  |zero=>exact t
  |succ i=>exact .cons q (ih i)
theorem dD.reverse:∀{ds:List D} {vs:List V},dD K H mu ds vs->dD K H mu ds.reverse vs.reverse:=by
 intro ds vs h
 induction h using dD.ind with
 |hn=>exact .nil
 |hc r t ih=>rw[bg,bg];exact dD.append ih (.cons r .nil)
end
def KR{κ:Type}(K:Fg1)(H:Hp)(mu:List c0):List (κ×D)->List (κ×V)->Prop:=Paired λp q=>p.1=q.1/\eP K H mu p.2 q.2
mutual
def oO:TK->D
 | .non=>.non
 | .int i=>.int i
 | .tup xs=>.tup (kn xs)
def kn:List TK->List D
 |[]=>[]
 |x::xs=>oO x::kn xs
end
def jM(a:c0)(xs:List (TK×c0×cY))(h:de):Prop:=(a == sysModules)=J/\(xs.map (·.1)).Nodup /\ ∃o es ep,h.get? a=Z o/\o.ExactDict/\o.data = .dict es ep/\es.toList=xs.map λx=>(⟨x.1.hash,.ref x.2.1,x.2.2⟩:DictEntry)
def EX(a:c0)(xs:List (TK×c0×cY))(o:Obj):Prop:=(a == sysModules)=J/\(xs.map (·.1)).Nodup/\o.ExactDict /\ ∃es ep,o.data = .dict es ep/\es.toList=xs.map λx=>(⟨x.1.hash,.ref x.2.1,x.2.2⟩:DictEntry)
def KT(K:Fg1)(H:Hp)(mu:List c0):List (TK×D)->List (TK×c0×cY)->Prop:=Paired λp q=>p.1=q.1/\p.1.dep<=8/\eP K H mu (oO p.1) (.ref q.2.1) /\ ∃v,dG v q.2.2/\eP K H mu p.2 v
def oN(K:Fg1)(H:Hp)(mu:List c0)(a:c0):Ob->Prop
 | .lst ds=>∃vs,H a=Z (.lst vs)/\dD K H mu ds vs
 | .dct kvs=>∃ws,H a=Z (.dK ws)/\KR K H mu kvs ws
 | .dcT kvs=>∃xs,H a=Z (.ext (jM a xs))/\KT K H mu kvs xs/\xs.length<=da
 | .iset xs=>H a=Z (.set (λk=>xs.contains k) xs.length)/\xs.Nodup
 | .dcF kvs=>∃xs,(∃o u,H a=Z (.frz o u)/\EX a xs o)/\KT K H mu kvs xs/\xs.length<=da
 | .tst ks=>∃xs,H a=Z (.ext (ul a xs))/\KT K H mu (ks.map λk=>(k,D.non)) xs
structure Sim (K:Fg1)(H:Hp)(mu:List c0)(S:Sto):Prop where
 len:mu.length=S.length
 nd:mu.Nodup
 ob:∀(n:Nat) (o:Ob) (a:c0),S[n]?=some o->mu[n]?=some a->oN K H mu a o
structure fC (K:Fg1)(H:Hp)(mu:List c0)(r:Ev)(σ:L2.St):Prop where
 len:r.length=σ.length
 val:∀(i:Nat) (d:D),r[i]?=some (some d) -> ∃v,σ[i]?=some (some v)/\eP K H mu d v
theorem fC.ext{K:Fg1}{mu mu':List c0}{H H':Hp}{r:Ev}{σ:L2.St}(e:Ext mu mu' H H')(h:fC K H mu r σ):fC K H' mu' r σ:=⟨h.len,λi d q=>by
 obtain⟨v,b,a⟩:=h.val i d q;exact⟨v,b,a.ext e⟩⟩
theorem KR.ext{κ:Type}{K:Fg1}{mu mu':List c0}{H H':Hp}{ks:List (κ×D)}{ws:List (κ×V)}(e:Ext mu mu' H H')(h:KR K H mu ks ws):KR K H' mu' ks ws:=
 Paired.mapP h λ_ _ z=>⟨z.1,z.2.ext e⟩
theorem KT.ext{K:Fg1}{mu mu':List c0}{H H':Hp}{ks:List (TK×D)}{ws:List (TK×c0×cY)}(e:Ext mu mu' H H')(h:KT K H mu ks ws):KT K H' mu' ks ws:=
 Paired.mapP h λ_ _ ⟨z,d,k,v,a,r⟩=>⟨z,d,k.ext e,v,a,r.ext e⟩
theorem Sim.nil{K:Fg1}{H:Hp}:Sim K H [] []:=⟨O,bh,λn o a h=>by simp at h⟩
theorem Sim.here{K:Fg1}{H:Hp}{mu:List c0}{S:Sto}(s:Sim K H mu S){a:c0}(h:a∈mu):∃o,H a=Z o:=by
 obtain⟨n,b⟩:=bi h;have c:n<S.length:=by rw[<- s.len];exact(gE1.mp b).1
 have q:=s.ob n _ a (gG1 c) b;cases e:S[n]with
 |lst ds=>rw[e]at q;obtain⟨vs,z,_⟩:=q;exact⟨_,z⟩
 |dct ks=>rw[e]at q;obtain⟨vs,z,_⟩:=q;exact⟨_,z⟩
 |dcT ks=>rw[e]at q;obtain⟨vs,z,_⟩:=q;exact⟨_,z⟩
 |iset xs=>rw[e]at q;exact⟨_,q.1⟩
 |dcF ks=>rw[e]at q;obtain⟨vs,⟨_,_,z,_⟩,_⟩:=q;exact⟨_,z⟩
 |tst ks=>rw[e]at q;obtain⟨vs,z,_⟩:=q;exact⟨_,z⟩
def sr(K:Fg1)(mu:List c0)(H:Hp)(d:D)(S':Sto)(Q:VK):Prop:=∀v H' mu',Ext mu mu' H H'->eP K H' mu' d v->Sim K H' mu' S'->Q v H'
inductive tM (K:Fg1)(m:FE)(σ:L2.St)(H:Hp)(Q:VK):Prop
 |mk (r:Ev) (mu:List c0) (S:Sto) (d:D) (S':Sto) (he:fC K H mu r σ) (hs:Sim K H mu S) (hm:m r S=some (d,S')) (hc:sr K mu H d S' Q)
inductive B3 (K:Fg1)(m:FT)(σ:L2.St)(H:Hp)(Q:Bool->Hp->Prop):Prop
 |mk (r:Ev) (mu:List c0) (S:Sto) (b:Bool) (S':Sto) (he:fC K H mu r σ) (hs:Sim K H mu S) (hm:m r S=some (b,S')) (hc:∀H' mu',Ext mu mu' H H'->Sim K H' mu' S'->Q b H')
inductive Lz (K:Fg1)(m:FA)(σ:L2.St)(H:Hp)(Q:List V->Hp->Prop):Prop
 |mk (r:Ev) (mu:List c0) (S:Sto) (ds:List D) (S':Sto) (he:fC K H mu r σ) (hs:Sim K H mu S) (hm:m r S=some (ds,S')) (hc:∀vs H' mu',Ext mu mu' H H'->dD K H' mu' ds vs->Sim K H' mu' S'->Q vs H')
def Kx(K:Fg1)(mu:List c0)(H:Hp)(r':Ev)(S':Sto)(E:jL)(f:Fl):Prop:=match f with
 | .nx=>∀ σ' H' mu',Ext mu mu' H H'->fC K H' mu' r' σ'->Sim K H' mu' S'->E.nx σ' H'
 | .bk=>∀ σ' H' mu',Ext mu mu' H H'->fC K H' mu' r' σ'->Sim K H' mu' S'->E.bk σ' H'
 | .ct=>∀ σ' H' mu',Ext mu mu' H H'->fC K H' mu' r' σ'->Sim K H' mu' S'->E.ct σ' H'
 | .rt d=>sr K mu H d S' E.rt
inductive vO (K:Fg1)(m:FS)(E:jL)(σ:L2.St)(H:Hp):Prop
 |mk (r:Ev) (mu:List c0) (S:Sto) (f:Fl) (r':Ev) (S':Sto) (he:fC K H mu r σ) (hs:Sim K H mu S) (hm:m r S=some (f,r',S')) (hc:Kx K mu H r' S' E f)
inductive rN (K:Fg1)(f:FN)(vs:List V)(H:Hp)(Q:VK):Prop
 |mk (mu:List c0) (S:Sto) (ds:List D) (d:D) (S':Sto) (hr:dD K H mu ds vs) (hs:Sim K H mu S) (hm:f ds S=some (d,S')) (hc:sr K mu H d S' Q)
abbrev ME(X:Cx)(e:Expr)(m:FE):Prop:=PE X e (tM X.K m)
abbrev MT(X:Cx)(e:Expr)(m:FT):Prop:=PT X e (B3 X.K m)
abbrev MW(X:Cx)(e:Expr)(m:FT):Prop:=PW X e (B3 X.K m)
abbrev MA(X:Cx)(es:List Expr)(m:FA):Prop:=PA X es (Lz X.K m)
abbrev MS(X:Cx)(st:dg)(m:FS):Prop:=PS X st (vO X.K m)
abbrev yp(X:Cx)(st:List dg)(m:FS):Prop:=uw X st (vO X.K m)
section
variable{X:Cx}{e:Expr}{es:List Expr}{st:dg}{sts:List dg}
theorem eg{t t':TE}(h:PE X e t)(i:∀ σ H Q,t' σ H Q->t σ H Q):PE X e t':=λZ8 s σ H Q I q=>h Z8 s σ H Q I (i σ H Q q)
theorem qt{t t':TT}(h:PT X e t)(i:∀ σ H Q,t' σ H Q->t σ H Q):PT X e t':=λZ8 s σ H Q I q=>h Z8 s σ H Q I (i σ H Q q)
theorem zz{t t':TT}(h:PW X e t)(i:∀ σ H Q,t' σ H Q->t σ H Q):PW X e t':=λa Z8 s σ H Q I q=>h a Z8 s σ H Q I (i σ H Q q)
theorem zR{t t':TA}(h:PA X es t)(i:∀ σ H Q,t' σ H Q->t σ H Q):PA X es t':=λpos Z8 s σ H Q I q=>h pos Z8 s σ H Q I (i σ H Q q)
theorem iQ{t t':TS}(h:PS X st t)(i:∀E σ H,t' E σ H->t E σ H):PS X st t':=λZ8 s σ H E I q=>h Z8 s σ H E I (i E σ H q)
theorem qu{t t':TS}(h:uw X sts t)(i:∀E σ H,t' E σ H->t E σ H):uw X sts t':=λZ8 s σ H E I q=>h Z8 s σ H E I (i E σ H q)
end
def mV(i:Nat):FE:=λr S=>match r[i]? with
 |some (Z d)=>Z (d,S)
 |_=>Y
def mC(d:D):FE:=λ_ S=>Z (d,S)
section
variable{X:Cx}{pos:Pos}
theorem Gx (i:Nat){x:Str}(hN:X.N[i]?=Z x)(hv:D8 X.env.scope x)(hd:(x == ("__debug__":Str))=J:=by decide)(hcd:(x == ("__classdict__":Str))=J:=by decide):ME X (.Name x pos) (mV i):=
 eg (FM hN hv hd hcd) <| by
  rintro σ H Q ⟨r,mu,S,d,h,f,g,a,hc⟩;unfold mV at a;split at a
  ·rename_i j e;cases a;obtain⟨v,b,c⟩:=f.val i _ e;exact⟨v,b,hc v H mu (.refl _ _) c g⟩
  ·cases a
theorem As{e:Expr}{v:V}(d:D)(h:PE X e (tC v))(hr:∀H mu,eP X.K H mu d v):ME X e (mC d):=
 eg h <| by
  rintro σ H Q ⟨r,mu,S,f,g,c,b,a,hc⟩;cases a;exact hc v H mu (.refl _ _) (hr H mu) b
theorem GF{i:Int}{j}:ME X (.Constant (.int i) j pos) (mC (.int i)):=As _ FZ λ_ _=>.int i
theorem Jg{b:Bool}{j}:ME X (.Constant (.bool b) j pos) (mC (.bl b)):=As _ IJ λ_ _=>.bl b
theorem GD{j}:ME X (.Constant .none j pos) (mC .non):=As _ FX λ_ _=>.non
theorem Gz{x:Str}{j}:ME X (.Constant (.str x) j pos) (mC (.str x)):=As _ FQ λ_ _=>.str x
end
def dj:FA:=λ_ S=>Z ([],S)
def di(m:FE)(n:FA):FA:=λr S=>(m r S).bind λp=>(n r p.2).bind λq=>Z (p.1::q.1,q.2)
section
variable{X:Cx}{pos:Pos}{e:Expr}{es:List Expr}{m:FE}{n:FA}
theorem GJ:MA X [] dj:=zR lQ <| by
 rintro σ H Q ⟨r,mu,S,ds,c,d,b,a,hc⟩;cases a;exact hc [] H mu (.refl _ _) .nil b
theorem Da(h:ME X e m)(ht:MA X es n)(hs:c9 (e::es) X.env=(J,eval e X.env)::c9 es X.env:=by rfl):MA X (e::es) (di m n):=
 zR (iR h ht hs) <| by
  rintro σ H Q ⟨r,mu,S,ds,q,i,hs,a,hc⟩;unfold di at a;obtain⟨⟨d,g⟩,j,a⟩:=oB1.mp a;obtain⟨⟨b,s⟩,l,a⟩:=oB1.mp a;cases a;refine⟨r,mu,S,d,g,i,hs,j,λv H1 mu1 f k p=>?_⟩;refine⟨r,mu1,g,b,_,i.ext f,p,l,λvs H2 c x2 r2 o=>?_⟩;exact hc _ H2 c (f.trans x2) (.cons (k.ext x2) r2) o
end
def m2(f:FN)(a b:FE):FE:=λr S=>(a r S).bind λp=>(b r p.2).bind λq=>f [p.1,q.1] q.2
def m1(f:FN)(a:FE):FE:=λr S=>(a r S).bind λp=>f [p.1] p.2
def mN(f:FN)(a:FA):FE:=λr S=>(a r S).bind λp=>f p.1 p.2
abbrev r2(K:Fg1)(f:FN):R2:=λx y H Q=>rN K f [x,y] H Q
section
variable{X:Cx}{K:Fg1}{f:FN}{a b:FE}{σ:L2.St}{H:Hp}{Q:VK}
theorem wt(h:tM K (m2 f a b) σ H Q):H7 (r2 K f) (tM K a) (tM K b) σ H Q:=by
 obtain⟨r,mu,S,d,B,j,x,c,hc⟩:=h;obtain⟨⟨m,l⟩,p,c⟩:=oB1.mp c;obtain⟨⟨k,n⟩,s,c⟩:=oB1.mp c;refine⟨r,mu,S,m,l,j,x,p,λv H1 mu1 i z t=>?_⟩;refine⟨r,mu1,l,k,n,j.ext i,t,s,λu H2 g x2 r2 w=>?_⟩;exact⟨g,n,[m,k],d,B,.cons (z.ext x2) (.cons r2 .nil),w,c,λv o e q A y=>hc v o e ((i.trans x2).trans q) A y⟩
theorem Jh(h:tM K (m1 f a) σ H Q):Ly (λx H Q=>rN K f [x] H Q) (tM K a) σ H Q:=by
 obtain⟨r,mu,S,d,j,p,t,c,hc⟩:=h;obtain⟨⟨g,e⟩,l,c⟩:=oB1.mp c;refine⟨r,mu,S,g,e,p,t,l,λv H1 mu1 i o s=>?_⟩;exact⟨mu1,e,[g],d,j,.cons o .nil,s,c,λv k b n q m=>hc v k b (i.trans n) q m⟩
theorem wr{a:FA}(h:tM K (mN f a) σ H Q):Lz K a σ H λvs H1=>rN K f vs H1 Q:=by
 obtain⟨r,mu,S,d,j,p,t,c,hc⟩:=h;obtain⟨⟨g,e⟩,l,c⟩:=oB1.mp c;refine⟨r,mu,S,g,e,p,t,l,λv H1 mu1 i o s=>?_⟩;exact⟨mu1,e,g,d,j,o,s,c,λv k b n q m=>hc v k b (i.trans n) q m⟩
theorem Jd{op:Operator}{x y:Expr}{pos:Pos}(ho:fY X (binaryOp op) (r2 X.K f))(hx:ME X x a)(hy:ME X y b):ME X (.BinOp x op y pos) (m2 f a b):=eg (IG ho hx hy) λ_ _ _=>wt
theorem Jc{op:UnaryOp}{x:Expr}{pos:Pos}(ho:HP X (unaryOp op) (λx H Q=>rN X.K f [x] H Q))(hx:ME X x a):ME X (.UnaryOp op x pos) (m1 f a):=eg (IF ho hx) λ_ _ _=>Jh
theorem GG{op:CmpOp}{x y:Expr}{pos:Pos}(ho:fY X (compareOp op) (r2 X.K f))(hx:ME X x a)(hy:ME X y b)(hm:behindInMarks op y=J):ME X (.Compare x [op] [y] pos) (m2 f a b):=eg (CH ho hx hy hm) λ_ _ _=>wt
theorem Je{x y:Expr}{pos:Pos}(ho:EV X (r2 X.K f))(hx:ME X x a)(hy:ME X y b)(hs:ni y):ME X (.Subscript x y pos) (m2 f a b):=eg (IH ho hx hy hs) λ_ _ _=>wt
theorem Ar {x:Str}{p pos:Pos}{e:Expr}{es:List Expr}{id:String}{a:FA}(hc:eh X (.builtin id) (rN X.K f))(hg:Gl X x)(hm:X.mg x=none)(hv:bootBuiltins x=some (.builtin id))(ha:MA X (e::es) a)(hn:x≠"__name__":=by decide)(hdb:(x == ("__debug__":Str))=false:=by decide)
  (he:c9 (e::es) X.env=(J,eval e X.env)::c9 es X.env:=by rfl) (hpl:(backTo pos (c9 es X.env)).any (·.1)=J:=by rfl):ME X (.Call (.Name x p) (e::es) [] pos) (mN f a):=
 eg (nO hc hg hm hv ha hn hdb he hpl) λ_ _ _=>wr
theorem xL {x:Str}{p pos:Pos}{e:Expr}{es:List Expr}{T:String}{a:FA}(hc:eh X (.type T) (rN X.K f))(hg:Gl X x)(hm:X.mg x=none)(hv:bootBuiltins x=some (.type T))(ha:MA X (e::es) a)(hn:x≠"__name__":=by decide)(hdb:(x == ("__debug__":Str))=false:=by decide)
  (he:c9 (e::es) X.env=(J,eval e X.env)::c9 es X.env:=by rfl) (hpl:(backTo pos (c9 es X.env)).any (·.1)=J:=by rfl):ME X (.Call (.Name x p) (e::es) [] pos) (mN f a):=
 eg (jR hc hg hm hv ha hn hdb he hpl) λ_ _ _=>wr
end
def mB(m:FE):FT:=λr S=>(m r S).bind λp=>match p.1 with
 | .bl b=>Z (b,p.2)
 |_=>Y
theorem Et{K:Fg1}{m:FE}{σ:L2.St}{H:Hp}{Q:Bool->Hp->Prop}(h:B3 K (mB m) σ H Q):tB (tM K m) σ H Q:=by
 obtain⟨r,mu,S,b,l,f,j,a,hc⟩:=h;obtain⟨⟨i,n⟩,d,a⟩:=oB1.mp a;cases i with
 |bl k=>
  cases a;refine⟨r,mu,S,_,_,f,j,d,λv H1 mu1 c e g=>?_⟩;cases e;exact⟨_,O,hc H1 mu1 c g⟩
 |_=>cases a
def rf(a b:FT):FT:=λr S=>(a r S).bind λp=>if p.1=M then b r p.2 else Z (J,p.2)
def mOr(a b:FT):FT:=λr S=>(a r S).bind λp=>if p.1=M then Z (M,p.2)else b r p.2
def gz(a:FT):FT:=λr S=>(a r S).bind λp=>Z (!p.1,p.2)
def iF(a b:FE):FE:=λr S=>(a r S).bind λp=>match p.1 with
 | .bl c=>if c=M then b r p.2 else Z (.bl J,p.2)
 |_=>Y
def Mj(a b:FE):FE:=λr S=>(a r S).bind λp=>match p.1 with
 | .bl c=>if c=M then Z (.bl M,p.2)else b r p.2
 |_=>Y
def pw(a:FE):FE:=λr S=>(a r S).bind λp=>match p.1 with
 | .bl c=>Z (.bl (!c),p.2)
 |_=>Y
def HL(c:FT)(a b:FE):FE:=λr S=>(c r S).bind λp=>if p.1=M then a r p.2 else b r p.2
section
variable{X:Cx}{x y c:Expr}{rest:List Expr}{pos:Pos}{a b:FT}{f g:FE}
theorem Gj{op:CmpOp}{f:FN}{a b:FE}(ho:fY X (compareOp op) (r2 X.K f))(hx:ME X x a)(hy:ME X y b)(hm:behindInMarks op y=J):MT X (.Compare x [op] [y] pos) (mB (m2 f a b)):=
 qt (Cp ho hx hy hm) fun σ H Q h=>by
  obtain⟨r,mu,S,d,j,g,k,hm,hc⟩:=Et h;exact wt ⟨r,mu,S,d,j,g,k,hm,λv H' mu' c e i=>hc v H' mu' c e i⟩
theorem CW(ha:MT X x a):MW X (.BoolOp .And [x] pos) a:=Co ha
theorem Gf(ha:MT X x a):MW X (.BoolOp .Or [x] pos) a:=Fs ha
theorem Gg(ha:MT X x a)(hb:MW X (.BoolOp .And (y::rest) pos) b):MW X (.BoolOp .And (x::y::rest) pos) (rf a b):=
 zz (Ft ha hb) <| by
  rintro σ H Q ⟨r,mu,S,k,i,g,m,c,hc⟩;obtain⟨⟨b1,f⟩,j,c⟩:=oB1.mp c;refine⟨r,mu,S,b1,f,g,m,j,λH1 mu1 d h=>?_⟩;cases b1 with
  |true=>exact⟨r,mu1,f,k,i,g.ext d,h,c,λH2 e x2 l=>hc H2 e (d.trans x2) l⟩
  |false=>cases c;exact hc H1 mu1 d h
theorem IX(ha:MT X x a)(hb:MW X (.BoolOp .Or (y::rest) pos) b):MW X (.BoolOp .Or (x::y::rest) pos) (mOr a b):=
 zz (IA ha hb) <| by
  rintro σ H Q ⟨r,mu,S,k,i,g,m,c,hc⟩;obtain⟨⟨b1,f⟩,j,c⟩:=oB1.mp c;refine⟨r,mu,S,b1,f,g,m,j,λH1 mu1 d h=>?_⟩;cases b1 with
  |false=>exact⟨r,mu1,f,k,i,g.ext d,h,c,λH2 e x2 l=>hc H2 e (d.trans x2) l⟩
  |true=>cases c;exact hc H1 mu1 d h
theorem KU(h:MW X x a):MT X x a:=PW.pt h
theorem Gi(ha:MT X x a):MT X (.UnaryOp .Not x pos) (gz a):=
 qt (Fv ha) <| by
  rintro σ H Q ⟨r,mu,S,k,i,f,h,b,hc⟩;obtain⟨⟨b1,e⟩,d,b⟩:=oB1.mp b;cases b;exact⟨r,mu,S,b1,e,f,h,d,λH1 mu1 c g=>hc H1 mu1 c g⟩
theorem GB{op}(h:ME X x f):ME X (.BoolOp op [x] pos) f:=FU h
theorem GH(ha:ME X x f)(hb:ME X (.BoolOp .And (y::rest) pos) g):ME X (.BoolOp .And (x::y::rest) pos) (iF f g):=
 eg (F1 ha hb) <| by
  rintro σ H Q ⟨r,mu,S,k,j,e,p,a,hc⟩;obtain⟨⟨i,d⟩,l,a⟩:=oB1.mp a;refine⟨r,mu,S,i,d,e,p,l,λv H1 mu1 b m h=>?_⟩;cases i with
  |bl b1=>
   cases m;refine⟨b1,O,?_⟩;cases b1 with
   |true=>exact⟨r,mu1,d,k,j,e.ext b,h,a,λn H2 c x2 r2 o=>hc n H2 c (b.trans x2) r2 o⟩
   |false=>cases a;exact hc _ H1 mu1 b (.bl J) h
  |_=>cases a
theorem GC(ha:ME X x f):ME X (.UnaryOp .Not x pos) (pw f):=
 eg (FW ha) <| by
  rintro σ H Q ⟨r,mu,S,k,l,h,j,a,hc⟩;obtain⟨⟨b,e⟩,d,a⟩:=oB1.mp a;refine⟨r,mu,S,b,e,h,j,d,λv H1 mu1 c g i=>?_⟩;cases b with
  |bl b1=>
   cases g;cases a;exact⟨b1,O,hc _ H1 mu1 c (.bl _) i⟩
  |_=>cases a
theorem Jf(hc:MT X c a)(hx:ME X x f)(hy:ME X y g):ME X (.IfExp c x y pos) (HL a f g):=
 eg (zN hc hx hy) <| by
  rintro σ H Q ⟨r,mu,S,k,m,l,p,e,hc⟩;obtain⟨⟨b1,h⟩,o,e⟩:=oB1.mp e;refine⟨r,mu,S,b1,h,l,p,o,λH1 mu1 d n=>?_⟩;cases b1 with
  |true=>exact⟨r,mu1,h,k,m,l.ext d,n,e,λi H2 b x2 r2 j=>hc i H2 b (d.trans x2) r2 j⟩
  |false=>exact⟨r,mu1,h,k,m,l.ext d,n,e,λi H2 b x2 r2 j=>hc i H2 b (d.trans x2) r2 j⟩
end
def GL(f g:FN)(a b c:FE):FE:=λr S=>(a r S).bind λp=>(b r p.2).bind λq=>(f [p.1,q.1] q.2).bind λt=>match t.1 with
 | .bl k=>if k=M then(c r t.2).bind λz=>g [q.1,z.1] z.2 else Z (.bl J,t.2)
 |_=>Y
section
variable{X:Cx}{x y z:Expr}{pos:Pos}{f g:FN}{a b c:FE}{op op':CmpOp}
theorem GK{K:Fg1}{σ:L2.St}{H:Hp}{Q:VK}(h:tM K (GL f g a b c) σ H Q):zf (r2 K f) (r2 K g) (tM K a) (tM K b) (tM K c) σ H Q:=by
 obtain⟨r,mu,S,d,W,n,aj,e,hc⟩:=h;obtain⟨⟨z,w⟩,C,e⟩:=oB1.mp e;obtain⟨⟨o,t⟩,F,e⟩:=oB1.mp e;obtain⟨⟨A,u⟩,L,e⟩:=oB1.mp e;refine⟨r,mu,S,z,w,n,aj,C,λv1 H1 mu1 j T I=>?_⟩;refine⟨r,mu1,w,o,t,n.ext j,I,F,λX H2 p x2 r2 ah=>?_⟩;refine⟨p,t,[z,o],A,u,.cons (T.ext x2) (.cons r2 .nil),ah,L,λwq B i l V v=>?_⟩;cases A with
 |bl k=>
  cases V;refine⟨k,O,?_⟩;cases k with
  |false=>cases e;exact hc _ B i ((j.trans x2).trans l) (.bl J) v
  |true=>
   obtain⟨⟨x,y⟩,U,e⟩:=oB1.mp e;refine⟨r,i,u,x,y,n.ext ((j.trans x2).trans l),v,U,λv4 ai m s ag P=>?_⟩;exact⟨m,y,[o,x],d,W,.cons ((r2.ext l).ext s) (.cons ag .nil),P,e,λE N q G R D=>hc E N q ((((j.trans x2).trans l).trans s).trans G) R D⟩
 |_=>cases e
theorem Ap(ho:fY X (compareOp op) (r2 X.K f))(ho':fY X (compareOp op') (r2 X.K g))(hx:ME X x a)(hy:ME X y b)(hz:ME X z c)(hm:lastMarks [op,op'] [y,z]=false:=by with_unfolding_all rfl):
  ME X (.Compare x [op,op'] [y,z] pos) (GL f g a b c):=eg (zP ho ho' hx hy hz hm) λ_ _ _=>GK
end
mutual
def D.und(n:Nat):D->Bool
 | .tup xs=>D.unds n xs
 | .rol xs=>D.unds n xs
 | .ref k=>decide (k<n)
 | .non=>M
 | .bl _=>M
 | .int _=>M
 | .str _=>M
 | .fn _=>M
def D.unds(n:Nat):List D->Bool
 |[]=>M
 |d::ds=>D.und n d&&D.unds n ds
end
def D.sames(a b:List D):Bool:=@decide (a=b) (Classical.propDecidable _)
theorem D.sames_eq{a b:List D}(h:D.sames a b=M):a=b:=@of_decide_eq_true _ (Classical.propDecidable _) h
theorem D.sames_refl(a:List D):D.sames a a=M:=@decide_eq_true _ (Classical.propDecidable _) O
section
variable{K:Fg1}{H:Hp}{mu mu':List c0}
theorem eP.cut{n:Nat}(h:∀ k,k<n->mu[k]? = mu'[k]?):∀ {d:D} {v:V},eP K H mu d v->d.und n=true->eP K H mu' d v:=fun c=>c.rec (motive_1:=fun d v _=>d.und n=true->eP K H mu' d v) (motive_2:=fun ds vs _=>D.unds n ds=true->dD K H mu' ds vs)
  (λ_=>.non) (λb _=>.bl b) (λi _=>.int i) (λx _=>.str x) (λq _ ih e=>.tup q (ih (by rw[D.und]at e;exact e))) (λq _ ih e=>.rol q (ih (by rw[D.und]at e;exact e)))
  (λq e=>.ref (by rw[D.und]at e;rw[<- h _ (of_decide_eq_true e)];exact q)) (λq _=>.fn q) (λ_=>.nil) (λ_ _ a b e=>by rw[D.unds,bA1]at e;exact .cons (a e.1) (b e.2))
theorem dD.cut{n:Nat}(h:∀k,k<n->mu[k]?=mu'[k]?):∀{ds:List D} {vs:List V},dD K H mu ds vs->D.unds n ds=M->dD K H mu' ds vs:=λa=>a.ind (P:=λds vs _=>D.unds n ds=M->dD K H mu' ds vs) (λ_=>.nil) λr _ b e=>by rw[D.unds,bA1]at e;exact .cons (eP.cut h r e.1) (b e.2)
end
def Ob.und(n:Nat):Ob->Bool
 | .lst xs=>D.unds n xs
 | .dct kvs=>D.unds n (kvs.map (·.2))
 | .dcT kvs=>D.unds n (kvs.map (·.2))
 | .iset _=>M
 | .dcF kvs=>D.unds n (kvs.map (·.2))
 | .tst _=>M
theorem KR.cut{κ:Type}{K:Fg1}{H:Hp}{mu mu':List c0}{n:Nat}(h:∀k,k<n->mu[k]?=mu'[k]?):∀{ks:List (κ×D)} {ws:List (κ×V)},KR K H mu ks ws->D.unds n (ks.map (·.2))=M->KR K H mu' ks ws:=by
 intro ks ws a e
 induction a with
 |nil=>exact .nil
 |cons r t ih=>
  rw[mP1,D.unds,bA1]at e;exact .cons ⟨r.1,r.2.cut h e.1⟩ (ih e.2)
mutual
theorem za(n:Nat):∀k:TK,(oO k).und n=M
 | .non=>rfl
 | .int _=>rfl
 | .tup xs=>by rw[oO,D.und];exact vM n xs
theorem vM(n:Nat):∀ks:List TK,D.unds n (kn ks)=M
 |[]=>rfl
 |x::xs=>by rw[kn,D.unds,za n x,vM n xs];rfl
end
theorem KT.cut{K:Fg1}{H:Hp}{mu mu':List c0}{n:Nat}(h:∀k,k<n->mu[k]?=mu'[k]?):∀{ks:List (TK×D)} {ws:List (TK×c0×cY)},KT K H mu ks ws->D.unds n (ks.map (·.2))=M->KT K H mu' ks ws:=by
 intro ks ws a e
 induction a with
 |nil=>exact .nil
 |cons r t ih=>
  rw[mP1,D.unds,bA1]at e;obtain⟨z,d,k,v,b,r⟩:=r;exact .cons ⟨z,d,k.cut h (za n _),v,b,r.cut h e.1⟩ (ih e.2)
theorem wk(n:Nat):∀ks:List TK,D.unds n ((ks.map λk=>(k,D.non)).map (·.2))=M
 |[]=>rfl
 |_::ks=>by rw[mP1,mP1,D.unds,wk n ks];rfl
theorem oN.cut{K:Fg1}{H:Hp}{mu mu':List c0}{n:Nat}{a:c0}(h:∀k,k<n->mu[k]?=mu'[k]?):∀{o:Ob},oN K H mu a o->o.und n=M->oN K H mu' a o
 | .lst _,⟨vs,e,r⟩,b=>⟨vs,e,r.cut h b⟩
 | .dct _,⟨ws,e,r⟩,b=>⟨ws,e,KR.cut h r b⟩
 | .dcT _,⟨ws,e,r,l⟩,b=>⟨ws,e,KT.cut h r b,l⟩
 | .iset _,q,_=>q
 | .dcF _,⟨ws,e,r,l⟩,b=>⟨ws,e,KT.cut h r b,l⟩
 | .tst ks,⟨ws,e,r⟩,_=>⟨ws,e,KT.cut h r (wk n ks)⟩
def gc(n:Nat)(p:D×Sto):D×Sto:=if p.1.und n&&(p.2.take n).all (Ob.und n)then(p.1,p.2.take n)else p
mutual
def D.sh(n:Nat):D->D
 | .tup xs=>.tup (D.shs n xs)
 | .rol xs=>.rol (D.shs n xs)
 | .ref k=>.ref (n+k)
 | .fn x=>.fn x
 | .non=>.non
 | .bl b=>.bl b
 | .int i=>.int i
 | .str x=>.str x
def D.shs(n:Nat):List D->List D
 |[]=>[]
 |d::ds=>D.sh n d::D.shs n ds
end
def Ob.sh(n:Nat):Ob->Ob
 | .lst xs=>.lst (D.shs n xs)
 | .dct kvs=>.dct (kvs.map λp=>(p.1,p.2.sh n))
 | .dcT kvs=>.dcT (kvs.map λp=>(p.1,p.2.sh n))
 | .iset xs=>.iset xs
 | .dcF kvs=>.dcF (kvs.map λp=>(p.1,p.2.sh n))
 | .tst ks=>.tst ks
theorem eP.sh{K:Fg1}{H:Hp}{mu mu':List c0}:∀ {d:D} {v:V},eP K H mu' d v->eP K H (mu++mu') (d.sh mu.length) v:=fun c=>c.rec (motive_1:=fun d v _=>eP K H (mu++mu') (d.sh mu.length) v) (motive_2:=fun ds vs _=>dD K H (mu++mu') (D.shs mu.length ds) vs)
  .non .bl .int .str (λh _ ih=>.tup h ih) (λh _ ih=>.rol h ih) (λh=>.ref (by rw[gR1 (bj _ _),Nat.add_sub_cancel_left];exact h)) (λh=>.fn h) .nil (λ_ _ a b=>.cons a b)
theorem dD.sh{K:Fg1}{H:Hp}{mu mu':List c0}:∀{ds:List D} {vs:List V},dD K H mu' ds vs->dD K H (mu++mu') (D.shs mu.length ds) vs:=λh=>h.ind (P:=λds vs _=>dD K H (mu++mu') (D.shs mu.length ds) vs) .nil λr _ ih=>.cons (eP.sh r) ih
theorem KR.sh{κ:Type}{K:Fg1}{H:Hp}{mu mu':List c0}:∀{ks:List (κ×D)} {ws:List (κ×V)},KR K H mu' ks ws->KR K H (mu++mu') (ks.map λp=>(p.1,p.2.sh mu.length)) ws:=by
 intro ks ws h
 induction h with
 |nil=>exact .nil
 |cons r t ih=>exact .cons ⟨r.1,r.2.sh⟩ ih
mutual
theorem Ed(n:Nat):∀k:TK,(oO k).sh n=oO k
 | .non=>rfl
 | .int _=>rfl
 | .tup xs=>by rw[oO,D.sh,y8 n xs]
theorem y8(n:Nat):∀ks:List TK,D.shs n (kn ks)=kn ks
 |[]=>rfl
 |x::xs=>by rw[kn,D.shs,Ed n x,y8 n xs]
end
theorem KT.sh{K:Fg1}{H:Hp}{mu mu':List c0}:∀{ks:List (TK×D)} {ws:List (TK×c0×cY)},KT K H mu' ks ws->KT K H (mu++mu') (ks.map λp=>(p.1,p.2.sh mu.length)) ws:=by
 intro ks ws h
 induction h with
 |nil=>exact .nil
 |cons r t ih=>
  obtain⟨z,d,k,v,a,r⟩:=r;exact .cons ⟨z,d,by have:=k.sh (mu:=mu);rw[Ed]at this;exact this,v,a,r.sh⟩ ih
theorem oN.sh{K:Fg1}{H:Hp}{mu mu':List c0}{a:c0}:∀{o:Ob},oN K H mu' a o->oN K H (mu++mu') a (o.sh mu.length)
 | .lst _,⟨vs,e,r⟩=>⟨vs,e,r.sh⟩
 | .dct _,⟨ws,e,r⟩=>⟨ws,e,KR.sh r⟩
 | .dcT _,⟨ws,e,r,l⟩=>⟨ws,e,KT.sh r,l⟩
 | .iset _,q=>q
 | .dcF _,⟨ws,e,r,l⟩=>⟨ws,e,KT.sh r,l⟩
 | .tst ks,⟨ws,e,r⟩=>⟨ws,e,by have:=KT.sh (mu:=mu) r;rw[bm]at this;exact this⟩
theorem eP.mor{K:Fg1}{H:Hp}{mu:List c0}(mu':List c0):∀{d:D} {v:V},eP K H mu d v->eP K H (mu++mu') d v:=λh=>h.exv ⟨bn _ _,λ_ _ h=>h,λ_ _ _ h=>h⟩
theorem dD.mor{K:Fg1}{H:Hp}{mu:List c0}(mu':List c0):∀{ds:List D} {vs:List V},dD K H mu ds vs->dD K H (mu++mu') ds vs:=λh=>h.exv ⟨bn _ _,λ_ _ h=>h,λ_ _ _ h=>h⟩
theorem KR.mor{κ:Type}{K:Fg1}{H:Hp}{mu:List c0}(mu':List c0){ks:List (κ×D)}{ws:List (κ×V)}(h:KR K H mu ks ws):KR K H (mu++mu') ks ws:=Paired.mapP h λ_ _ z=>⟨z.1,z.2.mor mu'⟩
theorem oN.mor{K:Fg1}{H:Hp}{mu:List c0}{a:c0}(mu':List c0):∀{o:Ob},oN K H mu a o->oN K H (mu++mu') a o
 | .lst _,⟨vs,e,r⟩=>⟨vs,e,r.mor mu'⟩
 | .dct _,⟨ws,e,r⟩=>⟨ws,e,KR.mor mu' r⟩
 | .dcT _,⟨ws,e,r,l⟩=>⟨ws,e,Paired.mapP r λ_ _ ⟨z,d,k,v,b,r⟩=>⟨z,d,k.mor mu',v,b,r.mor mu'⟩,l⟩
 | .iset _,q=>q
 | .dcF _,⟨ws,e,r,l⟩=>⟨ws,e,Paired.mapP r λ_ _ ⟨z,d,k,v,b,r⟩=>⟨z,d,k.mor mu',v,b,r.mor mu'⟩,l⟩
 | .tst _,⟨ws,e,r⟩=>⟨ws,e,Paired.mapP r λ_ _ ⟨z,d,k,v,b,r⟩=>⟨z,d,k.mor mu',v,b,r.mor mu'⟩⟩
def pS(f:FN):FN:=λds S=>if D.unds 0 ds=M then(f ds []).map λp=>if p.1.und 0=M then(p.1,S)else(p.1.sh S.length,S++p.2.map (Ob.sh S.length))else(f ds S).map (gc S.length)
theorem oN.keep{K:Fg1}{H H':Hp}{mu:List c0}{a:c0}(e:Ext mu mu H H')(h:∀o,H a=Z o->H' a=Z o):∀{o:Ob},oN K H mu a o->oN K H' mu a o
 | .lst _,⟨vs,q,r⟩=>⟨vs,h _ q,r.ext e⟩
 | .dct _,⟨ws,q,r⟩=>⟨ws,h _ q,KR.ext e r⟩
 | .dcT _,⟨ws,q,r,l⟩=>⟨ws,h _ q,KT.ext e r,l⟩
 | .iset _,q=>⟨h _ q.1,q.2⟩
 | .dcF _,⟨ws,⟨o,u,c,b⟩,r,l⟩=>⟨ws,⟨o,u,h _ c,b⟩,KT.ext e r,l⟩
 | .tst _,⟨ws,q,r⟩=>⟨ws,h _ q,KT.ext e r⟩
theorem uf{K:Fg1}{f:FN}{vs:List V}{H:Hp}{Q:VK}(h:rN K (pS f) vs H Q):rN K f vs H Q:=by
 obtain⟨mu,S,ds,d,L,D,c,g,hc⟩:=h;unfold pS at g;split at g
 ·rename_i j;obtain⟨⟨B,p⟩,u,g⟩:=oM1.mp g;refine⟨[],[],ds,B,p,D.cut (n:=0) (λk i=>absurd i (bo _)) j,.nil,u,λv H' mu' x r s=>?_⟩;have A:Ext mu mu H H':=⟨bf,λa o e _=>x.old a o e (by simp),x.tup,x.frz,λ_ z=>.inl z⟩;dsimp only at g;split at g
  ·rename_i G;cases g;refine hc v H' mu A (r.cut (n:=0) (λk i=>absurd i (bo _)) G) ⟨c.len,c.nd,λn o a h1 h2=>?_⟩;exact(c.ob n o a h1 h2).keep A λo e=>x.old a o e (by simp)
  ·cases g;have C:∀ a∈mu',H a=none:=fun a y=>(x.new a y).resolve_left (by simp);have x2:Ext mu (mu++mu') H H':=⟨bn _ _,fun a o e _=>x.old a o e (by simp),x.tup,x.frz,fun a z=>by
    rcases az.mp z with z|z
    ·exact .inl z
    ·exact .inr (C a z)⟩
   refine hc v H' (mu++mu') x2 (by rw[<- c.len];exact r.sh) ⟨by rw[lA1,lA1,lM1,c.len,s.len],?_,λn o a h1 h2=>?_⟩
   ·refine bp.mpr ⟨c.nd,s.nd,λa y b j z=>?_⟩;subst z;obtain⟨o,e⟩:=c.here y;rw[C a j]at e;cases e
   ·by_cases l:n<S.length
    ·rw[gL1 l]at h1;rw[gL1 (by rw[c.len];exact l)]at h2;exact((c.ob n o a h1 h2).keep A λo e=>x.old a o e (by simp)).mor mu'
    ·have m:=Nat.le_of_not_lt l;rw[gR1 m]at h1;rw[gR1 (by rw[c.len];exact m)]at h2;rw[gP1]at h1;obtain⟨F,I,ag⟩:=oM1.mp h1;subst ag;have q:=s.ob (n-S.length) F a I (by rw[c.len]at h2;exact h2);rw[<- c.len];exact q.sh
 ·obtain⟨⟨B,p⟩,u,g⟩:=oM1.mp g;refine⟨mu,S,ds,B,p,D,c,u,λv H' mu' x r s=>?_⟩;unfold gc at g;split at g
  ·rename_i j;cases g;rw [bA1] at j;have i:∀ k,k<S.length->mu'[k]? = mu[k]?:=fun k i=>by
    obtain⟨t,rfl⟩:=x.pre;rw[gL1 (by rw[c.len];exact i)]
   refine hc v H' mu x.back (r.cut i j.1) ⟨?_,c.nd,λn o a h1 h2=>?_⟩
   ·have:=s.len;have E:=x.pre.length_le;rw[aL,<- s.len];rw[c.len]at E ⊢;exact(bq E).symm
   ·have l:n<S.length:=by rw[<- c.len];exact(gE1.mp h2).1
    have w:p[n]?=Z o:=by rw[aN l]at h1;exact h1
    refine(s.ob n o a w ((i n l).trans h2)).cut i ?_;exact br.mp j.2 o (gM1 h1)
  ·cases g;exact hc v H' mu' x r s
def spM(K:Fg1)(n:Nat)(f:FN):Sp:=λvs H Q _=>vs.length=n/\rN K f vs H Q
section
variable{X:Cx}{k n:Nat}{f:c0}{fd:df}{ps:List Str}{x:Str}{p pos:Pos}{e:Expr}{es:List Expr}{m:FN}{a:FA}
def dn(n:Nat)(f:FN):FN:=λds S=>if ds.length=n then pS f ds S else Y
theorem C9 (F:jK X.prog X.w X.K X.mg X.base um k f fd ps (spM X.K n m))(hr:fB k X.A)(hg:Gl X x)(hm:X.mg x=some (.ref f))(hk:wK1 X.K (.ref f)=true)(hb:jd X.K fd ps [])
  (ha:MA X (e::es) a) (hdb:(x == ("__debug__":Str))=J:=by decide) (he:c9 (e::es) X.env=(J,eval e X.env)::c9 es X.env:=by rfl) (hpl:(backTo pos (c9 es X.env)).any (·.1)=J:=by rfl):
  ME X (.Call (.Name x p) (e::es) [] pos) (mN (dn n m) a):=
 eg (CK (E:=E0) F hr hg hm hk hb .nil Eo ha hdb he hpl) fun σ H Q h=>by
  obtain⟨r,mu,S,ds,t,he,w,hm,hc⟩:=wr h;refine⟨r,mu,S,ds,t,he,w,hm,λvs H' mu' g j o=>?_⟩;have q:=hc vs H' mu' g j o;show spM X.K n m (vs++[]) H' Q E0;rw[aG];obtain⟨c,v,d,u,s,h1,h2,b,i⟩:=q;unfold dn at b;split at b
  ·rename_i l;exact⟨by rw[<- h1.length];exact l,uf ⟨c,v,d,u,s,h1,h2,b,i⟩⟩
  ·cases b
end
def je:FS:=λr S=>Z (.nx,r,S)
def dw(a b:FS):FS:=λr S=>(a r S).bind λp=>match p.1 with
 | .nx=>b p.2.1 p.2.2
 |f=>Z (f,p.2.1,p.2.2)
def dX(m:FE):FS:=λr S=>(m r S).bind λp=>Z (.rt p.1,r,p.2)
def LB:FS:=λr S=>Z (.rt .non,r,S)
def eK(m:FE):FS:=λr S=>(m r S).bind λp=>Z (.nx,r,p.2)
def eB(c:FT)(a b:FS):FS:=λr S=>(c r S).bind λp=>if p.1=M then a r p.2 else b r p.2
section
variable{X:Cx}{pos:Pos}{e c:Expr}{st:dg}{rest as bs:List dg}{a b:FS}{m:FE}{t:FT}
theorem CZ:yp X [] je:=qu Cr <| by
 rintro E σ H ⟨r,mu,S,f,d,e,b,c,a,hc⟩;cases a;exact hc σ H mu (.refl _ _) b c
theorem Aj(h1:MS X st a)(h2:yp X rest b):yp X (st::rest) (dw a b):=qu (zC h1 h2) <| by
 rintro E σ H ⟨r,mu,S,f,q,o,s,t,g,hc⟩;obtain⟨⟨m,l,k⟩,p,g⟩:=oB1.mp g;refine⟨r,mu,S,m,l,k,s,t,p,?_⟩;cases m with
 |nx=>
  intro n H1 mu1 h j i;refine⟨l,mu1,k,f,q,o,j,i,g,?_⟩;cases f with
  |nx=>exact λe H2 c x2=>hc e H2 c (h.trans x2)
  |bk=>exact λe H2 c x2=>hc e H2 c (h.trans x2)
  |ct=>exact λe H2 c x2=>hc e H2 c (h.trans x2)
  |rt d=>exact λv H2 c x2=>hc v H2 c (h.trans x2)
 |bk=>cases g;exact hc
 |ct=>cases g;exact hc
 |rt d=>cases g;exact hc
theorem CY(h1:MS X st a):yp X [st] a:=Cq h1
theorem C0(h:ME X e m)(hs:swapsWith e Y pos.line X.env=pure J:=by rfl):MS X (.Expr e pos) (eK m):=iQ (Cs h hs) <| by
 rintro E σ H ⟨r,mu,S,f,l,i,b,hs,a,hc⟩;obtain⟨⟨d,j⟩,c,a⟩:=oB1.mp a;cases a;exact⟨r,mu,S,d,_,b,hs,c,λv H' mu' x k g=>hc σ H' mu' x (b.ext x) g⟩
theorem Gm(h:ME X e m):MS X (.Return (Z e) pos) (dX m):=iQ (Fx h) <| by
 rintro E σ H ⟨r,mu,S,f,k,i,c,g,a,hc⟩;obtain⟨⟨d,j⟩,b,a⟩:=oB1.mp a;cases a;exact⟨r,mu,S,d,_,c,g,b,hc⟩
theorem IY(hc:MT X c t)(ha:yp X as a)(hb:yp X bs b):MS X (.If c as bs pos) (eB t a b):=iQ (IC hc ha hb) <| by
 rintro E σ H ⟨r,mu,S,f,m,l,o,s,h,hc⟩;obtain⟨⟨k,j⟩,p,h⟩:=oB1.mp h;refine⟨r,mu,S,k,j,o,s,p,λH1 mu1 i q=>?_⟩;have n:∀c:FS,c r j=Z (f,m,l)->vO X.K c E σ H1:=λc h=>by
  refine⟨r,mu1,j,f,m,l,o.ext i,q,h,?_⟩;cases f with
  |nx=>exact λg H2 e x2=>hc g H2 e (i.trans x2)
  |bk=>exact λg H2 e x2=>hc g H2 e (i.trans x2)
  |ct=>exact λg H2 e x2=>hc g H2 e (i.trans x2)
  |rt d=>exact λv H2 e x2=>hc v H2 e (i.trans x2)
 cases k with
 |true=>exact n a h
 |false=>exact n b h
end
abbrev FG:=D->Ev->Sto->Option (Ev×Sto)
abbrev BI:=List D->Ev->Sto->Option (Ev×Sto)
inductive Ib (K:Fg1)(g:FG)(v:V)(σ:L2.St)(H:Hp)(Q:L2.St->Hp->Prop):Prop
 |mk (r:Ev) (mu:List c0) (S:Sto) (d:D) (r':Ev) (S':Sto) (he:fC K H mu r σ) (hs:Sim K H mu S) (hr:eP K H mu d v) (hm:g d r S=some (r',S')) (hc:∀ σ' H' mu',Ext mu mu' H H'->fC K H' mu' r' σ'->Sim K H' mu' S'->Q σ' H')
inductive Kz (K:Fg1)(g:BI)(vs:List V)(σ:L2.St)(H:Hp)(Q:L2.St->Hp->Prop):Prop
 |mk (r:Ev) (mu:List c0) (S:Sto) (ds:List D) (r':Ev) (S':Sto) (he:fC K H mu r σ) (hs:Sim K H mu S) (hr:dD K H mu ds vs) (hm:g ds r S=some (r',S')) (hc:∀ σ' H' mu',Ext mu mu' H H'->fC K H' mu' r' σ'->Sim K H' mu' S'->Q σ' H')
abbrev MG(X:Cx)(e:Expr)(g:FG):Prop:=PG X e (Ib X.K g)
abbrev JZ(X:Cx)(es:List Expr)(g:BI):Prop:=HF X es (Kz X.K g)
def gN(i:Nat):FG:=λd r S=>Z (r.set i (Z d),S)
def jf:BI:=λds r S=>match ds with
 |[]=>Z (r,S)
 |_=>Y
def fu(g:FG)(gs:BI):BI:=λds r S=>match ds with
 |d::ds=>(g d r S).bind λp=>gs ds p.1 p.2
 |[]=>Y
def gT(n:Nat)(gs:BI):FG:=λd r S=>match d with
 | .tup ds=>if ds.length=n then gs ds r S else Y
 |_=>Y
theorem fC.set{K:Fg1}{H:Hp}{mu:List c0}{r:Ev}{σ:L2.St}{i:Nat}{d:D}{v:V}(h:fC K H mu r σ)(q:eP K H mu d v):fC K H mu (r.set i (Z d)) (σ.set i (Z v)):=by
 refine⟨by rw[aQ,aQ];exact h.len,λj k e=>?_⟩;by_cases a:i=j
 ·subst a;have b:i<r.length:=by
   have:=(gE1.mp e).1
   rwa [aQ]at this
  rw[aB b]at e;cases e;exact⟨v,aB (by rw[<- h.len];exact b),q⟩
 ·rw[gS1 a]at e;obtain⟨g,c,f⟩:=h.val j k e;exact⟨g,by rw[gS1 a];exact c,f⟩
section
variable{X:Cx}{pos:Pos}
theorem uO{e:Expr}{t t':TG}(h:PG X e t)(i:∀v σ H Q,t' v σ H Q->t v σ H Q):PG X e t':=λZ8 s σ H v u Q I r q=>h Z8 s σ H v u Q I r (i v σ H Q q)
theorem v9{e:List Expr}{t t':ET}(h:HF X e t)(i:∀v σ H Q,t' v σ H Q->t v σ H Q):HF X e t':=λZ8 s σ H v u Q I r q=>h Z8 s σ H v u Q I r (i v σ H Q q)
theorem C7(i:Nat){x:Str}(hN:X.N.Nodup)(hi:X.N[i]?=Z x)(hx:yq X.env.scope x)(hf:X.fn x=M\/X.env.scope.names.lookup x=Z .local:=by first|exact .inl rfl|exact .inr rfl|assumption):MG X (.Name x pos) (gN i):=
 uO (wa hN hi hx hf) <| by
  rintro v σ H Q ⟨r,mu,S,d,f,g,b,e,c,a,hc⟩;cases a;exact hc _ H mu (.refl _ _) (b.set c) e
theorem C6:JZ X [] jf:=v9 CD <| by
 rintro vs σ H Q ⟨r,mu,S,ds,e,f,b,d,c,a,hc⟩;unfold jf at a;split at a
 ·cases a;cases c;exact⟨O,hc σ H mu (.refl _ _) b d⟩
 ·cases a
theorem An{e:Expr}{es:List Expr}{g:FG}{j:BI}(h1:MG X e g)(h2:JZ X es j)(hs:(assignEach (e::es) X.env).map (·.2)=assign e X.env::(assignEach es X.env).map (·.2):=by rfl):JZ X (e::es) (fu g j):=
 v9 (zL h1 h2 hs) <| by
  rintro vs σ H Q ⟨r,mu,S,ds,n,l,o,hs,p,a,hc⟩;unfold fu at a;split at a
  ·obtain⟨⟨i,h⟩,m,a⟩:=oB1.mp a;cases p with
   |cons q t=>
    exact⟨_,_,O,r,mu,S,_,i,h,o,hs,q,m,λk H1 mu1 f b s=>⟨i,mu1,h,_,n,l,b,s,t.ext f,a,λc H2 d x2=>hc c H2 d (f.trans x2)⟩⟩
  ·cases a
theorem Gu{es:List Expr}{k:Nat}{b:BI}{n:Nat}(hc:X.calm=M)(h:JZ X es b)(hn:(assignEach es X.env).length=n:=by rfl)(hst:(assignEach es X.env).findIdx? (·.1)=Y:=by rfl):MG X (.Tuple es k pos) (gT n b):=
 uO (FK hc h hn hst) <| by
  rintro v σ H Q ⟨r,mu,S,d,f,c,g,j,i,a,hc⟩;cases d with
  |tup ds=>
   rw[gT]at a;split at a
   ·rename_i e;cases i with
    |tup q t=>exact⟨_,_,O,q,by rw[<- t.length];exact e,r,mu,S,ds,f,c,g,j,t,a,hc⟩
   ·cases a
  |_=>cases a
inductive rU (K:Fg1)(f:FN)(o i v:V)(H:Hp)(Q:Hp->Prop):Prop
 |mk (mu:List c0) (S:Sto) (ds:List D) (d:D) (S':Sto) (hr:dD K H mu ds [o,i,v]) (hs:Sim K H mu S) (hm:f ds S=some (d,S')) (hc:∀H' mu',Ext mu mu' H H'->Sim K H' mu' S'->Q H')
def gS(f:FN)(a b:FE):FG:=λd r S=>(a r S).bind λp=>(b r p.2).bind λq=>(f [p.1,q.1,d] q.2).bind λt=>Z (r,t.2)
theorem Gv{o i:Expr}{a b:FE}{f:FN}(ho:ME X o a)(hi:ME X i b)(hs:vx X (rU X.K f))(ha:∀v,assign (.Subscript o i pos) X.env v=(do
   let ov<-holding [v] (eval o X.env)
   let iv<-holding [v,ov] (eval i X.env)
   standAt pos
   holding [v,ov,iv] (setItem ov iv v)
   release [v,ov,iv] []):=by intro _;rfl):MG X (.Subscript o i pos) (gS f a b):=
 uO (FL ho hi hs ha) <| by
  rintro v σ H Q ⟨r,mu,S,d,D,G,h,hs,y,c,hc⟩;obtain⟨⟨n,m⟩,s,c⟩:=oB1.mp c;obtain⟨⟨l,p⟩,t,c⟩:=oB1.mp c;obtain⟨⟨B,E⟩,w,c⟩:=oB1.mp c;cases c;refine⟨r,mu,S,n,m,h,hs,s,λF H1 mu1 e A u=>?_⟩;refine⟨r,mu1,m,l,p,h.ext e,u,t,λC H2 j x2 r2 x=>?_⟩;exact⟨j,p,[n,l,d],B,_,.cons (A.ext x2) (.cons r2 (.cons ((y.ext e).ext x2) .nil)),x,w,λq g k z=>hc σ q g ((e.trans x2).trans k) (((h.ext e).ext x2).ext k) z⟩
def dE(m:FE)(g:FG):FS:=λr S=>(m r S).bind λp=>(g p.1 r p.2).bind λq=>Z (.nx,q.1,q.2)
theorem re{K:Fg1}{m:FE}{g:FG}{E:jL}{σ:L2.St}{H:Hp}(h:vO K (dE m g) E σ H):zg (tM K m) (Ib K g) E σ H:=by
 obtain⟨r,mu,S,f,s,q,i,p,a,hc⟩:=h;obtain⟨⟨j,e⟩,k,a⟩:=oB1.mp a;obtain⟨⟨r2,u⟩,n,a⟩:=oB1.mp a;cases a;refine⟨r,mu,S,j,e,i,p,k,λt H1 mu1 d l o=>?_⟩;exact⟨r,mu1,e,j,_,_,i.ext d,o,l,n,λc H2 b x2=>hc c H2 b (d.trans x2)⟩
theorem Go{tg e:Expr}{m:FE}{g:FG}(he:ME X e m)(hg:MG X tg g)(hs:swapsWithSole [tg] e pos.line X.env=pure J:=by rfl)(hw:swappedStores [tg] e X.env=pure Y:=by rfl)(h1:(assignEach [tg] X.env).map (·.2)=[assign tg X.env]:=by rfl):MS X (.Assign [tg] e pos) (dE m g):=iQ (FC he hg hs hw h1) λ_ _ _=>re
theorem Gk(i:Nat){x:Str}{e:Expr}{m:FE}{pos':Pos}(hN:X.N.Nodup)(hi:X.N[i]? = some x)(hx:yq X.env.scope x)(he:ME X e m)(hs:swapsWith e (some (.Name x pos')) pos.line X.env=pure false:=by rfl)(hf:X.fn x=true\/X.env.scope.names.lookup x=some .local:=by first | exact .inl rfl | exact .inr rfl | assumption):
  MS X (.Assign [.Name x pos'] e pos) (dE m (gN i)):=iQ (Fw hN hi hx he hs hf) λE σ H h=>by
 obtain⟨r,mu,S,d,q,h1,h2,c,f⟩:=re h;refine⟨r,mu,S,d,q,h1,h2,c,λv H' mu' b g p=>?_⟩;obtain⟨r2,a,w,u,s,t,o,k,l,n,j⟩:=f v H' mu' b g p;cases n;exact j _ H' a (.refl _ _) (o.set l) k
def Mk(i:Nat)(f:FN)(m:FE):FS:=λr S=>match r[i]? with
 |some (Z d)=>(m r S).bind λp=>(f [d,p.1] p.2).bind λq=>Z (.nx,r.set i (Z q.1),q.2)
 |_=>Y
end
def uo(c:FT)(b:FS):Nat->FS
 |0=>λ_ _=>Y
 | n+1=>fun r S=>(c r S).bind fun p=>if p.1=true then (b r p.2).bind fun q=>match q.1 with
   | .nx=>uo c b n q.2.1 q.2.2
   | .ct=>uo c b n q.2.1 q.2.2
   | .bk=>Z (.nx,q.2.1,q.2.2)
   | .rt d=>Z (.rt d,q.2.1,q.2.2)
  else Z (.nx,r,p.2)
theorem EZ{K:Fg1}{c:FT}{b:FS}{n:Nat}{E:jL}{σ:L2.St}{H:Hp}(h:vO K (uo c b n) E σ H):zb (B3 K c) (vO K b) E σ H:=by
 refine⟨λm a H'=>vO K (uo c b m) E a H',⟨n,h⟩,λm s H1 q=>?_⟩;obtain⟨r,mu,S,f,u,C,t,G,i,hc⟩:=q;cases m with
 |zero=>cases i
 |succ m=>
  obtain⟨⟨k,B⟩,D,i⟩:=oB1.mp i;refine⟨r,mu,S,k,B,t,G,D,λH2 e x2 z=>?_⟩;cases k with
  |false=>
   cases i;exact hc s H2 e x2 (t.ext x2) z
  |true=>
   obtain⟨⟨A,o,p⟩,F,i⟩:=oB1.mp i;have w:∀{a H' mu'},Ext e mu' H2 H'->fC K H' mu' o a->Sim K H' mu' p->uo c b m o p=Z (f,u,C)->vO K (uo c b m) E a H':=λ{a H' mu'} x g l i=>by
    refine⟨o,mu',p,f,u,C,g,l,i,?_⟩;cases f with
    |nx=>exact λj H2 e y=>hc j H2 e ((x2.trans x).trans y)
    |bk=>exact λj H2 e y=>hc j H2 e ((x2.trans x).trans y)
    |ct=>exact λj H2 e y=>hc j H2 e ((x2.trans x).trans y)
    |rt d=>exact λv H2 e y=>hc v H2 e ((x2.trans x).trans y)
   refine⟨λa H'=>vO K (uo c b m) E a H',λa H' q=>⟨m,bt _,q⟩,r,e,B,A,o,p,t.ext x2,z,F,?_⟩;cases A with
   |nx=>exact λa H' mu' x g l=>w x g l i
   |ct=>exact λa H' mu' x g l=>w x g l i
   |bk=>cases i;exact λa H' mu' x g l=>hc a H' mu' (x2.trans x) g l
   |rt d=>cases i;exact λv H' mu' x o l=>hc v H' mu' (x2.trans x) o l
theorem Ak{X:Cx}{pos:Pos}(n:Nat){c:Expr}{a:List dg}{t:FT}{b:FS}(hp:PassesOwn (model X.prog X.w) X.A X.env X.xe)(hc:MT X c t)(hb:yp X a b):MS X (.While c a [] pos) (uo t b n):=
 iQ (zE hp hc hb) λ_ _ _=>EZ
structure yr where
 items:List D
 chk:List (Nat×List D)
def oW(S:Sto):List (Nat×List D)->Bool
 |[]=>M
 | (n,xs)::c=>(match S[n]? with
   |some (.lst ys)=>D.sames ys xs
   |_=>J)&&oW S c
def Lq(K:Fg1)(j:It)(ag:yr)(mu:List c0)(H:Hp):Prop:=∀i H1 mu1 S1,sw mu mu1 H H1->Sim K H1 mu1 S1->oW S1 ag.chk=M ->
 (∀d,ag.items[i]?=Z d->j.go i H1 /\ ∀x H2,j.yld i H1 x H2->Ext mu1 mu1 H1 H2/\Sim K H2 mu1 S1/\eP K H2 mu1 d x)/\(ag.items.length<=i->j.stop i H1)
abbrev FI:=Ev->Sto->Option (yr×Sto)
inductive Ky (K:Fg1)(m:FI)(σ:L2.St)(H:Hp)(R:It->Hp->Prop):Prop
 |mk (r:Ev) (mu:List c0) (S:Sto) (ag:yr) (S':Sto) (he:fC K H mu r σ) (hs:Sim K H mu S) (hm:m r S=some (ag,S')) (hc:∀j H' mu',Ext mu mu' H H'->Lq K j ag mu' H'->Sim K H' mu' S'->R j H')
abbrev MI(X:Cx)(tg iter:Expr)(m:FI):Prop:=PI X tg iter (Ky X.K m)
theorem nN{X:Cx}{tg e:Expr}{t t':TI}(h:PI X tg e t)(i:∀ σ H R,t' σ H R->t σ H R):PI X tg e t':=λZ8 s σ H R I q=>h Z8 s σ H R I (i σ H R q)
theorem IE{X:Cx}{tg e:Expr}{t t':TI}(h:PI X tg e t)(h':PI X tg e t'):PI X tg e (fun σ H R=>t σ H R\/t' σ H R):=λZ8 s σ H R I q=>q.elim (h Z8 s σ H R I) (h' Z8 s σ H R I)
def i9(c:List (Nat×List D))(g:FG)(b:FS):List D->FS
 |[]=>λr S=>if oW S c=M then Z (.nx,r,S)else Y
 | d::ds=>fun r S=>if oW S c=true then (g d r S).bind fun p=>(b p.1 p.2).bind fun q=>match q.1 with
   | .nx=>i9 c g b ds q.2.1 q.2.2
   | .ct=>i9 c g b ds q.2.1 q.2.2
   | .bk=>Z (.nx,q.2.1,q.2.2)
   | .rt v=>Z (.rt v,q.2.1,q.2.2)
  else Y
def eR(m:FI)(g:FG)(b:FS):FS:=λr S=>(m r S).bind λp=>i9 p.1.chk g b p.1.items r p.2
theorem mG{α:Type}{l:List α}{i:Nat}{d:α}{ds:List α}(h:l.drop i=d::ds):l[i]?=Z d/\l.drop (i+1)=ds:=by
 have h1:l[i]?=Z d:=by
  have:=congrArg (·[0]?) h;simpa using this
 refine⟨h1,?_⟩;rw[<- List.drop_drop,h];rfl
inductive Ll (K:Fg1)(mu1:List c0)(H1:Hp)(c:List (Nat×List D))(g:FG)(b:FS)(f:Fl)(r':Ev)(S':Sto)(L:List D)(σ':L2.St)(H':Hp):Prop
 |mk (r2:Ev) (mu2:List c0) (S2:Sto):Ext mu1 mu2 H1 H'->fC K H' mu2 r2 σ'->Sim K H' mu2 S2->i9 c g b L r2 S2=some (f,r',S')->Ll K mu1 H1 c g b f r' S' L σ' H'
theorem Db{K:Fg1}{m:FI}{g:FG}{b:FS}{E:jL}{σ:L2.St}{H:Hp}(h:vO K (eR m g b) E σ H):Ic (Ky K m) (Ib K g) (vO K b) E σ H:=by
 obtain⟨r,mu,S,f,ah,U,P,hs,B,hc⟩:=h;obtain⟨⟨ag,R⟩,W,B⟩:=oB1.mp B;refine⟨r,mu,S,ag,R,P,hs,W,λj H1 mu1 w aj s1=>?_⟩;refine⟨λi k t H'=>k=(ag.items.drop i).length/\Ll K mu1 H1 ag.chk g b f ah U (ag.items.drop i) t H',⟨_,O,r,mu1,R,.refl _ _,P.ext w,s1,B⟩,?_⟩;rintro i k F H2 ⟨rfl,r2,l,S2,x2,s,D,a⟩;cases hl:ag.items.drop i with
 |nil=>
  left;rw[hl]at a;rw[i9]at a;dsimp only at a;split at a
  ·rename_i ok;cases a;refine⟨(aj i H2 l _ x2.w D ok).2 (List.drop_eq_nil_iff.mp hl),?_⟩;exact hc F H2 l (w.trans x2) s D
  ·cases a
 |cons d ds=>
  right;rw[hl]at a;obtain⟨hi,N⟩:=mG hl;rw[i9]at a;dsimp only at a;split at a
  ·rename_i ok;obtain⟨⟨T,Q⟩,e3,a⟩:=oB1.mp a;obtain⟨⟨L,C,G⟩,e4,a⟩:=oB1.mp a;obtain⟨ai,X⟩:=(aj i H2 l _ x2.w D ok).1 d hi;refine⟨ai,Ll K mu1 H1 ag.chk g b f ah U ds,?_,λx V y=>?_⟩
   ·intro t H' wq;exact⟨ds.length,bt _,(congrArg List.length N).symm,N.symm ▸ wq⟩
   ·obtain⟨q,s3,q3⟩:=X x V y;refine⟨r2,l,S2,d,T,Q,s.ext q,s3,q3,e3,fun σ4 H4 A z I s4=>?_⟩;refine⟨T,A,Q,L,C,G,I,s4,e4,?_⟩;cases L with
    |nx=>exact λn u c p e o=>⟨C,c,G,(x2.trans q).trans (z.trans p),e,o,a⟩
    |ct=>exact λn u c p e o=>⟨C,c,G,(x2.trans q).trans (z.trans p),e,o,a⟩
    |bk=>cases a;exact λn u c p e o=>hc n u c ((w.trans x2).trans (q.trans (z.trans p))) e o
    |rt v=>cases a;exact λv5 u c p r5 o=>hc v5 u c ((w.trans x2).trans (q.trans (z.trans p))) r5 o
  ·cases a
theorem Gn{X:Cx}{pos:Pos}{tg iter:Expr}{a:List dg}{m:FI}{g:FG}{b:FS}(hp:PassesOwn (model X.prog X.w) X.A X.env X.xe)(hc:X.calm=M)(hi:MI X tg iter m)(hg:MG X tg g)(hb:yp X a b)(hs:∀x,foldedSetIterable iter X.env x=pure x:=by intro _;rfl):MS X (.For tg iter a [] pos) (eR m g b):=iQ (FB hp hc hi hg hb hs) λ_ _ _=>Db
def e6(n:Nat)(ds:List D):Ev:=ds.map Z++aJ (n-ds.length) Y
def hU(n:Nat)(b:FS):FN:=λds S=>(b (e6 n ds) S).bind λp=>match p.1 with
 | .rt d=>Z (d,p.2.2)
 | .nx=>Z (.non,p.2.2)
 |_=>Y
theorem xn{K:Fg1}{H:Hp}{mu:List c0}{ds:List D}{vs:List V}(N:List Str)(h:dD K H mu ds vs):fC K H mu (e6 N.length ds) (L2.jj N vs):=by
 refine⟨?_,λi d e=>?_⟩
 ·unfold e6 L2.jj;rw[lA1,lA1,lM1,lM1,lR1,lR1,h.length]
 ·unfold e6 at e;unfold L2.jj;by_cases hi:i<ds.length
  ·rw[gL1 (by rw[lM1];exact hi),gP1]at e;obtain⟨f,b,a⟩:=oM1.mp e;cases a;obtain⟨v,c,r⟩:=h.get b;refine⟨v,?_,r⟩;rw[gL1 (by rw[lM1,<- h.length];exact hi),gP1,c];rfl
  ·rw[gR1 (by rw[lM1];lia)]at e;have:=gM1 e;rw[bu]at this;cases this.2
theorem JA{P:c5}{w:c7}{K:Fg1}{mg:Str->Option cY}{base:de}{x c:Str}{st:dg}{f:c0}{fd:df}{N ps:List Str}{k:Nat}{b:FS}(F:xa K x c st f fd)(S:gv N ps (dI st))(i:∀(e:cY) (A:c6) (a:List Env) (s:cZ) (H:Hp) (E:XK),fB k (A.deeper (envOfC c (dI st) s.heap.objs.size f e)) ->
   yp (mW um P w K mg base N c (dI st) f e A a s H E).nox (fe st) b):jK P w K mg base um (k+1) f fd ps (spM K ps.length (hU N.length b)):=by
 refine xa.ok F S (λvs H Q E h=>h.1) λe A a s H vs Q E r j=>⟨_,i e A a s H E r,?_⟩;obtain⟨_,mu,St,ds,d,u,h1,h2,g,l⟩:=j;unfold hU at g;obtain⟨⟨m,q,p⟩,o,g⟩:=oB1.mp g;refine⟨_,mu,St,m,q,p,xn N h1,h2,o,?_⟩;cases m with
 |nx=>cases g;exact λn H' mu' x t s=>l .non H' mu' x .non s
 |rt d=>cases g;exact l
 |bk=>cases g
 |ct=>cases g
def j4(cells:List (Str×c0)):List (Str×NameKind)->List (Str×c0)->Option (List (Str×c0))
 |[],acc=>Z acc
 |(n,k)::r,acc=>if k == .free then(cells.lookup n).bind λc=>j4 cells r ((n,c)::acc)else j4 cells r acc
theorem vh{env:Env}(f:Str×NameKind->List (Str×c0)->Sem (ForInStep (List (Str×c0))))(hf:∀n k cs,f (n,k) cs=if k == .free then(do let c<-cellOf env n;pure (.yield ((n,c)::cs)))else pure (.yield cs)):
  ∀(a:List (Str×NameKind)) (b d:List (Str×c0)),j4 env.cells a b=Z d->forIn a b f=(pure d:Sem (List (Str×c0)))
 |[],b,d,h=>by cases h;rfl
 |(n,k)::r,b,d,h=>by
  rw[bv,hf];unfold j4 at h;split at h
  ·rename_i g;rw[ae g];obtain⟨c,e,h⟩:=oB1.mp h;have:cellOf env n=pure c:=by unfold cellOf;rw[e]
   rw[this,pure_bind,pure_bind];exact vh f hf r _ d h
  ·rename_i g;rw[ab g,pure_bind];exact vh f hf r _ d h
theorem Bj{scope:dh}{env:Env}{cl:List (Str×c0)}(h:j4 env.cells scope.names []=Z cl):closureFor scope env=pure cl:=by
 simp only[closureFor];rw[vh (env:=env) _ (λn k cs=>by cases hk:k == NameKind.free<;>simp[hk]) scope.names [] cl h];rfl
theorem vg{a:List (Str×c0)}:∀{d:List (Str×NameKind)} {b f:List (Str×c0)},j4 a d b=Z f->(∀x c,b.lookup x=Z c->a.lookup x=Z c) -> ∀x c,f.lookup x=Z c->a.lookup x=Z c
 |[],b,f,h,ha=>by cases h;exact ha
 |(n,k)::r,b,f,h,ha=>by
  unfold j4 at h;split at h
  ·obtain⟨c,e,h⟩:=oB1.mp h;refine vg h λx g q=>?_;rw[bw]at q;split at q
   ·rename_i i;cases q;rw[beq_iff_eq.mp i];exact e
   ·exact ha x g q
  ·exact vg h ha
theorem ng{d:List (Str×c0)}{x:Str}:∀{a:List (Str×NameKind)} {b f:List (Str×c0)},j4 d a b=Z f->(a.lookup x=Z .free\/(b.lookup x).isSome=M)->(f.lookup x).isSome=M
 |[],b,f,h,ha=>by
  cases h;rcases ha with q|q
  ·cases q
  ·exact q
 |(n,k)::r,b,f,h,ha=>by
  unfold j4 at h;split at h
  ·obtain⟨c,e,h⟩:=oB1.mp h;refine ng h ?_;rcases ha with q|q
   ·rw[bw]at q;split at q
    ·rename_i i;right;rw[bw,i];rfl
    ·exact .inl q
   ·right;rw[bw];split
    ·rfl
    ·exact q
  ·rename_i g;refine ng h ?_;rcases ha with q|q
   ·rw[bw]at q;split at q
    ·cases q;exact absurd O g
    ·exact .inl q
   ·exact .inr q
theorem gu{x:Str}{c:c0}:∀{a:List (Str×NameKind)} {n:Nat} {acc:List (Str×c0)},(cellsFrom n a acc).lookup x=Z c->(n<=c/\(x,c)∈cellsFrom n a [])\/acc.lookup x=Z c
 |[],_,_,h=>.inr h
 |(y,k)::r,n,acc,h=>by
  unfold cellsFrom at h ⊢;split at h
  ·rename_i b;rw [if_pos b];have app:∀ (a:List (Str×NameKind)) (m:Nat) (acc:List (Str×c0)),cellsFrom m a acc=cellsFrom m a []++acc:=by
    intro a
    induction a with
    |nil=>intro m acc;rfl
    |cons p r ih=>
     obtain⟨z,q⟩:=p;intro m acc;unfold cellsFrom;split
     ·rw[ih _ ((z,m)::acc),ih _ [(z,m)],bx];rfl
     ·exact ih m acc
   rcases gu h with⟨h1,h2⟩|h1
   ·refine .inl ⟨by lia,?_⟩;rw[app];exact aA _ h2
   ·rw[bw]at h1;split at h1
    ·rename_i d;cases h1;refine .inl ⟨nR1 _,?_⟩;rw[app,beq_iff_eq.mp d];exact mA1 _ mS1
    ·exact .inr h1
  ·rename_i b;rw[ab b];exact gu h
theorem oZ{x:Str}{c:c0}{n:Nat}{acc:List (Str×c0)}{a:List (Str×NameKind)}(hx:a.lookup x=Z .cell)(h:(cellsFrom n a acc).lookup x=Z c):n<=c:=by
 have app:∀(a:List (Str×NameKind)) (m:Nat) (acc:List (Str×c0)),cellsFrom m a acc=cellsFrom m a []++acc:=by
  intro a
  induction a with
  |nil=>intro m acc;rfl
  |cons p r ih=>
   obtain⟨z,q⟩:=p;intro m acc;unfold cellsFrom;split
   ·rw[ih _ ((z,m)::acc),ih _ [(z,m)],bx];rfl
   ·exact ih m acc
 rw[app,List.lookup_append]at h;have q:=PySem.W.cellsFrom_some a n [] (.inl hx);obtain⟨b,e⟩:=aK.mp q;rw[e]at h;cases h;rcases gu e with⟨h1,_⟩|h1
 ·exact h1
 ·cases h1
theorem kb {ah:Model}{A:c6}{E:cY->cZ->Prop}{s:cZ}{scope:dh}{globals:c0}{c:List (Str×c0)}{qual:Str}{func:Option c0}{code:cY}{env:Env}{b:c0}{Q:Env->cZ->Prop}
  (d:Q {scope,locals:=s.heap.objs.size,globals,cells:=cellsFrom (s.heap.objs.size+1) scope.names c,qual,func,code:=env.code,frame:=env.frame,builtins:=env.builtins}
   {s with heap:=pushCells (s.heap.push {cls:=.type "dict",data:=.dict #[]}) scope.names}):
  db ah A (newFunctionEnv scope globals c [] qual func code (Z env) b) Q E s:=by
 simp only[newFunctionEnv,Option.isSome_some,if_true];refine wB1 (wpAny_alloc ?_);refine wB1 (wpAny_layCells _ (λname a cells=>by cases hkc:a == NameKind.cell<;>simp[hkc]) _ _ _ _ ?_);rw[show({s with heap:=s.heap.push {cls:=.type "dict",data:=.dict #[]}}:cZ).heap.objs.size=s.heap.objs.size+1 from hZ1 ..];refine wB1 ?_;rw[List.forIn_nil];exact wP1 (wP1 d)
def cxC(X:Cx)(scope:dh)(cl:List (Str×c0))(T:List Str)(keep:List Nat)(s:cZ)(H:Hp)(fp:List c0):Cx where
 prog:=X.prog
 w:=X.w
 K:=X.K
 mg:=X.mg
 base:=X.base
 A:=X.A
 N:=T++keep.map λi=>X.N.getD i (Str.ofString "")
 s₀:=s
 H₀:=H
 env:=compEnvC scope (cellsFrom (s.heap.objs.size+1) scope.names cl) s.heap.objs.size X.env
 outer:=X.stack
 stack:=X.stack
 ex:=fp
 fn:=λx=>scope.names.lookup x == Z .cell
 calm:=X.calm
 pn:=[]
 xe:=λ_ _=>False
def ro(k:Nat)(keep:List Nat)(σ:L2.St):L2.St:=aJ k Y++keep.map λi=>(σ[i]?).join
theorem ju{env:Env}{x:Str}:∀ {a:List (Str×NameKind)},
  (a.map λ(n,k)=>if(k == NameKind.free&&env.scope.kind == .function&&env.kindOf n == Z .cell)then(n,NameKind.cell)else(n,k)).lookup x =
   (a.lookup x).map λk=>if(k == NameKind.free&&env.scope.kind == .function&&env.kindOf x == Z .cell)then NameKind.cell else k
 |[]=>rfl
 |(n,k)::r=>by
  show List.lookup x ((if(k == NameKind.free&&env.scope.kind == .function&&env.kindOf n == Z .cell)=M then(n,NameKind.cell)else(n,k))::_)=_;cases hx:x == n with
  |true=>
   have e:=beq_iff_eq.mp hx;subst e;by_cases hc:(k == NameKind.free&&env.scope.kind == .function&&env.kindOf x == Z .cell)=M
   ·rw[ae hc,bw,hx,bw,hx];simp only[oP1,ae hc]
   ·rw[ab hc,bw,hx,bw,hx];simp only[oP1,ab hc]
  |false=>
   have ih:=@ju env x r;by_cases hc:(k == NameKind.free&&env.scope.kind == .function&&env.kindOf n == Z .cell)=M
   ·rw[ae hc,bw,hx,bw,hx];exact ih
   ·rw[ab hc,bw,hx,bw,hx];exact ih
structure J7 (X:Cx)(scope:dh)(T:List Str)(keep:List Nat):Prop where
 kind:scope.kind = .function
 names:∀x∈scope.names,x.2 = .local->scope.names.lookup x.1=some .local
 free:∀i∈keep,∃x,X.N[i]?=some x/\scope.names.lookup x=some .free/\(X.env.kindOf x=some .cell\/X.env.kindOf x=some .free)/\(x,NameKind.cell)∉scope.names
theorem tO{X:Cx}{Z8:List (c0×Obj)}{σ:L2.St}{H:Hp}{s:cZ}{scope:dh}{w:List (Str×c0)}{T:List Str}{keep:List Nat}{D:List c0}(I:Inv X Z8 σ H s)(C:J7 X scope T keep)(A:j4 X.env.cells scope.names []=some w)(hf:∀b∈D,j5 X Z8 H b)(G:∀b∈D,∃o,s.heap.get? b=some o):
  Inv (cxC X scope w T keep s H D) [] (ro T.length keep σ) H {s with heap:=pushCells (s.heap.push {cls:=.type "dict",data:=.dict #[]}) scope.names}:=by
 have kept:∀b o,s.heap.get? b=Z o->(pushCells (s.heap.push {cls:=.type "dict",data:=.dict #[]}) scope.names).get? b=Z o:=λb o e=>pushCells_keeps _ _ b o (hP1 _ e);have B:=cellsFrom_ok scope.names (s.heap.push {cls:=.type "dict",data:=.dict #[]}) (s.heap.objs.size+1) [] ⟨λ_ _ U=>(nomatch U),List.Pairwise.nil⟩ (by rw[hZ1];exact nR1 _);rw[hZ1]at B;have K:=vg A (λx c q=>by cases q)
 -- a cell of the block: its own or an elder one
 have d:∀x c,(cellsFrom (s.heap.objs.size+1) scope.names w).lookup x=Z c->(s.heap.objs.size+1<=c/\(x,c)∈cellsFrom (s.heap.objs.size+1) scope.names [])\/X.env.cells.lookup x=Z c:=λx c h=>by
  rcases gu h with h1|h1
  ·exact .inl h1
  ·exact .inr (K x c h1)
 have g:∀x c,X.env.cells.lookup x=Z c->c<s.heap.objs.size:=λx c e=>by
  obtain⟨v,z⟩:=I.cell x c e;exact z.lt
 have t:∀b∈D,b<s.heap.objs.size:=λb l=>by
  obtain⟨o,e⟩:=G b l;exact hL1 e
 have fst:∀b∈D,b∉frs X.stack:=λb l z=>by
  rcases ay.mp (I.stkSub b z)with q|q
  ·exact(hf b l).2.1 q
  ·exact(hf b l).2.2.1 q
 have kindOf:∀x,(cxC X scope w T keep s H D).env.kindOf x=(scope.names.lookup x).map λk=>if(k == NameKind.free&&X.env.scope.kind == .function&&X.env.kindOf x == Z .cell)then NameKind.cell else k:=λx=>ju
 refine⟨⟨I.ok.mod,C.kind,I.ok.glob,I.ok.blt,nR1 _,λx y c h1 h2=>?_,λx E=>?_,λx c h1 h2=>?_,I.ok.hd,I.ok.frames,.inl O,λb l=>⟨nN1 (t b l),λx c h z=>?_⟩,λb o e=>I.bs b o e,av I.ok.bsz I.sz,λb o e l=>?_,fst,I.stack,I.stkFree⟩,
  rfl,I.bare,Un.kept kept,⟨λ_=>Y,(Heap.Ns.new s.heap (.type "dict")).keeps (pushCells_keeps _ _),λi x v h1 h2 h3=>?_⟩,λx c h=>?_,I.hok.fresh (nR1 _),λx c h=>?_,λp hp=>absurd (show p∈([]:List (c0×Obj))from hp) (by simp),I.hok.kept kept,?_⟩
 ·rcases d x c h1 with⟨a1,a2⟩|a1<;>rcases d y c h2 with⟨b1,b2⟩|b1
  ·exact name_of_addr B.apart a2 b2
  ·exact absurd (bA (bB a1) (g y c b1)) (aq _)
  ·exact absurd (bA (bB b1) (g x c a1)) (aq _)
  ·exact I.ok.inj x y c a1 b1
 ·have F:scope.names.lookup x=some .cell\/scope.names.lookup x=some .free:=by
   rw[kindOf x]at E;cases e:scope.names.lookup x with
   |none=>rw[e]at E;rcases E with z|z<;>cases z
   |some k=>
    rw[e]at E;simp only[oP1]at E;cases k<;>simp_all
  have:((cellsFrom (s.heap.objs.size+1) scope.names w).lookup x).isSome=M:=by
   rcases F with z|z
   ·exact PySem.W.cellsFrom_some _ _ _ (.inl z)
   ·exact PySem.W.cellsFrom_some _ _ _ (.inr (ng A (.inl z)))
  exact aK.mp this
 ·have f:scope.names.lookup x=Z .cell:=by simpa[cxC]using h1
  have:=oZ f h2;exact av (aR _) this
 ·subst z;rcases d x c h with⟨a1,_⟩|a1
  ·exact absurd (bA (bB a1) (t c l)) (aq _)
  ·exact(hf c l).2.2.2.2.1 x c a1 O
 ·rcases(hf b l).2.2.2.1 with z|z
  ·exact I.ok.noex b o e z
  ·exact absurd (nL1 (hL1 e) (av I.ok.bsz z)) (aq _)
 ·-- a name of the block that has a value:one of the outer text's
  have hi:T.length<=i:=by
   refine Nat.le_of_not_lt λhi=>?_;unfold ro at h2;rw[gL1 (by rw[lR1];exact hi),aM]at h2;split at h2<;>cases h2
  unfold ro at h2;rw[gR1 (by rw[lR1];exact hi),lR1,gP1]at h2;obtain⟨j,aj,h2⟩:=oM1.mp h2;have f:X.N.getD j (Str.ofString "")=x:=by
   have f:(T++keep.map λi=>X.N.getD i (Str.ofString ""))[i]?=Z x:=h1;rw[gR1 hi,gP1,aj]at f;exact Option.some.inj f
  obtain⟨y,R,P,Q,wq⟩:=C.free j (gM1 aj);have L:y=x:=by rw[<- f,bC,R];rfl
  subst L;have ah:σ[j]?=Z (Z v):=by
   cases e:σ[j]? with
   |none=>rw[e]at h2;cases h2
   |some o=>rw[e]at h2;cases h2;rfl
  obtain⟨m,hn,hl⟩:=I.loc;obtain⟨u,V,lu⟩:=hl j y v R ah (by
   rcases Q with z|z
   ·exact .inr (.inl z)
   ·exact .inr (.inr z))
  refine⟨u,V,?_⟩;rcases lu with⟨z,_⟩|⟨_,c,ai,zc⟩
  ·rcases Q with q|q<;>(rw[z]at q;cases q)
  ·right;refine⟨?_,c,?_,zc.keeps kept⟩
   ·rw[kindOf,P];simp only[oP1];split
    ·exact .inl O
    ·exact .inr O
   ·obtain⟨c',S⟩:=aK.mp (PySem.W.cellsFrom_some scope.names (s.heap.objs.size+1) w (.inr (ng A (.inl P))):((cellsFrom (s.heap.objs.size+1) scope.names w).lookup y).isSome=M);have N:(cellsFrom (s.heap.objs.size+1) scope.names w).lookup y=Z c':=S;rcases d y c' N with⟨a1,a2⟩|a1
    ·-- an own cell of that name:its kind would be cell
     exfalso;have:∀(names:List (Str×NameKind)) (n:Nat),(y,c')∈cellsFrom n names []->(y,NameKind.cell)∈names:=by
      have app:∀(names:List (Str×NameKind)) (m:Nat) (acc:List (Str×c0)),cellsFrom m names acc=cellsFrom m names []++acc:=by
       intro names
       induction names with
       |nil=>intro m acc;rfl
       |cons p r ih=>
        obtain⟨z,q⟩:=p;intro m acc;unfold cellsFrom;split
        ·rw[ih _ ((z,m)::acc),ih _ [(z,m)],bx];rfl
        ·exact ih m acc
      intro names
      induction names with
      |nil=>intro n h;cases h
      |cons p r ih=>
       obtain⟨z,q⟩:=p;intro n h;unfold cellsFrom at h;split at h
       ·rename_i W;rw[app]at h;rcases az.mp h with h|h
        ·exact mC1 _ (ih _ h)
        ·have:(y,c')=(z,n):=by simpa using h
         cases this;have ag:q=NameKind.cell:=by simpa using W
         subst ag;exact mS1
       ·exact mC1 _ (ih _ h)
     exact wq (this _ _ a2)
    ·rw[ai]at a1;cases a1;exact N
 ·rcases d x c h with⟨a1,a2⟩|a1
  ·exact⟨_,(B.empty x c a2).1⟩
  ·obtain⟨v,z⟩:=I.cell x c a1;exact⟨v,z.keeps kept⟩
 ·rcases d x c h with⟨a1,a2⟩|a1
  ·exact I.hok.fresh (bB a1)
  ·exact I.freeC x c a1
 ·show(ro T.length keep σ).length=(T++keep.map λi=>X.N.getD i (Str.ofString "")).length;unfold ro;rw[lA1,lA1,lR1,lM1,lM1]
def sF(p:Pos)(tg:Expr)(ifs:List Expr)(it:cY)(env:Env)(emit:Sem Unit)(c:Code):Sem PySem.Fin:=do
 standAt p
 match<-pyNext it with
 |none=>pure (.done .next)
 |some v=>
  letOwnedTupleGo tg it v
  assign tg env v
  let mut ok:=M
  for c in ifs do
   if ok then ok<-isTrue c env (eval c env)
  if ok then emit
  again c
def tZ(elt:Expr)(acc:cY)(env:Env):Sem Unit:=do let _<-call (.builtin "list.append") [acc,<- eval elt env]
theorem yY(elt tg iter:Expr)(ifs:List Expr)(scope:dh)(pos:Pos)(it a:cY)(env:Env):
  compTurn (.ListComp elt [⟨tg,iter,ifs,0⟩] scope pos) 0 it a env=sF iter.pos tg ifs it env (tZ elt a env) (.compLoop (.ListComp elt [⟨tg,iter,ifs,0⟩] scope pos) 0 it a env):=by rfl
def pa(X:Cx)(ifs:List Expr)(t:TT):Prop:=
 ∀(Z8:List (c0×Obj)) (s:cZ) (σ:L2.St) (H:Hp) (Q:Bool->Hp->Prop),Inv X Z8 σ H s->t σ H Q ->
  db (model X.prog X.w) X.A (forIn ifs M λc r=>if r=M then do let ok<-isTrue c X.env (eval c X.env);pure (ForInStep.yield ok)else pure (ForInStep.yield r)) (TP X Z8 σ Q) X.xe s
theorem zI{X:Cx}:pa X [] (fun σ H Q=>Q M H):=λZ8 s σ H Q I h=>wpAny_tests_nil ⟨H,I,h⟩
theorem zG{X:Cx}{c:Expr}{t:TT}(h:PT X c t):pa X [c] t:=λZ8 s σ H Q I q=>wpAny_tests_one (h Z8 s σ H Q I q)
def PU(X:Cx)(m:Sem Unit)(t:TS):Prop:=
 ∀(Z8:List (c0×Obj)) (s:cZ) (σ:L2.St) (H:Hp) (E:jL),Inv X Z8 σ H s->t E σ H->db (model X.prog X.w) X.A m (λ_ s'=>∃ σ' H',Inv X Z8 σ' H' s'/\E.nx σ' H') X.xe s
theorem pP{X:Cx}(hx:X.xe=fun _ _=>False)(hc:X.calm=true){elt:Expr}{c:List Comprehension}{scope:dh}{pos p:Pos}{d:Nat}{tg:Expr}{ifs:List Expr}{t:cY}{emit:Sem Unit}{ag:It}{z:List c0}{it:c0}{P:Nat->de->Prop}{g:TG}{ai:TT}{tb:TS}(eq:compTurn (.ListComp elt c scope pos) d (.ref it) t X.env=sF p tg ifs (.ref it) X.env emit (.compLoop (.ListComp elt c scope pos) d (.ref it) t X.env))(T:vv X.prog X.w X.K tg ag z it P)(hg:PG X tg g)(hi:pa X ifs ai)(he:PU X emit tb){Z8:List (c0×Obj)}{s:cZ}{σ:L2.St}{H:Hp}{D:jL}(I:Inv X Z8 σ H s)(st:P 0 s.heap)(f2:∀b∈z,j5 X Z8 H b)(h:∃W:Nat->Nat->L2.St->Hp->Prop,(∃m,W 0 m σ H) /\ ∀i m σ H,W i m σ H ->
   (ag.stop i H/\D.nx σ H)\/(ag.go i H /\ ∃N:L2.St->Hp->Prop,(∀a H',N a H' -> ∃aj,aj<m/\W (i+1) aj a H') /\ ∀x H',ag.yld i H x H'->g x σ H' λA H2=>ai A H2 λb v=>if b=M then tb {D with nx:=N} A v else N A v)):
  codeAny (model X.prog X.w) X.A (.compLoop (.ListComp elt c scope pos) d (.ref it) t X.env) (λr s'=>match r with | .ok _=>∃a H',Inv X Z8 a H' s'/\D.nx a H' | .error _=>False) s:=by
 obtain⟨W,⟨m0,w0⟩,ah⟩:=h;have k:∀{H':Hp},(∀b∈z,H' b=Y) -> ∀b∈z,j5 X Z8 H' b:=λhn b l=>⟨hn b l,(f2 b l).2⟩;refine codeAny_loop O (λn s'=>∃i a H',Inv X Z8 a H' s'/\P i s'.heap/\(∀b∈z,H' b=Y)/\W i n a H') ?_ m0 ⟨0,σ,H,I,st,λb l=>(f2 b l).1,w0⟩;rintro n V ⟨i,j,v,I3,F,K,w3⟩;show db _ _ ((compTurn (.ListComp elt c scope pos) d (.ref it) t X.env).onRaise (λx=>do noteFrame x X.env;theTreesLotGoes x)) _ _ V;refine wpAny_noted ?_;rw[eq];have no:∀{α:Type} {m:Sem α} {Q:α->cZ->Prop} {s:cZ} {E:cY->cZ->Prop},db (model X.prog X.w) X.A m Q X.xe s->db (model X.prog X.w) X.A m Q E s:=λh=>by
  rw[hx]at h;exact wpAny_mono h (λ_ _ q=>q) λ_ _ q=>q.elim
 unfold sF;refine wB1 (wpAny_standAt (wB1 ?_));rcases ah i n j v w3 with⟨L,qn⟩|⟨go,N,hN,step⟩
 ·refine no (eQ (T.done X O O O hc i Z8 V j v X.xe I3 (k K) F L) λr s4 ⟨U,I4⟩=>?_);subst U;exact wP1 ⟨j,v,I4,qn⟩
 ·refine no (eQ (T.item X rfl rfl rfl hc i Z8 V j v X.xe I3 (k K) F go) fun r s4 ⟨u,U,h4⟩=>?_);subst U;refine wB1 (no (eQ h4 fun _ wq ⟨x,H5,I5,r5,y5,w,R⟩=>?_));have S:=I5.pinned (k R) (T.obj _ _ w);refine wB1 (no (eQ (hg _ wq j H5 x u _ S r5 (step x H5 y5)) fun _ s6 ⟨G,H6,I6,q6⟩=>?_));refine wB1 (no (eQ (hi _ s6 G H6 _ I6 q6) fun ok C ⟨y,B,q7⟩=>?_));have again':∀ {f:L2.St} {y:Hp} {C:cZ},Inv X (Z8++nM z wq.heap) f y C->N f y -> ∃ m,m<n /\ ∃ i a H',Inv X Z8 a H' C/\P i C.heap/\(∀ b∈z,H' b=none)/\W i m a H':=fun {f y C} B n7=>by
   obtain⟨aj,hm,w7⟩:=hN f y n7;refine⟨aj,hm,i+1,f,y,B.unpinned,T.keep _ _ _ w λb l o e=>(B.pin (b,o) (mA1 _ (mA1 _ (iT l e)))).1,λb l=>?_,w7⟩;obtain⟨o,e,d⟩:=T.obj _ _ w b l;exact(B.pin (b,o) (mA1 _ (mA1 _ (iT l e)))).2.1
  cases ok with
  |false=>exact wP1 ⟨O,again' B q7⟩
  |true=>exact wB1 (no (eQ (he _ C G y _ B q7) λ_ s8 ⟨σ8,H8,I8,q8⟩=>wP1 ⟨O,again' I8 q8⟩))
def vQ(p:c0)(te:TE):TS:=λD σ H=>te σ H λx H1=>∃xs,H1 p=Z (.lst xs)/\xs.length<da/\D.nx σ (upd H1 p (.lst (xs++[x])))
theorem v8{X:Cx}{elt:Expr}{te:TE}(h:PE X elt te)(p:c0):PU X (tZ elt (.ref p) X.env) (vQ p te):=by
 intro Z8 s σ H E I q;unfold tZ;refine wB1 (eQ (h Z8 s σ H _ I q) λu i ⟨x,H1,b,d,xs,c,f,g⟩=>?_);refine wB1 (eQ (pu Z8 i σ H1 (.ref p) [x] (.ref p) [u] (λ_ H'=>E.nx σ H') b O (.cons d .nil) ⟨p,xs,x,O,O,c,f,g⟩) λ_ j ⟨_,H2,a,_,e⟩=>?_);exact wP1 ⟨σ,H2,a,e⟩
def Eh(ag:It)(g:TG)(ti:TT)(tb:TS):TS:=λD σ H=>∃W:Nat->Nat->L2.St->Hp->Prop,(∃m,W 0 m σ H) /\ ∀i m σ H,W i m σ H ->
 (ag.stop i H/\D.nx σ H)\/(ag.go i H /\ ∃N:L2.St->Hp->Prop,(∀ σ' H',N σ' H' -> ∃m',m'<m/\W (i+1) m' σ' H') /\ ∀x H',ag.yld i H x H'->g x σ H' fun σ2 H2=>ti σ2 H2 λb H3=>if b=M then tb {D with nx:=N} σ2 H3 else N σ2 H3)
theorem Un.sameBut{fs ex:List c0}{H H':Hp}{h h1 h2:de}{c:c0}(u:Un fs ex H H' h h1)(hs:Heap.SameBut c h1 h2)(hc:h.get? c=Y):Un fs ex H H' h h2:=by
 have ne:∀{b o},h.get? b=Z o->b≠c:=λe z=>by rw[z,hc]at e;cases e
 refine⟨λb o e n d a=>(hs.2 b (ne e)).trans (u.keep b o e n d a),λb o e n d a=>?_,u.free,λb o e a=>?_,u.tups,u.frzs,u.tbls⟩
 ·obtain⟨f,q⟩:=u.slot b o e n d a;exact⟨f,(hs.2 b (ne e)).trans q⟩
 ·obtain⟨o',q⟩:=u.there b o e a;exact⟨o',(hs.2 b (ne e)).trans q⟩
def ze(k:Nat)(keep:List Nat)(wi:TI)(g:TG)(ti:TT)(tb:c0->TS):TE:=fun σ H Q=>wi σ H λag H1=>∀p,H1 p=Y ->
 Eh ag g ti (tb p) {nx:=λ_ H'=>Q (.ref p) H',rt:=λ_ _=>False} (ro k keep σ) (upd H1 p (.lst []))
theorem CG{X:Cx}(hc:X.calm=true){elt tg iter:Expr}{ifs:List Expr}{rest:List Comprehension}{scope:dh}{pos:Pos}{T:List Str}{keep:List Nat}{k:List (Str×c0)}{L:TI}{g:TG}{F:TT}{tb:c0->TS}{emit:cY->Env->Sem Unit}(eq:∀it l i,compTurn (.ListComp elt (⟨tg,iter,ifs,0⟩::rest) scope pos) 0 it l i=sF iter.pos tg ifs it i (emit l i) (.compLoop (.ListComp elt (⟨tg,iter,ifs,0⟩::rest) scope pos) 0 it l i))(C:J7 X scope T keep)(u:j4 X.env.cells scope.names []=some k)(hi:PI X tg iter L)(hb:∀s H d p,PG (cxC X scope k T keep s H d) tg g/\pa (cxC X scope k T keep s H d) ifs F/\PU (cxC X scope k T keep s H d) (emit (.ref p) (cxC X scope k T keep s H d).env) (tb p))(hs:∀x,foldedSetIterable iter X.env x=pure x:=by intro _;rfl):
  PE X (.ListComp elt (⟨tg,iter,ifs,0⟩::rest) scope pos) (ze T.length keep L g F tb):=by
 intro Z8 s σ H Q I h;rw[eval_ListComp];refine wpAny_comprehension_free (use:=Y) O hs (Bj u) C.kind C.names ?_;refine eQ (hi Z8 s σ H _ I h) λv s1 h1=>eQ h1 λP a h2=>?_;obtain⟨it,d,tn,ag,H2,rfl,E,TT,w,G,V⟩:=h2;refine wO1 ?_;have K:Inv X Z8 σ (upd H2 a.heap.objs.size (.lst [])) {a with heap:=a.heap.push {cls:=.type "list",data:=.seq ([]:List cY).toArray}}:=E.lnew (t':=a.toks) .nil (a0 _);have old:∀b∈d,∃o,a.heap.get? b=Z o:=λb hb=>by
  obtain⟨o,e,_⟩:=TT.obj 0 a.heap w b hb;exact⟨o,e⟩
 have D:∀b∈d,b≠a.heap.objs.size:=λb hb z=>by
  obtain⟨o,e⟩:=old b hb;have:=hL1 e;rw[z]at this;exact aq _ this
 have B:∀b∈d,j5 X Z8 (upd H2 a.heap.objs.size (.lst [])) b:=λb hb=>⟨by rw[dM (D b hb)];exact(G b hb).1,(G b hb).2⟩;have W:∀b∈d,∃o,({a with heap:=a.heap.push {cls:=.type "list",data:=.seq ([]:List cY).toArray}}:cZ).heap.get? b=Z o:=λb hb=>by
  obtain⟨o,e⟩:=old b hb;exact⟨o,hP1 _ e⟩
 have A:=tO K C u B W;obtain⟨hg,U,ai⟩:=hb {a with heap:=a.heap.push {cls:=.type "list",data:=.seq ([]:List cY).toArray}} (upd H2 a.heap.objs.size (.lst [])) d a.heap.objs.size;refine kb ?_;have aj:∀b∈d,j5 (cxC X scope k T keep {a with heap:=a.heap.push {cls:=.type "list",data:=.seq ([]:List cY).toArray}} (upd H2 a.heap.objs.size (.lst [])) d) [] (upd H2 a.heap.objs.size (.lst [])) b:=λb hb=>
  ⟨(B b hb).1,(A.ok.exf b hb).1,A.ok.exfs b hb,.inl hb,(A.ok.exf b hb).2,λp hp=>absurd (show p∈([]:List (c0×Obj))from hp) (by simp)⟩
 have t:tn 0 (pushCells ((a.heap.push {cls:=.type "list",data:=.seq ([]:List cY).toArray}).push {cls:=.type "dict",data:=.dict #[]}) scope.names):=
  TT.keep 0 a.heap _ w λb hb o e=>pushCells_keeps scope.names _ b o (hP1 _ (hP1 _ e))
 have j:=pP (X:=cxC X scope k T keep {a with heap:=a.heap.push {cls:=.type "list",data:=.seq ([]:List cY).toArray}} (upd H2 a.heap.objs.size (.lst [])) d) O hc (eq (.ref it) (.ref a.heap.objs.size) _) TT hg U ai A t aj
  (V a.heap.objs.size (E.hok.fresh (nR1 _)))
 refine codeAny_mono (codeAny_compStart_list j (TT.self X.A 0 _ _ _ t j)) λr s' N=>?_;cases r with
 |error e=>exact N.elim
 |ok f=>
  obtain⟨wq,H',n,q'⟩:=N;obtain⟨m,R,_⟩:=id n.loc;refine⟨m,R,λh' y=>⟨.ref a.heap.objs.size,H',?_,O,q'⟩⟩;refine K.call' (s':={s' with heap:=h'}) (ch:=d) n.os (Un.sameBut n.base y (Heap.get?_none_of_le (nR1 _))) (λb S e=>?_) n.bare λb hb=>(B b hb).2.2.2 |> λz=>⟨z.1,(B b hb).2.1,z.2.1,z.2.2⟩
  refine(n.hok b S e).stay (λc w' hc q=>(y.2 c ?_).trans q) (λ_ q=>q) λ_ _ q=>q;rintro rfl;have ah:=n.free;rcases hc with rfl|hc
  ·exact nomatch ah.symm.trans e
  ·exact nomatch ah.symm.trans hc
section
variable{K:Fg1}{H:Hp}{mu:List c0}{S:Sto}{p:c0}{u:HO}{o:Ob}{n:Nat}
theorem Rd.ne{a:c0}{x:HO}(h:H p=Y)(q:Rd H a x):a≠p:=by
 rintro rfl;rcases q with q|⟨_,q⟩<;>(rw[h]at q;cases q)
theorem Ext.fresh(hp:H p=Y):Ext mu mu H (upd H p u) where
 pre:=bf
 old:=λa o h _=>by rw[dM (dZ h hp)];exact h
 tup:=λa xs h=>by
  have ne:=Rd.ne hp h;rcases h with h|⟨b,h⟩
  ·exact .inl (by rw[dM ne];exact h)
  ·exact .inr ⟨b,by rw[dM ne];exact h⟩
 frz:=λa o x h=>by rw[dM (dZ h hp)];exact h
 new:=λ_ h=>.inl h
theorem Ext.new_(hp:H p=Y):Ext mu (mu++[p]) H (upd H p u) where
 pre:=bn _ _
 old:=(Ext.fresh (mu:=mu) hp).old
 tup:=(Ext.fresh (mu:=mu) hp).tup
 frz:=(Ext.fresh (mu:=mu) hp).frz
 new:=λa h=>by
  rcases az.mp h with h|h
  ·exact .inl h
  ·have:a=p:=by simpa using h
   subst this;exact .inr hp
theorem Sim.fresh(s:Sim K H mu S)(hp:H p=Y):Sim K (upd H p u) mu S:=
 ⟨s.len,s.nd,λk o a h1 h2=>(s.ob k o a h1 h2).keep (Ext.fresh hp) λb e=>by rw[dM (dZ e hp)];exact e⟩
theorem Sim.notin(s:Sim K H mu S)(hp:H p=Y):p∉mu:=λh=>by
 obtain⟨o,e⟩:=s.here h;rw[hp]at e;cases e
theorem oN.more{a:c0}{mu':List c0}{H':Hp}(e:Ext mu mu' H H')(h:∀o,H a=Z o->H' a=Z o):∀{o:Ob},oN K H mu a o->oN K H' mu' a o
 | .lst _,⟨vs,q,r⟩=>⟨vs,h _ q,r.ext e⟩
 | .dct _,⟨ws,q,r⟩=>⟨ws,h _ q,KR.ext e r⟩
 | .dcT _,⟨ws,q,r,l⟩=>⟨ws,h _ q,KT.ext e r,l⟩
 | .iset _,q=>⟨h _ q.1,q.2⟩
 | .dcF _,⟨ws,⟨o,u,c,b⟩,r,l⟩=>⟨ws,⟨o,u,h _ c,b⟩,KT.ext e r,l⟩
 | .tst _,⟨ws,q,r⟩=>⟨ws,h _ q,KT.ext e r⟩
theorem Sim.new(s:Sim K H mu S)(hp:H p=Y)(ho:oN K (upd H p u) (mu++[p]) p o):Sim K (upd H p u) (mu++[p]) (S++[o]):=by
 refine⟨by rw[lA1,lA1,s.len];rfl,?_,λk o' a h1 h2=>?_⟩
 ·rw[bp];refine⟨s.nd,by simp,λa f b g e=>?_⟩;have:b=p:=by simpa using g
  subst this;subst e;exact s.notin hp f
 ·by_cases d:k<S.length
  ·rw[gL1 d]at h1;rw[gL1 (by rw[s.len];exact d)]at h2;exact(s.ob k o' a h1 h2).more (Ext.new_ hp) λh e=>by rw[dM (dZ e hp)];exact e
  ·have c:k=S.length:=by
    have:=(gE1.mp h1).1;rw[lA1]at this;simp at this;lia
   subst c;rw[gR1 (nR1 _)]at h1;rw[<- s.len,gR1 (nR1 _)]at h2;simp at h1 h2;subst h1;subst h2;exact ho
theorem Ext.put{x:HO}(hp:H p=Z x)(hm:HH (Z x))(b:p∈mu):Ext mu mu H (upd H p u) where
 pre:=bf
 old:=λa o h n=>by rw[dM (λe=>n (by rw[e];exact b))];exact h
 tup:=λa xs h=>by
  have ne:a≠p:=by
   rintro rfl;rcases h with h|⟨_,h⟩<;>(rw[hp]at h;cases h;exact hm)
  rcases h with h|⟨c,h⟩
  ·exact .inl (by rw[dM ne];exact h)
  ·exact .inr ⟨c,by rw[dM ne];exact h⟩
 frz:=λa o y h=>by
  rw[dM (λe=>?_)]
  ·exact h
  ·subst e;rw[hp]at h;cases h;exact hm
 new:=λ_ h=>.inl h
theorem Sim.put(s:Sim K H mu S){x:HO}(hn:mu[n]?=Z p)(hp:H p=Z x)(hm:HH (Z x))(ho:oN K (upd H p u) mu p o):Sim K (upd H p u) mu (S.set n o):=by
 refine⟨by rw[aQ];exact s.len,s.nd,λk o' a h1 h2=>?_⟩;by_cases b:n=k
 ·subst b;have f:n<S.length:=by
   have:=(gE1.mp h1).1
   rwa [aQ]at this
  rw[aB f]at h1;cases h1;rw[hn]at h2;cases h2;exact ho
 ·rw [gS1 b] at h1;have ne:a≠p:=fun e=>by
   subst e;obtain⟨i,c⟩:=gE1.mp hn;obtain⟨g,d⟩:=gE1.mp h2;exact b ((List.getElem_inj s.nd).mp (c.trans d.symm))
  exact(s.ob k o' a h1 h2).keep (Ext.put hp hm (gM1 hn)) λh e=>by rw[dM ne];exact e
theorem Sim.lst(s:Sim K H mu S){ds:List D}{a:c0}(h:S[n]?=Z (.lst ds))(hn:mu[n]?=Z a):∃vs,H a=Z (.lst vs)/\dD K H mu ds vs:=s.ob n _ a h hn
theorem Sim.dcT(s:Sim K H mu S){ks:List (TK×D)}{a:c0}(h:S[n]?=Z (.dcT ks))(hn:mu[n]?=Z a):∃ws,H a=Z (.ext (jM a ws))/\KT K H mu ks ws/\ws.length<=da:=s.ob n _ a h hn
theorem Sim.iset(s:Sim K H mu S){xs:List Int}{a:c0}(h:S[n]?=Z (.iset xs))(hn:mu[n]?=Z a):H a=Z (.set (λk=>xs.contains k) xs.length)/\xs.Nodup:=s.ob n _ a h hn
theorem Sim.dct(s:Sim K H mu S){ks:List (Key×D)}{a:c0}(h:S[n]?=Z (.dct ks))(hn:mu[n]?=Z a):∃ws,H a=Z (.dK ws)/\KR K H mu ks ws:=s.ob n _ a h hn
theorem Sim.newL(s:Sim K H mu S){ds:List D}{vs:List V}(r:dD K H mu ds vs)(hp:H p=Y):Sim K (upd H p (.lst vs)) (mu++[p]) (S++[.lst ds]):=s.new hp ⟨vs,dQ,r.ext (Ext.new_ hp)⟩
theorem Sim.putL(s:Sim K H mu S){ds:List D}{vs ws:List V}(r:dD K H mu ds vs)(hn:mu[n]?=Z p)(hp:H p=Z (.lst ws)):Sim K (upd H p (.lst vs)) mu (S.set n (.lst ds)):=
 s.put hn hp trivial ⟨vs,dQ,r.ext (Ext.put hp trivial (gM1 hn))⟩
end
theorem gm{mu:List c0}{S:Sto}(h:mu.length=S.length)(p:c0):(mu++[p])[S.length]?=Z p:=by
 rw[<- h,gR1 (nR1 _)];simp
def dJ(a:FA):FE:=λr S=>(a r S).bind λp=>if p.1.length<=da then Z (.tup p.1,p.2)else Y
def eG(a:FA):FE:=λr S=>(a r S).bind λp=>if p.1.length<=da then Z (.ref p.2.length,p.2++[.lst p.1])else Y
section
variable{X:Cx}{es:List Expr}{pos:Pos}{a:FA}
theorem Gy{x1}(h:MA X es a):ME X (.Tuple es x1 pos) (dJ a):=eg (FP h) <| by
 rintro σ H Q ⟨r,mu,S,d,l,i,k,b,hc⟩;obtain⟨⟨ds,m⟩,f,b⟩:=oB1.mp b;dsimp only at b;split at b
 ·rename_i g;cases b;refine⟨r,mu,S,ds,_,i,k,f,λvs H1 mu1 x1 e j=>⟨by rw[<- e.length];exact g,λp c=>?_⟩⟩;exact hc _ _ mu1 (x1.trans (Ext.fresh c)) (.tup (jJ.of dQ) (e.ext (Ext.fresh c))) (j.fresh c)
 ·cases b
theorem GE(h:MA X es a):ME X (.List es pos) (eG a):=eg (FY h) <| by
 rintro σ H Q ⟨r,mu,S,d,m,k,l,b,hc⟩;obtain⟨⟨ds,n⟩,i,b⟩:=oB1.mp b;dsimp only at b;split at b
 ·rename_i j;cases b;refine⟨r,mu,S,ds,_,k,l,i,λvs H1 mu1 g c f=>⟨by rw[<- c.length];exact j,λp e=>?_⟩⟩;exact hc _ _ (mu1++[p]) (g.trans (Ext.new_ e)) (.ref (gm f.len p)) (f.newL c e)
 ·cases b
end
def lZ(k:Nat)(keep:List Nat)(r:Ev):Ev:=aJ k Y++keep.map λi=>(r[i]?).join
def fj:FT:=λ_ S=>Z (M,S)
theorem Jr{K:Fg1}{H:Hp}{mu:List c0}{r:Ev}{σ:L2.St}(k:Nat)(keep:List Nat)(h:fC K H mu r σ):fC K H mu (lZ k keep r) (ro k keep σ):=by
 refine⟨by unfold lZ ro;rw[lA1,lA1,lM1,lM1,lR1,lR1],λi d e=>?_⟩;unfold lZ at e;unfold ro;by_cases hi:i<k
 ·rw[gL1 (by rw[lR1];exact hi),aM]at e;split at e<;>cases e
 ·rw [gR1 (by rw [lR1];lia),lR1,gP1] at e;rw [gR1 (by rw [lR1];lia),lR1,gP1];obtain ⟨j,c,e⟩:=oM1.mp e;rw [c];have a:r[j]? = some (some d):=by
   cases q:r[j]? with
   |none=>rw[q]at e;cases e
   |some o=>rw[q]at e;cases e;rfl
  obtain⟨v,b,f⟩:=h.val j d a;exact⟨v,by rw[oP1,b];rfl,f⟩
section
variable{X:Cx}
theorem zJ{ifs:List Expr}{t t':L2.TT}(h:pa X ifs t)(i:∀ σ H Q,t' σ H Q->t σ H Q):pa X ifs t':=λZ8 s σ H Q I q=>h Z8 s σ H Q I (i σ H Q q)
theorem C4:pa X [] (B3 X.K fj):=zJ zI fun σ H Q ⟨r,mu,S,b,d,e,c,a,hc⟩=>by cases a;exact hc H mu (.refl _ _) c
theorem C3{c:Expr}{t:FT}(h:MT X c t):pa X [c] (B3 X.K t):=zG h
end
open PySem.AutoSeq1 (wpAny_loadPart')
def SIt(b:Bool)(h:de)(it a:c0)(i:Nat):Prop:=match b with
 |true=>h.IsListIter it a i
 |false=>h.IsTupleIter it a i
def SCo(b:Bool)(h:de)(a:c0)(xs:Array cY):Prop:=match b with
 |true=>h.IsList a xs
 |false=>h.IsTuple a xs
theorem SIt.to{b:Bool}{h h':de}{it a:c0}{i:Nat}(x:SIt b h it a i)(k:∀o,h.get? it=Z o->h'.get? it=Z o):SIt b h' it a i:=by
 cases b<;>(obtain⟨o,e,r⟩:=x;exact⟨o,k o e,r⟩)
theorem SIt.rec_{b:Bool}{h:de}{it a:c0}{i:Nat}(x:SIt b h it a i):∃o,h.get? it=Z o /\ ∀v,o.data ≠ .cell v:=by
 cases b<;>(obtain⟨o,e,c,d⟩:=x;exact⟨o,e,λv z=>by rw[d]at z;cases z⟩)
theorem SCo.to{b:Bool}{h h':de}{a:c0}{xs:Array cY}(x:SCo b h a xs)(k:∀o,h.get? a=Z o->h'.get? a=Z o):SCo b h' a xs:=by
 cases b<;>(obtain⟨o,e,r⟩:=x;exact⟨o,k o e,r⟩)
def fz(b:Bool)(a:c0):Obj:=match b with
 |true=>{cls:=.type "list_iterator",data:=.fields #[.ref a,.int 0 0]}
 |false=>{cls:=.type "tuple_iterator",data:=.fields #[.ref a,.int 0 0]}
section
variable{prog:c5}{w:c7}{A:c6}{E:cY->cZ->Prop}{s:cZ}
theorem qk{b:Bool}{h:de}{it a:c0}(e:h.get? it=Z (fz b a)):SIt b h it a 0:=by
 cases b<;>exact⟨_,e,O,O⟩
theorem iz{b:Bool}{a:c0}{xs:Array cY}{Q:cY->cZ->Prop}(x:SCo b s.heap a xs)(h:Q (.ref s.heap.objs.size) {s with heap:=s.heap.push (fz b a)}):db (model prog w) A (pyIter (.ref a)) Q E s:=by
 cases b
 ·exact wpAny_pyIter_tuple x h
 ·exact wpAny_pyIter_list x h
theorem Ae{it l:c0}{i:Nat}{xs:Array cY}{x:cY}{Q:cY->cZ->Prop}(d:s.heap.IsTupleIter it l i)(tl:s.heap.IsTuple l xs)(hx:xs[i]? = Z x)(f:∀h',h'.IsTupleIter it l (i+1)->Heap.SameBut it s.heap h'->Q x {s with heap:=h'}):db (model prog w) A (Builtin.SmallTypes.nextOf (.ref it)) Q E s:=by
 obtain⟨o,b,hc,a⟩:=id d;obtain⟨h,e,_,g,c⟩:=tl;unfold Builtin.SmallTypes.nextOf;refine wB1 (wpAny_callSpecial?_slot (name:=Str.ofString "__next__") d.typeIs F.slot_tuple_iterator_next (wE1 F.slot_tuple_iterator_next d.typeIs F.entry_tuple_iterator_next ?_ (F.args_tuple_iterator_next_1 _)));show db _ _ (field (.ref it) 0 >>= _) _ _ s;refine wB1 (wpAny_field b a (x:=.ref l) O ?_);show db _ _ (if(Value.ref l == Value.none)=M then _ else _) _ _ s;rw[ab (show¬ ((Value.ref l == Value.none)=M)from aD)];show db _ _ (field (.ref it) 1 >>= _) _ _ s;refine wB1 (wpAny_field b a (x:=.int i 0) O ?_);show db _ _ (seqItems? (.ref l) >>= _) _ _ s;refine wB1 (wpAny_seqItems e c ?_);simp only[Int.toNat_natCast,hx];refine wB1 (wpAny_setField b a (by simp) (wP1 ⟨x,O,wP1 (f _ ⟨_,hW1 _ b (Obj.isFreed_of_fields (Obj.data_mapFields a _)),(Obj.cls_mapFields ..).trans hc,by rw[Obj.data_mapFields a];simp[rawInt]⟩ (Heap.SameBut.update ..))⟩))
theorem qT {it l:c0}{i:Nat}{xs:Array cY}{Q:cY->cZ->Prop}(h:A.handled=none)(f:s.heap.IsTupleIter it l i)(tl:s.heap.IsTuple l xs)(hx:xs[i]? = none)
  (j:∀h' e,Heap.ExtBut it s.heap h'->(∃o,h'.get? e=Z o/\o.cls = .type "StopIteration")->E (.ref e) {s with heap:=h'}):db (model prog w) A (Builtin.SmallTypes.nextOf (.ref it)) Q E s:=by
 obtain⟨o,c,hc,b⟩:=id f;obtain⟨n,g,_,k,d⟩:=tl;unfold Builtin.SmallTypes.nextOf;refine wB1 (wpAny_callSpecial?_slot (name:=Str.ofString "__next__") f.typeIs F.slot_tuple_iterator_next (wE1 F.slot_tuple_iterator_next f.typeIs F.entry_tuple_iterator_next ?_ (F.args_tuple_iterator_next_1 _)));show db _ _ (field (.ref it) 0 >>= _) _ _ s;refine wB1 (wpAny_field c b (x:=.ref l) O ?_);show db _ _ (if(Value.ref l == Value.none)=M then _ else _) _ _ s;rw[ab (show¬ ((Value.ref l == Value.none)=M)from aD)];show db _ _ (field (.ref it) 1 >>= _) _ _ s;refine wB1 (wpAny_field c b (x:=.int i 0) O ?_);show db _ _ (seqItems? (.ref l) >>= _) _ _ s;refine wB1 (wpAny_seqItems g d ?_);simp only[Int.toNat_natCast,hx];refine wB1 (wpAny_rule (wB1 (wpAny_setField c b (by simp) ?_)));show db _ _ (newExc (.type "StopIteration") [] >>= _) _ _ _;refine wB1 ?_;simp only[newExc,newTuple];refine wB1 (wO1 ?_ (by size_fits));refine wB1 (m:=firstArgMember _ _) (wpAny_of_eq (a:=Value.none) (by first|rfl|(simp only[firstArgMember];rfl)) ?_);refine wO1 ?_ (by size_fits);simp only[raiseNew];refine wB1 (wpAny_handled ?_)
 first|rw[show A.in1.handled=Y from h] | rw[h]
 refine wB1 (wP1 (wpAny_throw ?_));exact j _ _ (((Heap.SameBut.update ..).extBut.push _).push _) ⟨_,hS1 _ O,O⟩
theorem lc{b:Bool}{it l:c0}{i:Nat}{xs:Array cY}{x:cY}{Q:cY->cZ->Prop}(a:SIt b s.heap it l i)(tl:SCo b s.heap l xs)(hx:xs[i]? = Z x)(c:∀h',SIt b h' it l (i+1)->Heap.SameBut it s.heap h'->Q x {s with heap:=h'}):db (model prog w) A (Builtin.SmallTypes.nextOf (.ref it)) Q E s:=by
 cases b
 ·exact Ae a tl hx c
 ·exact wpAny_nextOf_list_item a tl hx c
theorem iS {b:Bool}{it l:c0}{i:Nat}{xs:Array cY}{Q:cY->cZ->Prop}(a:A.handled=none)(c:SIt b s.heap it l i)(tl:SCo b s.heap l xs)(hx:xs[i]? = none)
  (d:∀h' e,Heap.ExtBut it s.heap h'->(∃o,h'.get? e=Z o/\o.cls = .type "StopIteration")->E (.ref e) {s with heap:=h'}):db (model prog w) A (Builtin.SmallTypes.nextOf (.ref it)) Q E s:=by
 cases b
 ·exact qT a c tl hx d
 ·exact wpAny_nextOf_list_end a c tl hx d
theorem A5{b:Bool}(l:c0)(xs:Array cY):
  Meets (Builtin.«enumerate.__new__» ⟨[.type "enumerate",.ref l],[]⟩) (λ_ R s=>SCo b s.heap l xs /\
   R (.ok (.ret (.ref (s.heap.push (fz b l)).objs.size))) {s with heap:=(s.heap.push (fz b l)).push {cls:=.type "enumerate",data:=.fields #[.none,.bool J,.ref s.heap.objs.size,rawInt 0,.none,.none]}}):=
 .of_wp λprog w A R s h=>by
  obtain⟨j,g,d,tk,k⟩:=s;obtain⟨f,h⟩:=h;have i:=sub_enumerate
  have a:SCo b (Shared.heap ⟨j,g,d,tk,k⟩) l xs:=f;obtain⟨m,el⟩:∃o,j.get? l=some o:=by cases b<;>(obtain⟨o,e,_⟩:=f;exact⟨o,e⟩)
  wp_walk using wpAny_loadPart' el
  refine wpAny_stack_any λst=>wP1 ?_;split
  ·rename_i c _ _ _ _ _;cases(c == Value.type "enumerate")<;>(wp_walk using wpAny_loadPart' el,iz a;exact⟨_,O,h⟩)
  ·wp_walk using wpAny_loadPart' el,iz a
   exact⟨_,O,h⟩
theorem yb{b:Bool}{l:c0}{xs:Array cY}{Q:cY->cZ->Prop}(f:SCo b s.heap l xs)(h:∀h',IsEnum h' (s.heap.objs.size+1) s.heap.objs.size 0 .none->SIt b h' s.heap.objs.size l 0->h'.objs.size=s.heap.objs.size+2->(∀b o,s.heap.get? b=some o->h'.get? b=some o)->Q (.ref (s.heap.objs.size+1)) {s with heap:=h'}):
  db (model prog w) A (call (.type "enumerate") [.ref l]) Q E s:=by
 refine callType_new F.called_enumerate (by decide) (F.typeCall_enumerate_1 _) (F.newCall_enumerate_1 _) (λd=>F.args_object_init_2 d _) F.entry_enumerate_new (A5 (b:=b) l xs) ⟨f,?_⟩;have a:(s.heap.push (fz b l)).objs.size=s.heap.objs.size+1:=hZ1 ..
 show _/\_;rw[a];have e:IsEnum ((s.heap.push (fz b l)).push {cls:=.type "enumerate",data:=.fields #[.none,.bool J,.ref s.heap.objs.size,rawInt 0,.none,.none]}) (s.heap.objs.size+1) s.heap.objs.size 0 .none:=by
  have q:=hS1 (s.heap.push (fz b l)) (o:={cls:=.type "enumerate",data:=.fields #[.none,.bool J,.ref s.heap.objs.size,rawInt 0,.none,.none]}) O;rw[a]at q;exact q
 have hi:(s.heap.push (fz b l)).get? s.heap.objs.size=Z (fz b l):=hS1 _ (by cases b<;>rfl);refine⟨⟨_,e,O⟩,h _ e (qk (hP1 _ hi)) (by rw[hZ1,a]) λc o x=>hP1 _ (hP1 _ x)⟩
theorem ya {b:Bool}{e it l:c0}{i:Nat}{xs:Array cY}{x old:cY}{Q:Option cY->cZ->Prop}(he:IsEnum s.heap e it i old)(T:SIt b s.heap it l i)(tl:SCo b s.heap l xs)(hx:xs[i]? = some x)(k:e≠it)
  (U:∀h',IsEnumOut h' e it ((i:Int)+1) x s.heap.objs.size->SIt b h' it l (i+1)->h'.get? s.heap.objs.size=Z {cls:=.type "tuple",data:=.seq #[.int i s.toks,x]}->h'.objs.size=s.heap.objs.size+1 ->
   (∀b o,b≠e->b≠it->s.heap.get? b=Z o->h'.get? b=Z o)->Q (Z (.ref s.heap.objs.size)) {s with heap:=h',toks:=s.toks+1}):db (model prog w) A (pyNext (.ref e)) Q E s:=by
 have S:s.TypeIs (.ref e) "enumerate":=⟨_,he,O⟩;unfold pyNext;refine wB1 (wpAny_attempt (wpAny_callSpecial?_slot (name:=Str.ofString "__next__") S F.slot_enumerate_next (wE1 F.slot_enumerate_next S F.entry_enumerate_next ?_ (F.args_enumerate_next_1 _))));obtain⟨n,g,d,tk,t⟩:=s;show db _ _ (field (.ref e) 2 >>= _) _ _ _;refine wB1 (wpAny_field he O (x:=.ref it) O ?_);refine wB1 (lc T tl hx λh1 H C=>?_);replace C:Heap.SameBut it n h1:=C;have p:IsEnum h1 e it i old:=(C.2 e k).trans he;show db _ _ (field (.ref e) 3 >>= _) _ _ ⟨h1,g,d,tk,t⟩;refine wB1 (wpAny_field p O (x:=rawInt i) O ?_);show db _ _ (field (.ref e) 4 >>= _) _ _ ⟨h1,g,d,tk,t⟩;refine wB1 (wpAny_field p O (x:=.none) O ?_);show db _ _ (mkInt i >>= _) _ _ ⟨h1,g,d,tk,t⟩;refine wB1 (wpAny_mkInt ?_);show db _ _ (setField (.ref e) 3 (rawInt ((i:Int)+1)) >>= _) _ _ ⟨h1,g,d,tk+1,t⟩;refine wB1 (wS1 p (by simp) λh2 m D=>?_);replace D:Heap.SameBut e h1 h2:=D;replace m:IsEnum h2 e it ((i:Int)+1) old:=m;show db _ _ (setField (.ref e) 4 .none >>= _) _ _ ⟨h2,g,d,tk+1,t⟩;refine wB1 (wS1 m (by simp) λh3 j G=>?_);replace G:Heap.SameBut e h2 h3:=G;replace j:IsEnum h3 e it ((i:Int)+1) old:=j;show db _ _ (newTuple [.int i tk,x] >>= _) _ _ ⟨h3,g,d,tk+1,t⟩;refine wB1 (wpAny_newTuple ?_);have r:IsEnum (h3.push {cls:=.type "tuple",data:=.seq #[.int i tk,x]}) e it ((i:Int)+1) old:=hP1 _ j;generalize a:h3.push {cls:=.type "tuple",data:=.seq #[.int i tk,x]}=h4 at r;have h:h3.objs.size=n.objs.size:=by rw[G.1,D.1,C.1]
 have P:e<n.objs.size:=hL1 he;have aj:h4.get? n.objs.size=Z {cls:=.type "tuple",data:=.seq #[.int i tk,x]}:=by rw[<- a,<- h];exact hS1 _ O
 have R:h4.objs.size=n.objs.size+1:=by rw[<- a,hZ1,h]
 have N:∀b o,b≠e->b≠it->n.get? b=Z o->h4.get? b=Z o:=λb o f y ah=>by
  rw[<- a];exact hP1 _ (G.extBut b o f (D.extBut b o f (C.extBut b o y ah)))
 have L:SIt b h4 it l (i+1):=H.to λo q=>by rw[<- a];exact hP1 _ (G.extBut _ _ (Ne.symm k) (D.extBut _ _ (Ne.symm k) q))
 show db _ _ (Builtin.SmallTypes.ownedTupleIsFree (.ref e) >>= _) _ _ ⟨h4,g,d,tk+1,t⟩;rw[h];clear a j G m D p C H h h3 h2 h1;refine wB1 ?_;unfold Builtin.SmallTypes.ownedTupleIsFree;refine wB1 (wpAny_field r O (x:=.none) O (wP1 ?_));simp only[if_true];refine wB1 (wpAny_rule ?_);refine wB1 (wpAny_field r O (x:=old) O ?_);refine wB1 (wS1 r (by simp) λh5 v I=>?_);replace I:Heap.SameBut e h4 h5:=I;replace v:IsEnum h5 e it ((i:Int)+1) x:=v;show db _ _ (Builtin.SmallTypes.ownedTupleHandOut (.ref e) (.ref n.objs.size) >>= _) _ _ ⟨h5,g,d,tk+1,t⟩;refine wB1 ?_;unfold Builtin.SmallTypes.ownedTupleHandOut;refine wB1 (wS1 v (by simp) λh6 B K=>?_);replace K:Heap.SameBut e h5 h6:=K;replace B:IsEnumOut h6 e it ((i:Int)+1) x n.objs.size:=B;refine wS1 B (by simp) λh7 u ag=>?_;replace ag:Heap.SameBut e h6 h7:=ag;replace u:IsEnumOut h7 e it ((i:Int)+1) x n.objs.size:=u;have up:∀c o,c≠e->h4.get? c=Z o->h7.get? c=Z o:=λc o z q=>ag.extBut _ _ z (K.extBut _ _ z (I.extBut _ _ z q));refine wB1 (wpAny_letGo (wP1 ⟨_,O,wP1 (U h7 u (L.to λo q=>up _ o (Ne.symm k) q) (up _ _ (nG1 P) aj) (by rw[ag.1,K.1,I.1,R]) λc o f y ah=>up c o f (N c o f y ah))⟩))
theorem A6{b:Bool}{e it l:c0}{i:Nat}{xs:Array cY}{old:cY}{Q:Option cY->cZ->Prop}(g:A.handled=Y)(he:IsEnum s.heap e it i old)(h:SIt b s.heap it l i)(tl:SCo b s.heap l xs)(hx:xs[i]? = Y)(j:∀h',Heap.ExtBut it s.heap h'->Q Y {s with heap:=h'}):db (model prog w) A (pyNext (.ref e)) Q E s:=by
 have d:s.TypeIs (.ref e) "enumerate":=⟨_,he,O⟩;unfold pyNext;refine wB1 (wpAny_attempt (wpAny_callSpecial?_slot (name:=Str.ofString "__next__") d F.slot_enumerate_next (wE1 F.slot_enumerate_next d F.entry_enumerate_next ?_ (F.args_enumerate_next_1 _))));show db _ _ (field (.ref e) 2 >>= _) _ _ _;refine wB1 (wpAny_field he O (x:=.ref it) O ?_);refine wB1 (iS g h tl hx λh' x a c=>?_);obtain⟨o,f,hc⟩:=c;refine wB1 (wpAny_isInstance (T:="StopIteration") (b:=M) ⟨o,f,hc⟩ isSubtype_stop ?_);exact wP1 (j _ a)
theorem pM{e it:c0}{i:Int}{old:cY}{Q:cY->cZ->Prop}(he:IsEnum s.heap e it i old)(h:Q (.ref e) s):db (model prog w) A (pyIter (.ref e)) Q E s:=by
 have a:s.TypeIs (.ref e) "enumerate":=⟨_,he,O⟩;refine wpAny_pyIter_slot a F.slot_enumerate_iter (wE1 F.slot_enumerate_iter a F.entry_enumerate_iter ?_ (F.args_enumerate_iter_1 _));show db _ _ (ret (.ref e)) _ _ s;exact wP1 ⟨_,O,"enumerate",_,a,F.slot_enumerate_next.lookup,h⟩
end
open PySem.AutoSeq1 (wpAny_loadPart')
structure Lh (z ti to i1 i2:c0):Prop where
 a1:ti≠z
 a2:to≠z
 a3:i1≠z
 a4:i2≠z
 a5:ti≠to
 a6:ti≠i1
 a7:ti≠i2
 a8:to≠i1
 a9:to≠i2
 a10:i1≠i2
section
variable{prog:c5}{w:c7}{A:c6}{E:cY->cZ->Prop}{s:cZ}{b1 b2:Bool}
theorem SCo.ne{b:Bool}{h:de}{a c:c0}{xs:Array cY}{o:Obj}(x:SCo b h a xs)(e:h.get? c=Z o)(n:∀ys k,o.data ≠ .seq ys k):a≠c:=by
 rintro rfl;cases b<;>(obtain⟨o',f,g,k,d⟩:=x;rw[e]at f;cases f;exact n _ _ d)
theorem SCo.ne_it{b f:Bool}{h:de}{a it l:c0}{xs:Array cY}{i:Nat}(x:SCo b h a xs)(y:SIt f h it l i):a≠it:=by
 cases f<;>(obtain⟨o,e,c,d⟩:=y;exact x.ne e λys k z=>by rw[d]at z;cases z)
theorem yz{z g to i1 l u r:c0}{k1 aj:Nat}{xs ys:Array cY}{x y a b:cY}{Q:Option cY->cZ->Prop}(D:Lh z g to i1 l)(hz:IsZip s.heap z g to .none)(hti:IsPair s.heap g (.ref i1) (.ref l))(W:IsPair s.heap to a b)(n1:u≠to)(n2:r≠to)(h1:SIt b1 s.heap i1 u k1)(h2:SIt b2 s.heap l r aj)(c1:SCo b1 s.heap u xs)(wq:SCo b2 s.heap r ys)(hx:xs[k1]?=some x)(hy:ys[aj]?=some y)(hQ:∀h',IsZip h' z g to (rawInt s.heap.objs.size)->IsPair h' to x y->SIt b1 h' i1 u (k1+1)->SIt b2 h' l r (aj+1)->IsPair h' s.heap.objs.size x y->h'.objs.size=s.heap.objs.size+1 ->
   (∀c o,c≠z->c≠to->c≠i1->c≠l->s.heap.get? c=Z o->h'.get? c=Z o)->Q (Z (.ref s.heap.objs.size)) {s with heap:=h'}):db (model prog w) A (pyNext (.ref z)) Q E s:=by
 have hT:s.TypeIs (.ref z) "zip":=⟨_,hz,O⟩;have l1z:u≠z:=c1.ne hz λ_ _ q=>by cases q
 have l2z:r≠z:=wq.ne hz λ_ _ q=>by cases q
 have K:r≠i1:=wq.ne_it h1;unfold pyNext;refine wB1 (wpAny_attempt (wpAny_callSpecial?_slot (name:=Str.ofString "__next__") hT F.slot_zip_next (wE1 F.slot_zip_next hT F.entry_zip_next ?_ (F.args_zip_next_1 _))));show db _ _ (field (.ref z) 2 >>= _) _ _ _;refine wB1 (wpAny_field hz O (x:=.bool J) O ?_);show db _ _ (field (.ref z) 3 >>= _) _ _ _;refine wB1 (wpAny_field hz O (x:=.ref g) O ?_);refine wB1 (wpAny_seqItems hti O ?_);show db _ _ (Builtin.SmallTypes.ownedTupleIsFree (.ref z) >>= _) _ _ _;refine wB1 ?_;unfold Builtin.SmallTypes.ownedTupleIsFree;refine wB1 (wpAny_field hz O (x:=.none) O (wP1 ?_));simp only[if_true];refine wB1 (wpAny_rule ?_);refine wB1 (wpAny_field hz O (x:=.ref to) O ?_);refine wB1 (wS1 hz (by simp) λg1 t p=>?_);replace t:IsZip g1 z g to .ellipsis:=t;refine wB1 ?_;simp only[bD,List.zipIdx_nil,bv,List.forIn_nil];refine wB1 (wB1 (wpAny_onRaise ?_));show db _ _ (Builtin.SmallTypes.nextOf (.ref i1) >>= _) _ _ _
 refine wB1 (lc (h1.to λo q=>p.extBut _ _ D.a3 q) (c1.to λo q=>p.extBut _ _ l1z q) hx λg2 h12 v=>wP1 ?_);have k:IsPair g2 to a b:=v.extBut _ _ D.a8 (p.extBut _ _ D.a2 W);refine wB1 (wpAny_seqItems k O ?_);refine wB1 (wpAny_updateSeq_pair k λg3 f B=>?_);replace f:IsPair g3 to x b:=f;refine wB1 (wpAny_letGo (wP1 ?_));refine wB1 (wB1 (wpAny_onRaise ?_));show db _ _ (Builtin.SmallTypes.nextOf (.ref l) >>= _) _ _ _
 refine wB1 (lc (h2.to λo q=>B.extBut _ _ D.a9.symm (v.extBut _ _ D.a10.symm (p.extBut _ _ D.a4 q))) (wq.to λo q=>B.extBut _ _ n2 (v.extBut _ _ K (p.extBut _ _ l2z q))) hy λg4 T L=>wP1 ?_);have j:IsPair g4 to x b:=L.extBut _ _ D.a9 f;refine wB1 (wpAny_seqItems j O ?_);refine wB1 (wpAny_updateSeq_pair j λd e G=>?_);replace e:IsPair d to x y:=e;refine wB1 (wpAny_letGo (wP1 (wP1 ?_)));refine wB1 (wpAny_seqItems e O ?_);refine wB1 (wpAny_newTuple ?_);have C:d.objs.size=s.heap.objs.size:=by rw[G.1,L.1,B.1,v.1,p.1]
 have H:IsZip d z g to .ellipsis:=G.extBut _ _ D.a2.symm (L.extBut _ _ D.a4.symm (B.extBut _ _ D.a2.symm (v.extBut _ _ D.a3.symm t)));have hk5:∀c o,c≠z->c≠to->c≠i1->c≠l->s.heap.get? c=Z o->d.get? c=Z o:=λc o n N V X q=>G.extBut _ _ N (L.extBut _ _ X (B.extBut _ _ N (v.extBut _ _ V (p.extBut _ _ n q))));have ai:SIt b1 d i1 u (k1+1):=h12.to λo q=>G.extBut _ _ D.a8.symm (L.extBut _ _ D.a10 (B.extBut _ _ D.a8.symm q));have P:SIt b2 d l r (aj+1):=T.to λo q=>G.extBut _ _ D.a9.symm q;have i:z<d.objs.size:=hL1 H;show db _ _ (Builtin.SmallTypes.ownedTupleHandOut (.ref z) (.ref d.objs.size) >>= _) _ _ _;refine wB1 ?_;unfold Builtin.SmallTypes.ownedTupleHandOut;have R:IsZip (d.push {cls:=.type "tuple",data:=.seq #[x,y]}) z g to .ellipsis:=hP1 _ H;refine wB1 (wS1 R (by simp) λg7 m U=>?_);replace m:IsZip g7 z g to (rawInt d.objs.size):=m;refine wS1 m (by simp) λah h S=>?_;replace h:IsZip ah z g to (rawInt d.objs.size):=h;have up:∀c o,c≠z->d.get? c=Z o->ah.get? c=Z o:=λc o n q=>S.extBut _ _ n (U.extBut _ _ n (hP1 _ q));have ag:IsPair ah d.objs.size x y:=S.extBut _ _ (nG1 i) (U.extBut _ _ (nG1 i) (hS1 _ O));have I:ah.objs.size=d.objs.size+1:=by rw[S.1,U.1,hZ1]
 rw[C]at h ag I;refine wP1 ⟨_,O,wP1 ?_⟩;show Q (Z (.ref d.objs.size)) _;rw[C]
 exact hQ ah h (up _ _ D.a2 e) (ai.to λo q=>up _ o D.a3 q) (P.to λo q=>up _ o D.a4 q) ag I λc o n N V X q=>up c o n (hk5 c o n N V X q)
theorem BS{z m to i1 B G t:c0}{k1 L:Nat}{xs ys:Array cY}{a b:cY}{Q:Option cY->cZ->Prop}(V:A.handled=Y)(D:Lh z m to i1 B)(hz:IsZip s.heap z m to .none)(R:IsPair s.heap m (.ref i1) (.ref B))(ag:IsPair s.heap to a b)(n1:G≠to)(n2:t≠to)(h1:SIt b1 s.heap i1 G k1)(h2:SIt b2 s.heap B t L)(P:SCo b1 s.heap G xs)(K:SCo b2 s.heap t ys)(p:xs[k1]?=Y\/ys[L]?=Y)(W:∀h',(∀c o,c≠z->c≠to->c≠i1->c≠B->s.heap.get? c=Z o->h'.get? c=Z o)->Q Y {s with heap:=h'}):db (model prog w) A (pyNext (.ref z)) Q E s:=by
 have S:s.TypeIs (.ref z) "zip":=⟨_,hz,O⟩;have y:G≠z:=P.ne hz λ_ _ q=>by cases q
 have ah:t≠z:=K.ne hz λ_ _ q=>by cases q
 have v:t≠i1:=K.ne_it h1;unfold pyNext;refine wB1 (wpAny_attempt (wpAny_callSpecial?_slot (name:=Str.ofString "__next__") S F.slot_zip_next (wE1 F.slot_zip_next S F.entry_zip_next ?_ (F.args_zip_next_1 _))));show db _ _ (field (.ref z) 2 >>= _) _ _ _;refine wB1 (wpAny_field hz O (x:=.bool J) O ?_);show db _ _ (field (.ref z) 3 >>= _) _ _ _;refine wB1 (wpAny_field hz O (x:=.ref m) O ?_);refine wB1 (wpAny_seqItems R O ?_);show db _ _ (Builtin.SmallTypes.ownedTupleIsFree (.ref z) >>= _) _ _ _;refine wB1 ?_;unfold Builtin.SmallTypes.ownedTupleIsFree;refine wB1 (wpAny_field hz O (x:=.none) O (wP1 ?_));simp only[if_true];refine wB1 (wpAny_rule ?_);refine wB1 (wpAny_field hz O (x:=.ref to) O ?_);refine wB1 (wS1 hz (by simp) λg1 i g=>?_);replace i:IsZip g1 z m to .ellipsis:=i;refine wB1 ?_;simp only[bD,List.zipIdx_nil,bv,List.forIn_nil];refine wB1 (wB1 (wpAny_onRaise ?_));show db _ _ (Builtin.SmallTypes.nextOf (.ref i1) >>= _) _ _ _
 cases hx:xs[k1]? with
 |none=>
  refine wB1 (iS V (h1.to λo q=>g.extBut _ _ D.a3 q) (P.to λo q=>g.extBut _ _ y q) hx λN e k I=>?_);obtain⟨aj,d,f⟩:=I;have C:IsZip N z m to .ellipsis:=k _ _ D.a3.symm i;have l:e≠z:=λq=>by subst q;rw[C]at d;cases d;simp at f
  refine wS1 C (by simp) λai _ n=>?_;refine wB1 (wpAny_isInstance (T:="StopIteration") (b:=M) ⟨aj,n.extBut _ _ l d,f⟩ isSubtype_stop ?_);exact wP1 (W ai λc o r _ H _ q=>n.extBut _ _ r (k _ _ H (g.extBut _ _ r q)))
 |some x=>
  have hy:ys[L]?=Y:=by rcases p with h|h;rw[hx]at h;cases h;exact h
  refine wB1 (lc (h1.to λo q=>g.extBut _ _ D.a3 q) (P.to λo q=>g.extBut _ _ y q) hx λN h12 k=>wP1 ?_);have j:IsPair N to a b:=k.extBut _ _ D.a8 (g.extBut _ _ D.a2 ag);refine wB1 (wpAny_seqItems j O ?_);refine wB1 (wpAny_updateSeq_pair j λai X n=>?_);refine wB1 (wpAny_letGo (wP1 ?_));refine wB1 (wB1 (wpAny_onRaise ?_));show db _ _ (Builtin.SmallTypes.nextOf (.ref B) >>= _) _ _ _
  refine wB1 (iS V (h2.to λo q=>n.extBut _ _ D.a9.symm (k.extBut _ _ D.a10.symm (g.extBut _ _ D.a4 q))) (K.to λo q=>n.extBut _ _ n2 (k.extBut _ _ v (g.extBut _ _ ah q))) hy λg4 e wq I=>?_);obtain⟨aj,d,f⟩:=I;have u:IsZip g4 z m to .ellipsis:=wq _ _ D.a4.symm (n.extBut _ _ D.a2.symm (k.extBut _ _ D.a3.symm i));have l:e≠z:=λq=>by subst q;rw[u]at d;cases d;simp at f
  refine wS1 u (by simp) λg5 _ U=>?_;refine wB1 (wpAny_isInstance (T:="StopIteration") (b:=M) ⟨aj,U.extBut _ _ l d,f⟩ isSubtype_stop ?_);exact wP1 (W g5 λc o r q2 H q4 q=>U.extBut _ _ r (wq _ _ q4 (n.extBut _ _ q2 (k.extBut _ _ H (g.extBut _ _ r q)))))
def zH(b1 b2:Bool)(h:de)(l1 l2:c0):de:=((((h.push (fz b1 l1)).push (fz b2 l2)).push {cls:=.type "tuple",data:=.seq #[.ref h.objs.size,.ref (h.objs.size+1)]}).push {cls:=.type "tuple",data:=.seq #[.none,.none]}).push
 {cls:=.type "zip",data:=.fields #[.none,.bool J,.bool J,.ref (h.objs.size+2),.ref (h.objs.size+3)]}
theorem BQ(a b:c0)(xs ys:Array cY):Meets (Builtin.«zip.__new__» ⟨[.type "zip",.ref a,.ref b],[]⟩) (λ_ R s=>SCo b1 s.heap a xs/\SCo b2 s.heap b ys/\R (.ok (.ret (.ref (s.heap.objs.size+4)))) {s with heap:=zH b1 b2 s.heap a b}):=
 .of_wp λprog w A R s h=>by
  obtain⟨c,g,d,tk,e⟩:=s;obtain⟨l,i,h⟩:=h;have f:=sub_zip
  have j:SCo b1 (Shared.heap ⟨c,g,d,tk,e⟩) a xs:=l;have k:SCo b2 (Shared.heap ⟨c.push (fz b1 a),g,d,tk,e⟩) b ys:=i.to λo q=>hP1 _ q
  wp_walk using iz j,iz k
  refine⟨_,O,?_⟩;have m:(c.push (fz b1 a)).objs.size=c.objs.size+1:=hZ1 ..
  simp only[hZ1,zH]at h ⊢;exact h
theorem yA{b a:c0}{xs ys:Array cY}{Q:cY->cZ->Prop}(t:SCo b1 s.heap b xs)(i:SCo b2 s.heap a ys)(h:∀h',IsZip h' (s.heap.objs.size+4) (s.heap.objs.size+2) (s.heap.objs.size+3) .none->IsPair h' (s.heap.objs.size+2) (.ref s.heap.objs.size) (.ref (s.heap.objs.size+1))->IsPair h' (s.heap.objs.size+3) .none .none ->
   SIt b1 h' s.heap.objs.size b 0->SIt b2 h' (s.heap.objs.size+1) a 0->h'.objs.size=s.heap.objs.size+5->(∀c o,s.heap.get? c=Z o->h'.get? c=Z o)->Q (.ref (s.heap.objs.size+4)) {s with heap:=h'}):
  db (model prog w) A (call (.type "zip") [.ref b,.ref a]) Q E s:=by
 refine callType_new F.called_zip (by decide) (F.typeCall_zip_2 _ _) (F.newCall_zip_2 _ _) (λd=>F.args_object_init_3 d _ _) F.entry_zip_new (BQ (b1:=b1) (b2:=b2) b a xs ys) ⟨t,i,?_⟩;have up:∀{h:de} {o:Obj} {c:c0} {u:Obj},h.get? c=Z u->(h.push o).get? c=Z u:=λq=>hP1 _ q;have at_:∀{h:de} {o:Obj} {n:Nat},h.objs.size=n->o.isFreed=J->(h.push o).get? n=Z o:=λe f=>by rw[<- e];exact hS1 _ f
 have p:(fz b1 b).isFreed=J:=by cases b1<;>rfl
 have j:(fz b2 a).isFreed=J:=by cases b2<;>rfl
 have r:(zH b1 b2 s.heap b a).get? s.heap.objs.size=Z (fz b1 b):=up (up (up (up (at_ O p))));have l:(zH b1 b2 s.heap b a).get? (s.heap.objs.size+1)=Z (fz b2 a):=up (up (up (at_ (by simp only[hZ1]) j)));have m:IsPair (zH b1 b2 s.heap b a) (s.heap.objs.size+2) (.ref s.heap.objs.size) (.ref (s.heap.objs.size+1)):=up (up (at_ (by simp only[hZ1]) O));have k:IsPair (zH b1 b2 s.heap b a) (s.heap.objs.size+3) .none .none:=up (at_ (by simp only[hZ1]) O);have g:IsZip (zH b1 b2 s.heap b a) (s.heap.objs.size+4) (s.heap.objs.size+2) (s.heap.objs.size+3) .none:=at_ (by simp only[hZ1]) O;exact⟨⟨_,g,O⟩,h _ g m k (qk r) (qk l) (by simp only[zH,hZ1]) λc o q=>up (up (up (up (up q))))⟩
end
def sj(K:Fg1)(b:Bool)(H:Hp)(a:c0)(xs:List V):Prop:=match b with
 |true=>lI K H a xs
 |false=>jJ K H a xs
section
variable{X:Cx}{Z8:List (c0×Obj)}{σ:L2.St}{H:Hp}{s:cZ}
theorem eD{b:Bool}{a:c0}{xs:List V}(I:Inv X Z8 σ H s)(h:sj X.K b H a xs):∃c:List cY,dR xs c/\SCo b s.heap a c.toArray/\xs.length<=da:=by
 cases b
 ·obtain⟨c,r,p,z⟩:=I.tuple h;exact⟨c,r,p,z⟩
 ·obtain⟨c,r,p,z⟩:=I.list h;exact⟨c,r,p.isList,z⟩
theorem m3{b:Bool}{a:c0}{xs ys:List V}(I:Inv X Z8 σ H s)(h:sj X.K b H a xs)(h':sj X.K b H a ys):xs=ys:=by
 cases b
 ·exact I.tuple_inj h h'
 ·exact I.list_inj h h'
theorem qh{b:Bool}{a c:c0}{xs:List V}(I:Inv X Z8 σ H s)(h:sj X.K b H a xs)(f:j5 X Z8 H c):a≠c:=by
 rintro rfl;have d:∀{o},X.K.lookup a=Z o->False:=λ{o} e=>by
  have g:=I.ok.mod.kin _ _ e;rcases f.2.2.2.1 with z|z
  ·exact I.ok.noex _ _ g z
  ·exact absurd (nL1 (hL1 g) (av I.ok.bsz z)) (aq _)
 cases b
 ·rcases h with(h|⟨_,h⟩)|⟨_,_,_,h,_⟩
  ·rw[f.1]at h;cases h
  ·rw[f.1]at h;cases h
  ·exact d h
 ·rcases h with(h|⟨_,h⟩)|⟨_,_,_,h,_⟩
  ·rw[f.1]at h;cases h
  ·rw[f.1]at h;cases h
  ·exact d h
theorem tN(I:Inv X Z8 σ H s){fp:List c0}(hf:∀ b∈fp,j5 X Z8 H b){h':de}{p:c0}{xs:List V}{its:List cY}{t':Nat}(hp:s.heap.objs.size<=p)(d:∀ b o,b∉fp->s.heap.get? b=Z o->h'.get? b=Z o)(i:IsTup h' p its.toArray)(l:dR xs its)(hz:xs.length<=da):Inv X Z8 σ (upd H p (.tup xs)) {s with heap:=h',toks:=t'}:=by
 have f:H p=Y:=I.hok.fresh hp;have g:∀{b o},s.heap.get? b=Z o->b≠p:=λe=>nN1 (nL1 (hL1 e) hp);have h:∀{b u},H b=Z u->b∉fp:=λe z=>by rw[(hf _ z).1]at e;cases e
 refine I.step (g':=s.gens) (d':=s.drawn) (ch:=fp) (λb a=>⟨(hf b a).2.2.2.1,(hf b a).2.1,(hf b a).2.2.2.2.1,(hf b a).2.2.2.2.2⟩) (λb o _ _ hc e _=>d b o hc e) (λb o _ _ hc e _=>⟨o.slots,d b o hc e⟩) (λb o _ e n=>?_)
  (λb o hc e=>⟨o,d b o hc e⟩) (λb ys e=>?_) (λb o u e=>?_) (λb ps e=>⟨#[],?_⟩) (λm k=>?_) (λb u e=>?_) I.bare
 ·rw[dM (g e)];exact n
 ·rw[dM (dZ e f)];exact e
 ·rw[dM (dZ e f)];exact e
 ·rw[dM (dZ e f),e];simp
 ·obtain⟨o,es,ep,j,r⟩:=k;exact⟨o,es,ep,d _ o (λz=>(hf _ z).2.1 O) j,r⟩
 ·by_cases a:b=p
  ·subst a;rw[dQ]at e;cases e;exact⟨hz,its,l,i⟩
  ·rw[dM a]at e;refine(I.hok b u e).stay (λc v hc q=>d c v ?_ q) (λc q=>by rw[dM (dZ q f)];exact q) λc ys q=>by rw[dM (dZ q f)];exact q
   rcases hc with z|z
   ·rw[z];exact h e
   ·exact h z
theorem n8(I:Inv X Z8 σ H s){fp:List c0}(hf:∀b∈fp,j5 X Z8 H b){h':de}{t':Nat}(a:∀b o,b∉fp->s.heap.get? b=Z o->h'.get? b=Z o):Inv X Z8 σ H {s with heap:=h',toks:=t'}:=by
 have f:∀{b u},H b=Z u->b∉fp:=λe z=>by rw[(hf _ z).1]at e;cases e
 refine I.step (g':=s.gens) (d':=s.drawn) (ch:=fp) (λb d=>⟨(hf b d).2.2.2.1,(hf b d).2.1,(hf b d).2.2.2.2.1,(hf b d).2.2.2.2.2⟩) (λb o _ _ hc e _=>a b o hc e) (λb o _ _ hc e _=>⟨o.slots,a b o hc e⟩) (λb o _ e n=>n)
  (λb o hc e=>⟨o,a b o hc e⟩) (λb ys e=>e) (λb o u e=>e) (λb ps e=>⟨#[],by rw[e];simp⟩) (λm h=>?_) (λb u e=>?_) I.bare
 ·obtain⟨o,es,ep,g,r⟩:=h;exact⟨o,es,ep,a _ o (λz=>(hf _ z).2.1 O) g,r⟩
 ·refine(I.hok b u e).stay (λc v hc q=>a c v ?_ q) (λc q=>q) λc ys q=>q;rcases hc with z|z
  ·rw[z];exact f e
  ·exact f z
end
theorem sE:(2:Nat)<=da:=by decide
def LP(K:Fg1)(b:Bool)(a:c0):It:=
 ⟨λi H=>∃xs x,sj K b H a xs/\xs[i]?=Z x,λi H x H'=>∃p v,H p=Y/\x = .ref p/\H'=upd H p (.tup [.int i,v]) /\ ∀xs,sj K b H a xs->xs[i]?=Z v,λi H=>∃xs,sj K b H a xs/\xs.length<=i⟩
theorem xi{P:c5}{w:c7}{K:Fg1}{elts:List Expr}{k:Nat}{pos:Pos}(b:Bool)(a e it:c0)(ne:e≠it):vv P w K (.Tuple elts k pos) (LP K b a) [e,it] e (λi h=>(∃old,IsEnum h e it (i:Nat) old)/\SIt b h it a i) where
 mem:=by simp
 obj:=by
  rintro i h ⟨⟨old,st⟩,L⟩ c hc;rcases ay.mp hc with z|z
  ·subst z;exact⟨_,st,λv q=>by cases q⟩
  ·have U:c=it:=by simpa using z
   subst U;exact L.rec_
 keep:=λi h h' ⟨⟨old,st⟩,L⟩ N=>⟨⟨old,N e (by simp) _ st⟩,L.to λo q=>N it (by simp) o q⟩
 item:=by
  intro X ag n B hc i Z8 s σ H E I g st G;subst ag n B;obtain⟨⟨old,j⟩,f⟩:=st;obtain⟨xs,x,l,ah⟩:=G;obtain⟨p,F,co,hz⟩:=eD I l;obtain⟨u,V,ai⟩:=F.get ah;refine ya j f co (x:=u) (by simpa using V) ne λh1 C D A hz1 y=>?_;refine⟨.ref s.heap.objs.size,O,?_⟩;refine wpAny_letOwnedTupleGo_enum C λh2 t d=>?_;have Q:s.heap.objs.size≠e:=nG1 (hL1 j);have r:∀c o,c∉[e,it]->s.heap.get? c=Z o->h2.get? c=Z o:=λc o hc q=>by
   have m:c≠e:=λz=>hc (by simp[z]);have c2:c≠it:=λz=>hc (by simp[z]);exact d.extBut _ _ m (y c o m c2 q)
  have W:IsTup h2 s.heap.objs.size [.int (i:Nat) s.toks,u].toArray:=⟨_,d.extBut _ _ Q A,O,_,O⟩;have R:=tN I g (t':=s.toks+1) (nR1 _) r W (xs:=[.int i,x]) (.cons ⟨_,O⟩ (.cons ai .nil)) sE;have S:H s.heap.objs.size=Y:=I.hok.fresh (nR1 _);refine⟨.ref s.heap.objs.size,_,R,O,⟨_,x,S,O,O,λys T=>by rw[m3 I T l];exact ah⟩,⟨⟨u,?_⟩,D.to λo q=>d.extBut _ _ (Ne.symm ne) q⟩,λc hc=>?_⟩
  ·have:((i+1:Nat):Int)=(i:Int)+1:=by push_cast;rfl
   rw[this];exact t
  ·have m:c≠s.heap.objs.size:=fun z=>by
    rcases ay.mp hc with q|q
    ·exact Q (z.symm.trans q)
    ·have wq:c=it:=by simpa using q
     obtain⟨o,aj,_⟩:=f.rec_;rw[<- wq,z]at aj;exact aq _ (hL1 aj)
   rw[dM m];exact(g c hc).1
 done:=by
  intro X ag n B hc i Z8 s σ H E I g st G;subst ag n B;obtain⟨⟨old,j⟩,f⟩:=st;obtain⟨xs,l,ah⟩:=G;obtain⟨p,F,co,hz⟩:=eD I l;have hl:=F.length;refine A6 (I.ok.hd hc) j f co (by simp;lia) λh' eb=>⟨O,n8 I (t':=s.toks) g λc o hc q=>eb c o (λz=>hc (by simp[z])) q⟩
 self:=λ_ _ _ _ _ ⟨⟨_,st⟩,_⟩ h=>pM st h
def LM(K:Fg1)(b1 b2:Bool)(a1 a2:c0):It:=
 ⟨λi H=>∃xs ys x y,sj K b1 H a1 xs/\sj K b2 H a2 ys/\xs[i]?=Z x/\ys[i]?=Z y,λi H x H'=>∃p v u,H p=Y/\x = .ref p/\H'=upd H p (.tup [v,u])/\(∀xs,sj K b1 H a1 xs->xs[i]?=Z v) /\ ∀ys,sj K b2 H a2 ys->ys[i]?=Z u,
  λi H=>∃xs ys,sj K b1 H a1 xs/\sj K b2 H a2 ys/\(xs.length<=i\/ys.length<=i)⟩
theorem yX{P:c5}{w:c7}{K:Fg1}{elts:List Expr}{k:Nat}{pos:Pos}(b1 b2:Bool)(a1 a2 z m to n A:c0)(D:Lh z m to n A):vv P w K (.Tuple elts k pos) (LM K b1 b2 a1 a2) [z,m,to,n,A] z
  (λi h=>IsZip h z m to .none/\IsPair h m (.ref n) (.ref A)/\(∃u v,IsPair h to u v)/\SIt b1 h n a1 i/\SIt b2 h A a2 i) where
 mem:=by simp
 obj:=by
  rintro i h ⟨j,b,⟨u,v,g⟩,l,d⟩ c hc;simp only[ay,bE,or_false]at hc;rcases hc with rfl|rfl|rfl|rfl|rfl
  ·exact⟨_,j,λv q=>by cases q⟩
  ·exact⟨_,b,λv q=>by cases q⟩
  ·exact⟨_,g,λv q=>by cases q⟩
  ·exact l.rec_
  ·exact d.rec_
 keep:=λi h h' ⟨j,b,⟨u,v,g⟩,l,d⟩ F=>⟨F z (by simp) _ j,F m (by simp) _ b,⟨u,v,F to (by simp) _ g⟩,l.to λo q=>F n (by simp) o q,d.to λo q=>F A (by simp) o q⟩
 item:=by
  intro X V N R hc i Z8 s σ H E I f st U;subst V N R;obtain⟨j,b,⟨u0,v0,g⟩,l,d⟩:=st;obtain⟨xs,ys,x,y,C,B,ex,ey⟩:=U;obtain⟨aj,T,co,hz⟩:=eD I C;obtain⟨G,r,t,W⟩:=eD I B;obtain⟨u,hu,ru⟩:=T.get ex;obtain⟨S,ai,ah⟩:=r.get ey;refine yz D j b g (qh I C (f to (by simp))) (qh I B (f to (by simp))) l d co t (x:=u) (y:=S) (by simpa using hu) (by simpa using ai) λh1 p1 p2 p3 p4 p5 p6 ag=>?_;refine⟨.ref s.heap.objs.size,O,?_⟩;refine wpAny_letOwnedTupleGo_zip p1 λh2 z2 a=>?_;have lt:∀c∈[z,m,to,n,A],c≠s.heap.objs.size:=λc hc e=>by
   obtain⟨o,wq⟩:∃o,s.heap.get? c=some o:=by
    simp only[ay,bE,or_false]at hc;rcases hc with rfl|rfl|rfl|rfl|rfl
    ·exact⟨_,j⟩
    ·exact⟨_,b⟩
    ·exact⟨_,g⟩
    ·obtain⟨o,e,_⟩:=l.rec_;exact⟨o,e⟩
    ·obtain⟨o,e,_⟩:=d.rec_;exact⟨o,e⟩
   rw[e]at wq;exact aq _ (hL1 wq)
  have Q:∀c o,c∉[z,m,to,n,A]->s.heap.get? c=Z o->h2.get? c=Z o:=λc o hc q=>by
   simp only[ay,bE,or_false,not_or]at hc;exact a.extBut _ _ hc.1 (ag c o hc.1 hc.2.2.1 hc.2.2.2.1 hc.2.2.2.2 q)
  have tp:IsTup h2 s.heap.objs.size [u,S].toArray:=⟨_,a.extBut _ _ (Ne.symm (lt z (by simp))) p5,O,_,O⟩;have I2:=tN I f (t':=s.toks) (nR1 _) Q tp (xs:=[x,y]) (.cons ru (.cons ah .nil)) sE;have hn:H s.heap.objs.size=Y:=I.hok.fresh (nR1 _);refine⟨.ref s.heap.objs.size,_,I2,O,⟨_,x,y,hn,O,O,λL p=>by rw[m3 I p C];exact ex,λL p=>by rw[m3 I p B];exact ey⟩,
   ⟨z2,a.extBut _ _ D.a1 (ag _ _ D.a1 D.a5 D.a6 D.a7 b),⟨u,S,a.extBut _ _ D.a2 p2⟩,p3.to λo q=>a.extBut _ _ D.a3 q,p4.to λo q=>a.extBut _ _ D.a4 q⟩,λc hc=>?_⟩
  rw[dM (lt c hc)];exact(f c hc).1
 done:=by
  intro X V N R hc i Z8 s σ H E I f st U;subst V N R;obtain⟨j,b,⟨u0,v0,g⟩,l,d⟩:=st;obtain⟨xs,ys,C,B,hl⟩:=U;obtain⟨aj,T,co,hz⟩:=eD I C;obtain⟨G,r,t,W⟩:=eD I B;have l1:=T.length;have l2:=r.length;refine BS (I.ok.hd hc) D j b g (qh I C (f to (by simp))) (qh I B (f to (by simp))) l d co t (by simp;lia) λh' eb=>⟨O,n8 I (t':=s.toks) f λc o hc q=>?_⟩;simp only[ay,bE,or_false,not_or]at hc;exact eb c o hc.1 hc.2.2.1 hc.2.2.2.1 hc.2.2.2.2 q
 self:=λ_ _ _ _ _ ⟨st,_⟩ h=>wpAny_pyIter_zip st h
section
variable{X:Cx}{elts:List Expr}{k:Nat}{tpos:Pos}
def Jw(K:Fg1)(ta:TA):TI:=fun σ H R=>ta σ H λvs H1=>∃a b,vs=[.ref a]/\(∃xs,sj K b H1 a xs)/\R (LP K b a) H1
theorem CC {a:Expr}{ta:TA}{p pos:Pos}(hg:Gl X "enumerate")(hm:X.mg "enumerate"=Y)(ha:PA X [a] ta)(hs:c9 [a] X.env=[(J,eval a X.env)]:=by rfl):PI X (.Tuple elts k tpos) (.Call (.Name "enumerate" p) [a] [] pos) (Jw X.K ta):=by
 intro Z8 s σ H R I h;refine Call_ (jx I hg hm boot_enumerate (PyProof.Rows.callWith_type1 (eQ (ha pos Z8 s σ H _ I h) λA g ⟨vs,H1,f,o,u⟩=>?_) hs O));obtain⟨c,b,e,⟨xs,w⟩,q⟩:=u;subst e;cases o with
 |cons r v=>
  cases v;cases r;obtain⟨n,C,co,B⟩:=eD f w;refine yb co λh' i t y m=>pM i ?_;have j:Inv X Z8 σ H1 {g with heap:=h'}:=f.kept (t':=g.toks) m;refine⟨g.heap.objs.size+1,[g.heap.objs.size+1,g.heap.objs.size],_,_,H1,O,j,xi b c _ _ (Nat.succ_ne_self _),⟨⟨.none,i⟩,t⟩,λd l=>?_,q⟩;rcases ay.mp l with z|z
  ·subst z;exact f.fpOk (aR _) (f.hok.fresh (aR _))
  ·have x:d=g.heap.objs.size:=by simpa using z
   subst x;exact f.fpOk (nR1 _) (f.hok.fresh (nR1 _))
def K1(K:Fg1)(ta:TA):TI:=fun σ H R=>ta σ H λvs H1=>∃a1 b1 a2 b2,vs=[.ref a1,.ref a2]/\(∃xs,sj K b1 H1 a1 xs)/\(∃xs,sj K b2 H1 a2 xs)/\R (LM K b1 b2 a1 a2) H1
theorem FH {a b:Expr}{ta:TA}{p pos:Pos}(hg:Gl X "zip")(hm:X.mg "zip"=none)(ha:PA X [a,b] ta)(hs:c9 [a,b] X.env=[(false,eval a X.env),(false,eval b X.env)]:=by rfl)(hs2:c9 [b] X.env=[(false,eval b X.env)]:=by rfl):
  PI X (.Tuple elts k tpos) (.Call (.Name "zip" p) [a,b] [] pos) (K1 X.K ta):=by
 intro Z8 s σ H R I h;refine Call_ (jx I hg hm boot_zip (PyProof.Rows.callWith_type1 (eQ (ha pos Z8 s σ H _ I h) λah c ⟨vs,H1,g,G,x⟩=>?_) (by rw[hs,hs2]) (by rw[hs2];rfl)));obtain⟨K,b1,C,b2,e,⟨xs,w⟩,⟨ys,v⟩,q⟩:=x;subst e;cases G with
 |cons r i=>
  cases i with
  |cons u i=>
   cases i;cases r;cases u;obtain⟨t,aj,co,N⟩:=eD g w;obtain⟨m,B,j,ag⟩:=eD g v;refine yA co j λh' n A D y F P E=>wpAny_pyIter_zip n ?_;have o:Inv X Z8 σ H1 {c with heap:=h'}:=g.kept (t':=c.toks) E;refine⟨c.heap.objs.size+4,[c.heap.objs.size+4,c.heap.objs.size+2,c.heap.objs.size+3,c.heap.objs.size,c.heap.objs.size+1],_,_,H1,O,o,yX b1 b2 K C _ _ _ _ _ ?_,⟨n,A,⟨_,_,D⟩,y,F⟩,λd l=>?_,q⟩
   ·constructor<;>(intro z;have L:((_:Nat)=_):=z;lia)
   ·have f:c.heap.objs.size<=d:=by
     simp only[ay,bE,or_false]at l;rcases l with rfl|rfl|rfl|rfl|rfl
     ·exact bj _ _
     ·exact bj _ _
     ·exact bj _ _
     ·exact nR1 _
     ·exact bj _ _
    exact g.fpOk f (g.hok.fresh f)
end
def dH(S:Sto):D->Option (Bool×List D)
 | .tup xs=>Z (J,xs)
 | .rol xs=>Z (M,xs)
 | .ref n=>match S[n]? with
  |some (.lst xs)=>Z (M,xs)
  |_=>Y
 |_=>Y
def jE(S:Sto):D->List (Nat×List D)
 | .ref n=>match S[n]? with
  |some (.lst xs)=>[(n,xs)]
  |_=>[]
 |_=>[]
section
variable{K:Fg1}{H:Hp}{mu:List c0}{S:Sto}
theorem dB{d:D}{v:V}{b:Bool}{xs:List D}(r:eP K H mu d v)(s:Sim K H mu S)(h:dH S d=Z (b,xs)):∃a vs,v = .ref a/\sj K b H a vs/\dD K H mu xs vs:=by
 cases d with
 |tup ys=>cases h;cases r with|tup q t=>exact⟨_,_,rfl,q,t⟩
 |rol ys=>cases h;cases r with|rol q t=>exact⟨_,_,rfl,q.sq,t⟩
 |ref n=>
  rw[dH]at h;split at h
  ·rename_i ys e;cases h;cases r with
   |ref q=>
    obtain⟨vs,f,c⟩:=s.lst e q;exact⟨_,vs,O,lI.of f,c⟩
  ·cases h
 |_=>cases h
theorem iA{d:D}{a:c0}{b:Bool}{xs:List D}(r:eP K H mu d (.ref a))(s:Sim K H mu S)(h:dH S d=some (b,xs)){H1:Hp}{mu1:List c0}{S1:Sto}(x:sw mu mu1 H H1)(c:Sim K H1 mu1 S1)(ok:oW S1 (jE S d)=true):
  ∃vs,sj K b H1 a vs/\dD K H1 mu1 xs vs:=by
 have f:=r.exw x;have h1:dH S1 d=Z (b,xs):=by
  cases d with
  |ref n=>
   rw[dH]at h;split at h
   ·rename_i ys e;cases h;rw[jE,e]at ok;dsimp only[oW]at ok;rw[bF]at ok;rw[dH];split at ok
    ·rename_i zs g
     first|rw[g,D.sames_eq ok] | rw[D.sames_eq ok]
    ·cases ok
   ·cases h
  |_=>exact h
 obtain⟨i,vs,e,q,t⟩:=dB f c h1;cases e;exact⟨vs,q,t⟩
end
def gJ(m:FE):FI:=λr S=>(m r S).bind λp=>(dH p.2 p.1).bind λq=>Z (⟨q.2,jE p.2 p.1⟩,p.2)
def sv:Nat->List D->List D
 |_,[]=>[]
 |n,d::ds=>.tup [.int n,d]::sv (n+1) ds
def oa(m:FA):FI:=λr S=>(m r S).bind λp=>match p.1 with
 |[d]=>(dH p.2 d).bind λq=>Z (⟨sv 0 q.2,jE p.2 d⟩,p.2)
 |_=>Y
def ux:List D->List D->List D
 |x::xs,y::ys=>.tup [x,y]::ux xs ys
 |_,_=>[]
def Js(m:FA):FI:=λr S=>(m r S).bind λp=>match p.1 with
 |[d,e]=>(dH p.2 d).bind λq=>(dH p.2 e).bind λt=>Z (⟨ux q.2 t.2,jE p.2 d++jE p.2 e⟩,p.2)
 |_=>Y
def gy(lo:Int):Nat->List D
 |0=>[]
 |n+1=>.int lo::gy (lo+1) n
def ss(m:FA):FI:=λr S=>(m r S).bind λp=>match p.1 with
 |[.int j]=>if-(2^62)<=j/\j<2^62 then Z (⟨gy 0 j.toNat,[]⟩,p.2)else Y
 |_=>Y
def HM(m:FA):FI:=λr S=>(m r S).bind λp=>match p.1 with
 |[.int i,.int j]=>if-(2^62)<=i/\i<2^62 /\ -(2^62)<=j/\j<2^62 then Z (⟨gy i (j-i).toNat,[]⟩,p.2)else Y
 |_=>Y
theorem fO:∀(ds:List D) (n i:Nat),(sv n ds)[i]?=(ds[i]?).map λd=>.tup [.int ((n+i:Nat):Int),d]
 |[],n,i=>by simp[sv]
 |d::ds,n,0=>by simp[sv]
 |d::ds,n,i+1=>by
  rw[sv,gC1,fO ds (n+1) i,gC1];rw[show n+1+i=n+(i+1) by lia]
theorem fN:∀(ds:List D) (n:Nat),(sv n ds).length=ds.length
 |[],_=>rfl
 |d::ds,n=>by rw[sv,lC1,fN ds,lC1]
theorem vB:∀(xs ys:List D) (i:Nat) (d:D),(ux xs ys)[i]?=Z d -> ∃x y,xs[i]?=Z x/\ys[i]?=Z y/\d = .tup [x,y]
 |[],_,i,d,h=>by simp[ux]at h
 |_::_,[],i,d,h=>by simp[ux]at h
 |x::xs,y::ys,0,d,h=>by simp[ux]at h;exact⟨x,y,O,O,h.symm⟩
 |x::xs,y::ys,i+1,d,h=>by
  rw[ux,gC1]at h;obtain⟨f,c,a,e,b⟩:=vB xs ys i d h;exact⟨f,c,by simpa using a,by simpa using e,b⟩
theorem vz:∀(xs ys:List D) (i:Nat),(ux xs ys).length<=i->xs.length<=i\/ys.length<=i
 |[],_,i,_=>.inl (a0 _)
 |_::_,[],i,_=>.inr (a0 _)
 |x::xs,y::ys,0,h=>by simp[ux]at h
 |x::xs,y::ys,i+1,h=>by
  rcases vz xs ys i (by simpa[ux]using h)with q|q
  ·exact .inl (by simpa using q)
  ·exact .inr (by simpa using q)
theorem s9:∀(n:Nat) (lo:Int) (i:Nat) (d:D),(gy lo n)[i]?=Z d->i<n/\d = .int (lo+i)
 |0,lo,i,d,h=>by simp[gy]at h
 |n+1,lo,0,d,h=>by simp[gy]at h;exact⟨bG _,by rw[<- h];simp⟩
 |n+1,lo,i+1,d,h=>by
  rw[gy,gC1]at h;obtain⟨h1,h2⟩:=s9 n (lo+1) i d h;refine⟨Nat.succ_lt_succ h1,?_⟩;rw[h2,show lo+1+(i:Int)=lo+((i+1:Nat):Int) by push_cast;lia]
theorem eJ:∀(n:Nat) (lo:Int),(gy lo n).length=n
 |0,_=>rfl
 |n+1,lo=>by rw[gy,lC1,eJ n]
theorem wf{S:Sto}:∀{c c':List (Nat×List D)},oW S (c++c')=M->oW S c=M/\oW S c'=M
 |[],_,h=>⟨O,h⟩
 |(n,xs)::c,c',h=>by
  rw[ba,oW,bA1]at h;obtain⟨h1,h2⟩:=wf h.2;exact⟨by rw[oW,bA1];exact⟨h.1,h1⟩,h2⟩
section
variable{X:Cx}{tg:Expr}
theorem tK(K:Fg1)(lo:Int)(n:Nat)(mu:List c0)(H:Hp):Lq K (J0 lo n) ⟨gy lo n,[]⟩ mu H:=by
 intro i H1 mu1 e x s ok;refine⟨λd a=>?_,λh=>by rw[eJ]at h;exact h⟩;obtain⟨h1,h2⟩:=s9 n lo i d a;refine⟨h1,λy H2 ⟨c,b⟩=>?_⟩;subst c;subst b;subst h2;exact⟨.refl _ _,s,.int _⟩
theorem Gs{e:Expr}{m:FE}(h:ME X e m):MI X tg e (gJ m):=nN (IE (CB h) (FJ h)) <| by
 rintro σ H R ⟨r,mu,S,ag,G,C,D,g,hc⟩;obtain⟨⟨d,I⟩,B,g⟩:=oB1.mp g;obtain⟨⟨b,xs⟩,o,g⟩:=oB1.mp g;cases g;cases b with
 |true=>
  left;refine⟨r,mu,S,d,_,C,D,B,λv H1 mu1 p l f=>?_⟩;obtain⟨a,vs,rfl,q,t⟩:=dB l f o;refine⟨a,O,⟨vs,q⟩,hc _ H1 mu1 p (λi H2 A F x2 k ok=>?_) f⟩;obtain⟨ws,c,n⟩:=iA l f o x2 k ok;refine⟨λd s=>?_,λw=>⟨ws,c,by rw[<- n.length];exact w⟩⟩;obtain⟨v,j,x⟩:=n.get s;refine⟨⟨ws,v,c,j⟩,λy E ⟨z,u⟩=>?_⟩;subst z;have:=u ws c;rw[j]at this;cases this;exact⟨.refl _ _,k,x⟩
 |false=>
  right;refine⟨r,mu,S,d,_,C,D,B,λv H1 mu1 p l f=>?_⟩;obtain⟨a,vs,rfl,q,t⟩:=dB l f o;refine⟨a,O,⟨vs,q⟩,hc _ H1 mu1 p (λi H2 A F x2 k ok=>?_) f⟩;obtain⟨ws,c,n⟩:=iA l f o x2 k ok;refine⟨λd s=>?_,λw=>⟨ws,c,by rw[<- n.length];exact w⟩⟩;obtain⟨v,j,x⟩:=n.get s;refine⟨⟨ws,v,c,j⟩,λy E ⟨z,u⟩=>?_⟩;subst z;have:=u ws c;rw[j]at this;cases this;exact⟨.refl _ _,k,x⟩
theorem kZ{K:Fg1}{H:Hp}{mu:List c0}{d:D}{vs:List V}(r:dD K H mu [d] vs):∃v,vs=[v]/\eP K H mu d v:=by
 cases r with|cons r t=>cases t;exact⟨_,O,r⟩
theorem sK{K:Fg1}{H:Hp}{mu:List c0}{d e:D}{vs:List V}(r:dD K H mu [d,e] vs):∃v u,vs=[v,u]/\eP K H mu d v/\eP K H mu e u:=by
 cases r with|cons r t=>cases t with|cons q t=>cases t;exact⟨_,_,O,r,q⟩
theorem xI {a:Expr}{m:FA}{p pos:Pos}(hg:Gl X "range")(hm:X.mg "range"=Y)(ha:MA X [a] m)(hs:c9 [a] X.env=[(J,eval a X.env)]:=by rfl):MI X tg (.Call (.Name "range" p) [a] [] pos) (ss m):=
 nN (xE hg hm ha hs) <| by
  rintro σ H R ⟨r,mu,S,ag,k,f,hs,hm,hc⟩;obtain⟨⟨ds,i⟩,d,hm⟩:=oB1.mp hm;dsimp only at hm;split at hm
  ·rename_i j;split at hm
   ·rename_i b;cases hm;refine⟨r,mu,S,_,_,f,hs,d,λvs H1 mu1 c e g=>?_⟩;obtain⟨v,rfl,h⟩:=kZ e;cases h;exact⟨j,O,b.1,b.2,hc _ H1 mu1 c (tK _ _ _ _ _) g⟩
   ·cases hm
  ·cases hm
theorem xH {a b:Expr}{m:FA}{p pos:Pos}(hg:Gl X "range")(hm:X.mg "range"=Y)(ha:MA X [a,b] m)(hs:c9 [a,b] X.env=[(J,eval a X.env),(J,eval b X.env)]:=by rfl)(hs2:c9 [b] X.env=[(J,eval b X.env)]:=by rfl):MI X tg (.Call (.Name "range" p) [a,b] [] pos) (HM m):=
 nN (xD hg hm ha hs hs2) <| by
  rintro σ H R ⟨r,mu,S,ag,o,h,hs,hm,hc⟩;obtain⟨⟨ds,n⟩,d,hm⟩:=oB1.mp hm;dsimp only at hm;split at hm
  ·rename_i i j;split at hm
   ·rename_i e;cases hm;refine⟨r,mu,S,_,_,h,hs,d,λvs H1 mu1 c f k=>?_⟩;obtain⟨v,u,rfl,l,g⟩:=sK f;cases l;cases g;exact⟨i,j,O,e,hc _ H1 mu1 c (tK _ _ _ _ _) k⟩
   ·cases hm
  ·cases hm
variable{elts:List Expr}{k:Nat}{tpos:Pos}
theorem C5 {a:Expr}{m:FA}{p pos:Pos}(hg:Gl X "enumerate")(hm:X.mg "enumerate"=Y)(ha:MA X [a] m)(hs:c9 [a] X.env=[(J,eval a X.env)]:=by rfl):MI X (.Tuple elts k tpos) (.Call (.Name "enumerate" p) [a] [] pos) (oa m):=
 nN (CC hg hm ha hs) <| by
  rintro σ H R ⟨r,mu,S,ag,I,A,hs,hm,hc⟩;obtain⟨⟨ds,ah⟩,x,hm⟩:=oB1.mp hm;dsimp only at hm;split at hm
  ·rename_i d;obtain⟨⟨b,xs⟩,j,hm⟩:=oB1.mp hm;cases hm;refine⟨r,mu,S,_,_,A,hs,x,λvs H1 mu1 w E f=>?_⟩;obtain⟨v,rfl,s⟩:=kZ E;obtain⟨a,vs,rfl,q,t⟩:=dB s f j;refine⟨a,b,O,⟨vs,q⟩,hc _ H1 mu1 w (λi H2 F N x2 o ok=>?_) f⟩;obtain⟨ws,e,u⟩:=iA s f j x2 o ok;refine⟨λd c=>?_,λn=>⟨ws,e,by rw[fN]at n;rw[<- u.length];exact n⟩⟩;rw[fO]at c;obtain⟨K,B,c⟩:=oM1.mp c;obtain⟨v,l,g⟩:=u.get B;refine⟨⟨ws,v,e,l⟩,λy G ⟨p,L,h,D,z,C⟩=>?_⟩;have:=C ws e;rw[l]at this;cases this;subst D;subst z;subst c;rw[bH];exact⟨Ext.fresh h,o.fresh h,.tup (jJ.of dQ) (.cons (.int _) (.cons (g.ext (Ext.fresh h)) .nil))⟩
  ·cases hm
theorem Gr {a b:Expr}{m:FA}{p pos:Pos}(hg:Gl X "zip")(hm:X.mg "zip"=Y)(ha:MA X [a,b] m)(hs:c9 [a,b] X.env=[(J,eval a X.env),(J,eval b X.env)]:=by rfl)(hs2:c9 [b] X.env=[(J,eval b X.env)]:=by rfl):MI X (.Tuple elts k tpos) (.Call (.Name "zip" p) [a,b] [] pos) (Js m):=
 nN (FH hg hm ha hs hs2) <| by
  rintro σ H R ⟨r,mu,S,ag,S',T,hs,hm,hc⟩;obtain⟨⟨ds,S1⟩,ah,hm⟩:=oB1.mp hm;dsimp only at hm;split at hm
  ·rename_i d e;obtain⟨⟨b1,xs⟩,A,hm⟩:=oB1.mp hm;obtain⟨⟨b2,ys⟩,D,hm⟩:=oB1.mp hm;cases hm;refine⟨r,mu,S,_,_,T,hs,ah,λvs H1 mu1 L r1 f=>?_⟩;obtain⟨v,u,rfl,E,B⟩:=sK r1;obtain⟨a1,n,rfl,Q,t1⟩:=dB E f A;obtain⟨a2,o,rfl,P,t2⟩:=dB B f D;refine⟨a1,b1,a2,b2,O,⟨n,Q⟩,⟨o,P⟩,hc _ H1 mu1 L (λi H2 mu2 S2 x2 s ok=>?_) f⟩;obtain⟨w,h⟩:=wf ok;obtain⟨ws,l,G⟩:=iA E f A x2 s w;obtain⟨c,t,K⟩:=iA B f D x2 s h;refine⟨λd N=>?_,λU=>⟨ws,c,l,t,?_⟩⟩
   ·obtain⟨x',y',ex,wq,rfl⟩:=vB xs ys i d N;obtain⟨v,C,q⟩:=G.get ex;obtain⟨u,F,j⟩:=K.get wq;refine⟨⟨ws,c,v,u,l,t,C,F⟩,λy H3 ⟨p,v',u',g,ai,aj,V,W⟩=>?_⟩;have I:=V ws l;have x:=W c t;rw[C]at I;cases I;rw[F]at x;cases x;subst ai;subst aj;exact⟨Ext.fresh g,s.fresh g,.tup (jJ.of dQ) (.cons (q.ext (Ext.fresh g)) (.cons (j.ext (Ext.fresh g)) .nil))⟩
   ·rcases vz xs ys i U with z|z
    ·exact .inl (by rw[<- G.length];exact z)
    ·exact .inr (by rw[<- K.length];exact z)
  ·cases hm
end
abbrev G1:=D->Sto->Option (D×Sto)
abbrev G2:=D->D->Sto->Option (D×Sto)
abbrev G3:=D->D->D->Sto->Option (D×Sto)
def b1(f:G1):FN:=λds S=>match ds with
 |[a]=>f a S
 |_=>Y
def b2(f:G2):FN:=λds S=>match ds with
 |[a,b]=>f a b S
 |_=>Y
def b3(f:G3):FN:=λds S=>match ds with
 |[a,b,c]=>f a b c S
 |_=>Y
section
variable{X:Cx}{K:Fg1}{H:Hp}{Q:VK}
theorem ut{f:G2}{x y:V}(h:rN K (b2 f) [x,y] H Q):∃mu S d e r a,eP K H mu d x/\eP K H mu e y/\Sim K H mu S/\f d e S=Z (r,a)/\sr K mu H r a Q:=by
 obtain⟨mu,S,ds,r,a,c,i,g,hc⟩:=h;cases c with
 |cons q t=>cases t with
  |cons b t=>cases t;exact⟨mu,S,_,_,r,a,q,b,i,g,hc⟩
theorem v7{f:G1}{xs:List V}(h:rN K (b1 f) xs H Q):∃x mu S d r a,xs=[x]/\eP K H mu d x/\Sim K H mu S/\f d S=Z (r,a)/\sr K mu H r a Q:=by
 obtain⟨mu,S,ds,r,a,c,e,b,hc⟩:=h;cases c with
 |nil=>cases b
 |cons q t=>cases t with
  |nil=>exact⟨_,mu,S,_,r,a,O,q,e,b,hc⟩
  |cons g t=>cases b
theorem zy{f:G2}{xs:List V}(h:rN K (b2 f) xs H Q):∃x y mu S d e r a,xs=[x,y]/\eP K H mu d x/\eP K H mu e y/\Sim K H mu S/\f d e S=Z (r,a)/\sr K mu H r a Q:=by
 obtain⟨mu,S,ds,r,a,g,i,b,hc⟩:=h;cases g with
 |nil=>cases b
 |cons q t=>cases t with
  |nil=>cases b
  |cons c t=>cases t with
   |nil=>exact⟨_,_,mu,S,_,_,r,a,O,q,c,i,b,hc⟩
   |cons j t=>cases b
theorem sr.now{mu:List c0}{S:Sto}{d:D}{v:V}(c:sr K mu H d S Q)(r:eP K H mu d v)(s:Sim K H mu S):Q v H:=c v H mu (.refl _ _) r s
end
def eO(i j:Int):Bool:=(decide (-(2^64)<i)&&decide (i<2^64))||(decide (-(2^64)<j)&&decide (j<2^64))||(decide (i.natAbs<2^1000)&&decide (j.natAbs<2^1000))
def ee:G2:=λd e S=>match d,e with
 | .int i,.int j=>Z (.int (i+j),S)
 | .tup xs,.tup ys=>if xs.length+ys.length<=da then Z (.tup (xs++ys),S)else Y
 | .str x,.str y=>if x.length+y.length<=da then Z (.str (x++y),S)else Y
 | .ref a,.ref b=>match S[a]?,S[b]? with
  |some (.lst xs),Z (.lst ys)=>if xs.length+ys.length<=da then Z (.ref S.length,S++[.lst (xs++ys)])else Y
  |_,_=>Y
 |_,_=>Y
def gSub:G2:=λd e S=>match d,e with
 | .int i,.int j=>Z (.int (i-j),S)
 |_,_=>Y
def j1:G2:=λd e S=>match d,e with
 | .int i,.int j=>if eO i j=M then Z (.int (i*j),S)else Y
 |_,_=>Y
def ls:G2:=λd e S=>match d,e with
 | .int i,.int j=>if 0<j then Z (.int (i%j),S)else Y
 |_,_=>Y
def rE:G2:=λd e S=>match d,e with
 | .int i,.int j=>if 0<j/\j<1073741824 then Z (.int (i/j),S)else Y
 |_,_=>Y
def oe:G2:=λd e S=>match d,e with
 | .int i,.int j=>if 0<=j/\j<=1000000/\i.natAbs<2^64 then Z (.int (i^j.toNat),S)else Y
 |_,_=>Y
def og:G1:=λd S=>match d with
 | .int i=>Z (.int (-i),S)
 |_=>Y
section
variable{X:Cx}
theorem uW{i j:Int}(h:eO i j=M):IntMulOk i j:=by
 unfold eO at h;simp only[Bool.or_eq_true,bA1,af]at h;rcases h with(⟨h1,h2⟩|⟨h1,h2⟩)|⟨h1,h2⟩
 ·exact .of_left (intBits_le_64 h1 h2)
 ·exact .of_right (intBits_le_64 h1 h2)
 ·exact .of_bits (av (intBits_le h1) (by decide)) (av (intBits_le h2) (by decide))
theorem m5{f:cY->cY->Sem cY}{g:G2}{c:Int->Int->Prop}{v:Int->Int->D}(hg:∀ d e S r a,g d e S=Z (r,a) -> ∃ i j,d = .int i/\e = .int j/\c i j/\r=v i j/\a=S){b:Int->Int->V}(hv:∀i j K H mu,eP K H mu (v i j) (b i j))(ho:fY X f (rI c b)):fY X f (r2 X.K (b2 g)):=by
 intro Z8 s σ H x y u w Q I k n h;obtain⟨mu,S,d,e,r,a,l,r2,p,o,hc⟩:=ut h;obtain⟨i,j,rfl,rfl,m,rfl,rfl⟩:=hg d e S r a o;cases l;cases r2;exact ho Z8 s σ H _ _ u w Q I k n ⟨i,j,O,O,m,hc.now (hv i j _ _ _) p⟩
theorem k7{f:cY->cY->Sem cY}{g:G2}{v:Int->Int->D}(hg:∀ d e S r a,g d e S=Z (r,a) -> ∃ i j,d = .int i/\e = .int j/\r=v i j/\a=S){b:Int->Int->V}(hv:∀i j K H mu,eP K H mu (v i j) (b i j))(ho:fY X f (En b)):fY X f (r2 X.K (b2 g)):=by
 intro Z8 s σ H x y u w Q I c l h;obtain⟨mu,S,d,e,r,a,k,r2,n,m,hc⟩:=ut h;obtain⟨i,j,rfl,rfl,rfl,rfl⟩:=hg d e S r a m;cases k;cases r2;exact ho Z8 s σ H _ _ u w Q I c l ⟨i,j,O,O,hc.now (hv i j _ _ _) n⟩
theorem Ep:fY X (binaryOp .Sub) (r2 X.K (b2 gSub)):=k7 (v:=λi j=>.int (i-j)) (λd e S r a h=>by
 unfold gSub at h;split at h
 ·cases h;exact⟨_,_,O,O,O,O⟩
 ·cases h) (λ_ _ _ _ _=>.int _) F3
theorem k9:fY X (binaryOp .Mult) (r2 X.K (b2 j1)):=m5 (c:=λi j=>IntMulOk i j) (v:=λi j=>.int (i*j)) (λd e S r a h=>by
 unfold j1 at h;split at h
 ·split at h
  ·rename_i q;cases h;exact⟨_,_,O,O,uW q,O,O⟩
  ·cases h
 ·cases h) (λ_ _ _ _ _=>.int _) (Kg λ_ _ _ _ _ _ _ hc q=>mul_int q hc)
theorem mw:fY X (binaryOp .Mod) (r2 X.K (b2 ls)):=m5 (c:=λ_ j=>0<j) (v:=λi j=>.int (i%j)) (λd e S r a h=>by
 unfold ls at h;split at h
 ·split at h
  ·rename_i q;cases h;exact⟨_,_,O,O,q,O,O⟩
  ·cases h
 ·cases h) (λ_ _ _ _ _=>.int _) F5
theorem wj:fY X (binaryOp .FloorDiv) (r2 X.K (b2 rE)):=m5 (c:=J9) (v:=λi j=>.int (i/j)) (λd e S r a h=>by
 unfold rE at h;split at h
 ·split at h
  ·rename_i q;cases h;exact⟨_,_,O,O,q,O,O⟩
  ·cases h
 ·cases h) (λ_ _ _ _ _=>.int _) CN
theorem wh:fY X (binaryOp .Pow) (r2 X.K (b2 oe)):=m5 (c:=J8) (v:=λi j=>.int (i^j.toNat)) (λd e S r a h=>by
 unfold oe at h;split at h
 ·split at h
  ·rename_i q;cases h;exact⟨_,_,O,O,q,O,O⟩
  ·cases h
 ·cases h) (λ_ _ _ _ _=>.int _) F4
theorem sY:HP X (unaryOp .USub) (λx H Q=>rN X.K (b1 og) [x] H Q):=by
 intro Z8 s σ H x v Q I b h;obtain⟨j,mu,S,d,r,g,e,c,f,a,hc⟩:=v7 h;cases e;cases d with
 |int i=>cases a;cases c;exact E2 Z8 s σ H _ v Q I b ⟨i,O,hc.now (.int _) f⟩
 |_=>cases a
theorem yg{s:cZ}{prog:c5}{w:c7}{A:c6}{E:cY->cZ->Prop}{t b:c0}{ws:List cY}{Q:cY->cZ->Prop}(ht:IsTup s.heap t ([]:List cY).toArray)(hb:IsTup s.heap b ws.toArray)(h:Q (.ref b) s):
  db (model prog w) A (binaryOp .Add (.ref t) (.ref b)) Q E s:=by
 obtain⟨⟨m,p,l,o⟩,k,hc,n,i⟩:=id ht;obtain⟨⟨j,e,g,f⟩,a,d,q,c⟩:=id hb;simp only at hc i d c;subst hc i d c;exact concat_meets ⟨_,k,O⟩ ⟨_,a,O⟩ noFill_tuple_add seq_tuple_add PySem.F.slot_tuple_add PySem.F.entry_tuple_add (PySem.F.args_tuple_add_2 _ _) (tuple_addW0 t b ([]:List cY).toArray ws.toArray n q p e o f (by simp)) ⟨k,a,h⟩
theorem eu:fY X (binaryOp .Add) (r2 X.K (b2 ee)):=by
 intro Z8 s σ H x y u w Q I q t h;obtain⟨mu,S,d,e,r,P,v,r2,g,c,hc⟩:=ut h;unfold ee at c;split at c
 ·cases c;cases v;cases r2;exact F7 Z8 s σ H _ _ u w Q I q t ⟨_,_,O,O,hc.now (.int _) g⟩
 ·rename_i xs ys;split at c
  ·rename_i o;cases c;cases v with
   |tup C k=>
    cases r2 with
    |tup B m=>
     rename_i f a1 l a2;by_cases E:f=[]
     ·subst E;have:xs=[]:=by cases k;rfl
      subst this;cases q;cases t;obtain⟨A,L,N,_⟩:=I.tuple C;obtain⟨D,K,p2,_⟩:=I.tuple B;have:A=[]:=L.nil_iff.mpr O;subst this;exact yg N p2 ⟨.ref a2,H,I,O,hc.now (.tup B m) g⟩
     ·refine CO Z8 s σ H _ _ u w Q I q t ⟨a1,a2,f,l,O,O,C,B,E,by rw[<- k.length,<- m.length];exact o,λz=>?_,λz p n=>?_⟩
      ·subst z;have:ys=[]:=by cases m;rfl
       subst this;rw[aG]at hc;exact hc.now (.tup C k) g
      ·exact hc _ _ mu (Ext.fresh n) (.tup (jJ.of dQ) ((k.append m).ext (Ext.fresh n))) (g.fresh n)
  ·cases c
 ·rename_i i j;split at c
  ·rename_i o;cases c;cases v;cases r2;exact uS Z8 s σ H _ _ u w Q I q t ⟨i,j,O,O,o,hc.now (.str _) g⟩
  ·cases c
 ·rename_i a b;split at c
  ·rename_i xs ys ag eb;split at c
   ·rename_i o;cases c;cases v with
    |ref ah=>
     cases r2 with
     |ref aj=>
      obtain⟨f,F,k⟩:=g.lst ag ah;obtain⟨l,G,m⟩:=g.lst eb aj;refine F6 Z8 s σ H _ _ u w Q I q t ⟨_,_,f,l,O,O,F,G,by rw[<- k.length,<- m.length];exact o,λp n=>?_⟩;exact hc _ _ (mu++[p]) (Ext.new_ n) (.ref (gm g.len p)) (g.newL (k.append m) n)
   ·cases c
  ·cases c
 ·cases c
end
def iV(p:Int->Int->Bool):G2:=λd e S=>match d,e with
 | .int i,.int j=>Z (.bl (p i j),S)
 |_,_=>Y
section
variable{X:Cx}
theorem rF{p:Int->Int->Bool}(d e:D)(S:Sto)(r:D)(a:Sto)(h:iV p d e S=Z (r,a)):∃i j,d = .int i/\e = .int j/\r = .bl (p i j)/\a=S:=by
 unfold iV at h;split at h
 ·cases h;exact⟨_,_,O,O,O,O⟩
 ·cases h
theorem IR:fY X (compareOp .LtE) (r2 X.K (b2 (iV λi j=>decide (i<=j)))):=k7 rF (λ_ _ _ _ _=>.bl _) IK
theorem KP:fY X (compareOp .Gt) (r2 X.K (b2 (iV λi j=>decide (j<i)))):=k7 rF (λ_ _ _ _ _=>.bl _) IL
theorem KQ:fY X (compareOp .GtE) (r2 X.K (b2 (iV λi j=>decide (j<=i)))):=k7 rF (λ_ _ _ _ _=>.bl _) IM
end
def lv:D->Bool
 | .non=>M
 | .bl _=>M
 | .int _=>M
 | .str _=>M
 |_=>J
def Kl:D->D->Option Bool
 | .non,.non=>Z M
 | .bl a,.bl b=>Z (a == b)
 | .bl a,.int b=>Z ((if a then 1 else 0) == b)
 | .int a,.bl b=>Z (a == (if b then 1 else 0))
 | .int a,.int b=>Z (a == b)
 | .str a,.str b=>Z (a == b)
 |d,e=>if lv d&&lv e then Z J else Y
def A4(f:D->D->Option Bool):List D->List D->Option Bool
 |x::xs,y::ys=>(f x y).bind λb=>(A4 f xs ys).map λc=>b&&c
 |[],[]=>Z M
 |_,_=>Z J
def kx(S:Sto):Nat->D->D->Option Bool
 |0,_,_=>Y
 |n+1,d,e=>match dH S d,dH S e with
  |some p,Z q=>if p.1=q.1 then(if p.1=M/\p.2.length≠q.2.length then Z J else A4 (kx S n) p.2 q.2)else Z J
  |some _,Y=>if lv e=M then Z J else Y
  |none,Z _=>if lv d=M then Z J else Y
  |none,Y=>Kl d e
section
variable{X:Cx}{Z8:List (c0×Obj)}{σ:L2.St}{H:Hp}{s:cZ}{mu:List c0}{S:Sto}
theorem fA{K:Fg1}{d:D}{v:V}(r:eP K H mu d v)(h:lv d=M):ke v=M /\ ∀e w,eP K H mu e w->lv e=M->Kl d e=Z (uu v w):=by
 cases d with
 |non=>cases r;refine⟨O,λe w q f=>?_⟩;cases e with
  |non=>cases q;rfl
  |bl _=>cases q;rfl
  |int _=>cases q;rfl
  |str _=>cases q;rfl
  |_=>cases f
 |bl b=>cases r;refine⟨O,λe w q f=>?_⟩;cases e with
  |non=>cases q;rfl
  |bl _=>cases q;rfl
  |int _=>cases q;rfl
  |str _=>cases q;rfl
  |_=>cases f
 |int i=>cases r;refine⟨O,λe w q f=>?_⟩;cases e with
  |non=>cases q;rfl
  |bl _=>cases q;rfl
  |int _=>cases q;rfl
  |str _=>cases q;rfl
  |_=>cases f
 |str x=>cases r;refine⟨O,λe w q f=>?_⟩;cases e with
  |non=>cases q;rfl
  |bl _=>cases q;rfl
  |int _=>cases q;rfl
  |str _=>cases q;rfl
  |_=>cases f
 |_=>cases h
theorem ou{d e:D}{b:Bool}(h:Kl d e=Z b):lv d=M/\lv e=M:=by
 cases d<;>cases e<;>first|exact⟨rfl,rfl⟩|(cases h;done)|exact nomatch h|(simp[Kl,lv]at h)
theorem A2{v:V}(h:ke v=M):uu v v=M:=by
 cases v<;>first|rfl|(cases h;done)|exact beq_self_eq_true _|(simp[uu];done)
theorem tW(I:Inv X Z8 σ H s)(hs:Sim X.K H mu S):∀(n:Nat) {d e:D} {v:V} {b:Bool},eP X.K H mu d v->eP X.K H mu e v->kx S n d e=Z b->b=M
 |0,_,_,_,_,_,_,h=>by cases h
 |n + 1,d,e,v,b,y,l,h=>by
  rw[kx]at h;have g:∀{xs ys:List D} {vs:List V} {b:Bool},dD X.K H mu xs vs->dD X.K H mu ys vs->A4 (kx S n) xs ys=Z b->b=M:=by
   intro xs
   induction xs with
   |nil=>intro ys vs b B m h;cases B;cases m;cases h;rfl
   |cons x xs ih=>
    intro ys vs b B m h;cases B with
    |cons r t=>
     cases m with
     |cons ag R=>
      rw[A4]at h;obtain⟨b1,i,h⟩:=oB1.mp h;obtain⟨b2,c,h⟩:=oM1.mp h;subst h;rw[tW I hs n r ag i,ih t R c];rfl
  cases hd:dH S d with
  |some p=>
   obtain⟨C,xs⟩:=p;obtain⟨a,vs,rfl,q,t⟩:=dB y hs hd;cases he:dH S e with
   |some p2=>
    obtain⟨qb,ys⟩:=p2;obtain⟨a2,w,c,u,A⟩:=dB l hs he;cases c;rw[hd,he]at h;dsimp only at h;obtain⟨F,T,co,_⟩:=eD I q;obtain⟨E,aj,j,_⟩:=eD I u;have G:C=qb:=by
     cases C<;>cases qb
     ·rfl
     ·obtain⟨o,i,z,_⟩:=co;obtain⟨P,c,k,_⟩:=j;rw[i]at c;cases c;rw[z]at k;exact absurd k (by decide)
     ·obtain⟨o,i,z,_⟩:=co;obtain⟨P,c,k,_⟩:=j;rw[i]at c;cases c;rw[z]at k;exact absurd k (by decide)
     ·rfl
    subst G;have ah:=m3 I q u;subst ah;rw[ae O,ab (by rw[t.length,A.length];simp)]at h;exact g t A h
   |none=>
    rw[hd,he]at h;dsimp only at h;split at h
    ·rename_i f;have:=(fA l f).1;cases this
    ·cases h
  |none=>
   cases he:dH S e with
   |some p2=>
    obtain⟨qb,ys⟩:=p2;obtain⟨a2,w,c,u,A⟩:=dB l hs he;subst c;rw[hd,he]at h;dsimp only at h;split at h
    ·rename_i f;have:=(fA y f).1;cases this
    ·cases h
   |none=>
    rw[hd,he]at h;dsimp only at h;obtain⟨K,L⟩:=ou h;obtain⟨N,Q⟩:=fA y K;rw[Q e v l L]at h;cases h;exact A2 N
theorem fb{A:c6}{b:Bool}{a:c0}{its:Array cY}{v:V}{u:cY}(c:SCo b s.heap a its)(r:dG v u)(f:ke v=true)(d:A.units<cLine):
   SeqAt.EqAt A s (.ref a) u J/\SeqAt.EqAt A s u (.ref a) J/\SeqAt.RcAt A s (.ref a) u J/\SeqAt.RcAt A s u (.ref a) J:=by
 cases v with
 | non => cases r;cases b
          · exact⟨.tuple_none c d,.none_tuple c d,.tuple_none c d,.none_tuple c d⟩
          · exact⟨.list_none c d,.none_list c d,.list_none c d,.none_list c d⟩
 | bl k => cases r;cases b
           · exact⟨.tuple_bool k c d,.bool_tuple k c d,.tuple_bool k c d,.bool_tuple k c d⟩
           · exact⟨.list_bool k c d,.bool_list k c d,.list_bool k c d,.bool_list k c d⟩
 | int i => obtain ⟨t,rfl⟩:=r;cases b
            · exact⟨.tuple_int i t c d,.int_tuple i t c d,.tuple_int i t c d,.int_tuple i t c d⟩
            · exact⟨.list_int i t c d,.int_list i t c d,.list_int i t c d,.int_list i t c d⟩
 | str x => obtain ⟨t,rfl⟩:=r;cases b
            · exact⟨.tuple_str x t c d,.str_tuple x t c d,.tuple_str x t c d,.str_tuple x t c d⟩
            · exact⟨.list_str x t c d,.str_list x t c d,.list_str x t c d,.str_list x t c d⟩
 |_=>cases f
theorem Cm{A:c6}{x y:V}{u w:cY}(c:dG x u)(a:dG y w)(h:ke x=M)(d:ke y=M):SeqAt.RcAt A s u w (uu x y):=by
 cases x with
 |non=>cases c;cases y with
  |non=>cases a;exact .none_none
  |bl k=>cases a;exact .none_bool k
  |int i=>obtain⟨t,rfl⟩:=a;exact .none_int i t
  |str z=>obtain⟨t,rfl⟩:=a;exact .none_str z t
  |_=>cases d
 |bl f=>cases c;cases y with
  |non=>cases a;exact .bool_none f
  |bl k=>cases a;exact .bool_bool f k
  |int i=>obtain⟨t,rfl⟩:=a;exact .bool_int f i t
  |str z=>obtain⟨t,rfl⟩:=a;exact .bool_str f z t
  |_=>cases d
 |int e=>obtain⟨b,rfl⟩:=c;cases y with
  |non=>cases a;exact .int_none e b
  |bl k=>cases a;exact .int_bool e b k
  |int i=>obtain⟨t,rfl⟩:=a;exact .int_int e b i t
  |str z=>obtain⟨t,rfl⟩:=a;exact .int_str e b z t
  |_=>cases d
 |str g=>obtain⟨b,rfl⟩:=c;cases y with
  |non=>cases a;exact .str_none g b
  |bl k=>cases a;exact .str_bool g b k
  |int i=>obtain⟨t,rfl⟩:=a;exact .str_int g b i t
  |str z=>obtain⟨t,rfl⟩:=a;exact .str_str g b z t
  |_=>cases d
 |_=>cases h
theorem vc(f:D->D->Option Bool):∀{xs ys:List D} {b:Bool},A4 f xs ys=Z b -> ∃e:Nat->Bool,(∀j x y,xs[j]?=Z x->ys[j]?=Z y->f x y=Z (e j))/\b=((Z7 (min xs.length ys.length)).all e&&xs.length == ys.length)
 |[],[],b,h=>by cases h;exact⟨λ_=>M,λj x y h=>by simp at h,O⟩
 |[],y::ys,b,h=>by cases h;exact⟨λ_=>M,λj x y h=>by simp at h,by simp⟩
 |x::xs,[],b,h=>by cases h;exact⟨λ_=>M,λj x y h h'=>by simp at h',by simp⟩
 |x::xs,y::ys,b,h=>by
  rw[A4]at h;obtain⟨b1,d,h⟩:=oB1.mp h;obtain⟨b2,k,h⟩:=oM1.mp h;obtain⟨e,m,i⟩:=vc f k;refine⟨λj=>match j with|0=>b1|j+1=>e j,λj l g c a=>?_,?_⟩
  ·cases j with
   |zero=>simp at c a;subst c;subst a;exact d
   |succ j=>exact m j l g (by simpa using c) (by simpa using a)
  ·rw[<- h,i,lC1,lC1,Nat.succ_min_succ,List.range_succ_eq_map,bI,List.all_map];have:((xs.length+1 == ys.length+1):Bool)=(xs.length == ys.length):=by simp
   rw[this,Bool.and_assoc];rfl
theorem l7(I:Inv X Z8 σ H s)(hs:Sim X.K H mu S):∀(n:Nat) {A:c6} {d e:D} {v w:V} {u z:cY} {b:Bool},A.units+n<cLine->eP X.K H mu d v->eP X.K H mu e w->dG v u->dG w z->kx S n d e=Z b->SeqAt.EqAt A s u z b/\SeqAt.RcAt A s u z b
 |0,_,_,_,_,_,_,_,_,_,_,_,_,_,h=>by cases h
 |n + 1,A,d,e,v,w,u,z,b,hu,P,o,N,C,h=>by
  have i:A.units<cLine:=by lia
  have h0:=h;rw[kx]at h;cases hd:dH S d with
  |some p=>
   obtain⟨T,xs⟩:=p;obtain⟨a,vs,rfl,q,t⟩:=dB P hs hd;obtain⟨k,aj,co,_⟩:=eD I q;cases N;cases he:dH S e with
   |some p2=>
    obtain⟨qb,ys⟩:=p2;obtain⟨a2,G,rfl,W,Q⟩:=dB o hs he;obtain⟨c,m,g,_⟩:=eD I W;cases C;rw[hd,he]at h;dsimp only at h;have l:SeqAt.RcAt A s (.ref a) (.ref a2) b->SeqAt.EqAt A s (.ref a) (.ref a2) b/\SeqAt.RcAt A s (.ref a) (.ref a2) b:=λrc=>by
     refine⟨?_,rc⟩;by_cases ha:a=a2
     ·subst ha;rw[tW I hs (n+1) P o h0];exact .same _
     ·exact .of_refs ha rc
    split at h
    ·rename_i ah;have hb':T=qb:=ah;subst hb';split at h
     ·rename_i wq;cases h;obtain⟨h1,h2⟩:=wq;subst h1;refine l (.lists_lengths co g ?_ i);have l1:=t.length;have l2:=Q.length;have l3:=aj.length;have l4:=m.length
      simp only[sT1,bne_iff_ne,ne_eq];lia
     ·rename_i wq;obtain ⟨f,hf,L⟩:=vc _ h;have elts:∀ j (h1:j<k.toArray.size) (h2:j<c.toArray.size),SeqAt.EqAt A.in1 s k.toArray[j] c.toArray[j] (f j):=fun j h1 h2=>by
       have F:j<k.length:=by simpa using h1
       have K:j<c.length:=by simpa using h2
       have k1:j<vs.length:=by rw[aj.length];exact F
       have k2:j<G.length:=by rw[m.length];exact K
       obtain⟨x,ex,rx⟩:=t.getV (gG1 k1);obtain⟨y,ey,ry⟩:=Q.getV (gG1 k2);obtain⟨u1,ag,R⟩:=aj.get (gG1 k1);obtain⟨u2,E,U⟩:=m.get (gG1 k2);have r:k.toArray[j]=u1:=by
        rw[gG1 F]at ag;simpa using ag
       have ai:c.toArray[j]=u2:=by
        rw[gG1 K]at E;simpa using E
       rw[r,ai];exact(l7 I hs n (A:=A.in1) (by show A.units+1+n<cLine;lia) rx ry R U (hf j x y ex ey)).1
      have l1:=t.length;have l2:=Q.length;have l3:=aj.length;have l4:=m.length
      cases T with
      |false=>
       refine l ?_;have:=SeqAt.RcAt.tuples co g i elts;rw[L];have r:k.toArray.size=xs.length:=by simp;lia
       have ai:c.toArray.size=ys.length:=by simp;lia
       rw[r,ai]at this;exact this
      |true=>
       refine l ?_;have B:xs.length=ys.length:=by
        by_cases z:xs.length=ys.length
        ·exact z
        ·exact absurd ⟨O,z⟩ wq
       have:=SeqAt.RcAt.lists co g (by simp;lia) i elts;rw[L];have r:k.toArray.size=xs.length:=by simp;lia
       rw[r]at this;rw[B,Nat.min_self,beq_self_eq_true,bF,<- B];exact this
    ·rename_i ah;cases h;cases T with
     |true=>
      cases qb with
      |true=>exact absurd O ah
      |false=>exact⟨.list_tuple co g i,.list_tuple co g i⟩
     |false=>
      cases qb with
      |false=>exact absurd O ah
      |true=>exact⟨.tuple_list co g i,.tuple_list co g i⟩
   |none=>
    rw[hd,he]at h;dsimp only at h;split at h
    ·rename_i f;cases h;obtain⟨r1,r2,r3,r4⟩:=fb co C (fA o f).1 i;exact⟨r1,r3⟩
    ·cases h
  |none=>
   cases he:dH S e with
   |some p2=>
    obtain⟨qb,ys⟩:=p2;obtain⟨a2,G,rfl,W,Q⟩:=dB o hs he;obtain⟨c,m,g,_⟩:=eD I W;cases C;rw[hd,he]at h;dsimp only at h;split at h
    ·rename_i f;cases h;obtain⟨r1,r2,r3,r4⟩:=fb g N (fA P f).1 i;exact⟨r2,r4⟩
    ·cases h
   |none=>
    rw[hd,he]at h;dsimp only at h;obtain⟨f1,f2⟩:=ou h;obtain⟨g1,g2⟩:=fA P f1;have g3:=(fA o f2).1;rw[g2 e w o f2]at h;cases h;exact⟨ky N C g1 g3,Cm N C g1 g3⟩
end
def dV:Nat:=60
def gEq:G2:=λd e S=>(kx S dV d e).map λb=>(.bl b,S)
section
variable{X:Cx}
theorem iC(l:X.A.units+64<cLine):fY X (compareOp .Eq) (r2 X.K (b2 gEq)):=by
 intro Z8 s σ H x y u w Q I f j h;obtain⟨mu,S,d,e,r,k,i,r2,c,a,hc⟩:=ut h;obtain⟨b,g,a⟩:=oM1.mp a;cases a;exact(l7 I c dV (by show _+60<cLine;lia) i r2 f j g).2 X.prog X.w X.xe _ ⟨.bl b,H,I,O,hc.now (.bl b) c⟩
end
section
variable{X:Cx}{Z8:List (c0×Obj)}{σ:L2.St}{H:Hp}{s:cZ}{mu:List c0}{S:Sto}
theorem CT{A:c6}{x y:V}{u w:cY}(c:dG x u)(a:dG y w)(h:ke x=M)(d:ke y=M):SeqAt.RcNeAt A s u w (!uu x y):=by
 cases x with
 |non=>cases c;cases y with
  |non=>cases a;exact .none_none
  |bl k=>cases a;exact .none_bool k
  |int i=>obtain⟨t,rfl⟩:=a;exact .none_int i t
  |str z=>obtain⟨t,rfl⟩:=a;exact .none_str z t
  |_=>cases d
 |bl f=>cases c;cases y with
  |non=>cases a;exact .bool_none f
  |bl k=>cases a;exact .bool_bool f k
  |int i=>obtain⟨t,rfl⟩:=a;exact .bool_int f i t
  |str z=>obtain⟨t,rfl⟩:=a;exact .bool_str f z t
  |_=>cases d
 |int e=>obtain⟨b,rfl⟩:=c;cases y with
  |non=>cases a;exact .int_none e b
  |bl k=>cases a;exact .int_bool e b k
  |int i=>obtain⟨t,rfl⟩:=a;exact .int_int e b i t
  |str z=>obtain⟨t,rfl⟩:=a;exact .int_str e b z t
  |_=>cases d
 |str g=>obtain⟨b,rfl⟩:=c;cases y with
  |non=>cases a;exact .str_none g b
  |bl k=>cases a;exact .str_bool g b k
  |int i=>obtain⟨t,rfl⟩:=a;exact .str_int g b i t
  |str z=>obtain⟨t,rfl⟩:=a;exact .str_str g b z t
  |_=>cases d
 |_=>cases h
theorem mx{A:c6}{b:Bool}{a:c0}{its:Array cY}{v:V}{u:cY}(c:SCo b s.heap a its)(r:dG v u)(f:ke v=M)(d:A.units<cLine):SeqAt.RcNeAt A s (.ref a) u M/\SeqAt.RcNeAt A s u (.ref a) M:=by
 cases v with
 | non => cases r;cases b
          · exact⟨.tuple_none c d,.none_tuple c d⟩
          · exact⟨.list_none c d,.none_list c d⟩
 | bl k => cases r;cases b
           · exact⟨.tuple_bool k c d,.bool_tuple k c d⟩
           · exact⟨.list_bool k c d,.bool_list k c d⟩
 | int i => obtain ⟨t,rfl⟩:=r;cases b
            · exact⟨.tuple_int i t c d,.int_tuple i t c d⟩
            · exact⟨.list_int i t c d,.int_list i t c d⟩
 | str x => obtain ⟨t,rfl⟩:=r;cases b
            · exact⟨.tuple_str x t c d,.str_tuple x t c d⟩
            · exact⟨.list_str x t c d,.str_list x t c d⟩
 |_=>cases f
theorem Ge(I:Inv X Z8 σ H s)(hs:Sim X.K H mu S)(n:Nat){A:c6}{d e:D}{v w:V}{u z:cY}{b:Bool}(hu:A.units+n<cLine)(W:eP X.K H mu d v)(F:eP X.K H mu e w)(R:dG v u)(L:dG w z)(h:kx S n d e=Z b):SeqAt.RcNeAt A s u z (!b):=by
 cases n with
 |zero=>cases h
 |succ n=>
  have i:A.units<cLine:=by lia
  rw[kx]at h;cases hd:dH S d with
  |some p=>
   obtain⟨N,xs⟩:=p;obtain⟨a,vs,rfl,q,t⟩:=dB W hs hd;obtain⟨k,U,co,_⟩:=eD I q;cases R;cases he:dH S e with
   |some p2=>
    obtain⟨qb,ys⟩:=p2;obtain⟨a2,C,rfl,P,wq⟩:=dB F hs he;obtain⟨c,l,g,_⟩:=eD I P;cases L;rw[hd,he]at h;dsimp only at h;have l1:=t.length;have l2:=wq.length;have l3:=U.length;have l4:=l.length
    split at h
    ·rename_i K;have ai:N=qb:=K;subst ai;split at h
     ·rename_i T;cases h;obtain⟨h1,h2⟩:=T;subst h1;refine .lists_lengths co g ?_ i;simp only[sT1,bne_iff_ne,ne_eq];lia
     ·rename_i T;obtain ⟨f,hf,ag⟩:=vc _ h;have elts:∀ j (h1:j<k.toArray.size) (h2:j<c.toArray.size),SeqAt.EqAt A.in1 s k.toArray[j] c.toArray[j] (f j):=fun j h1 h2=>by
       have B:j<k.length:=by simpa using h1
       have G:j<c.length:=by simpa using h2
       have k1:j<vs.length:=by rw[U.length];exact B
       have k2:j<C.length:=by rw[l.length];exact G
       obtain⟨x,ex,rx⟩:=t.getV (gG1 k1);obtain⟨y,ey,ry⟩:=wq.getV (gG1 k2);obtain⟨u1,E,ah⟩:=U.get (gG1 k1);obtain⟨u2,r,aj⟩:=l.get (gG1 k2);have m:k.toArray[j]=u1:=by
        rw[gG1 B]at E;simpa using E
       have Q:c.toArray[j]=u2:=by
        rw[gG1 G]at r;simpa using r
       rw[m,Q];exact(l7 I hs n (A:=A.in1) (by show A.units+1+n<cLine;lia) rx ry ah aj (hf j x y ex ey)).1
      cases N with
      |false=>
       have:=SeqAt.RcNeAt.tuples co g i elts;rw[ag];have m:k.toArray.size=xs.length:=by simp;lia
       have Q:c.toArray.size=ys.length:=by simp;lia
       rw[m,Q]at this;exact this
      |true=>
       have o:xs.length=ys.length:=by
        by_cases z:xs.length=ys.length
        ·exact z
        ·exact absurd ⟨O,z⟩ T
       have:=SeqAt.RcNeAt.lists co g (by simp;lia) i elts;rw[ag];have m:k.toArray.size=xs.length:=by simp;lia
       rw[m]at this;rw[o,Nat.min_self,beq_self_eq_true,bF,<- o];exact this
    ·rename_i K;cases h;cases N with
     |true=>
      cases qb with
      |true=>exact absurd O K
      |false=>exact .list_tuple co g i
     |false=>
      cases qb with
      |false=>exact absurd O K
      |true=>exact .tuple_list co g i
   |none=>
    rw[hd,he]at h;dsimp only at h;split at h
    ·rename_i f;cases h;exact(mx co L (fA F f).1 i).1
    ·cases h
  |none=>
   cases he:dH S e with
   |some p2=>
    obtain⟨qb,ys⟩:=p2;obtain⟨a2,C,rfl,P,wq⟩:=dB F hs he;obtain⟨c,l,g,_⟩:=eD I P;cases L;rw[hd,he]at h;dsimp only at h;split at h
    ·rename_i f;cases h;exact(mx g R (fA W f).1 i).2
    ·cases h
   |none=>
    rw[hd,he]at h;dsimp only at h;obtain⟨f1,f2⟩:=ou h;obtain⟨g1,g2⟩:=fA W f1;have g3:=(fA F f2).1;rw[g2 e w F f2]at h;cases h;exact CT R L g1 g3
end
def gNe:G2:=λd e S=>(kx S dV d e).map λb=>(.bl (!b),S)
def BK(f:D->D->Option Bool)(x:D):List D->Option Bool
 |[]=>Z J
 |y::ys=>(f y x).bind λb=>(BK f x ys).map λc=>b||c
def HN:G2:=λd e S=>(dH S e).bind λp=>(BK (kx S dV) d p.2).map λb=>(.bl b,S)
def l0:G2:=λd e S=>(dH S e).bind λp=>(BK (kx S dV) d p.2).map λb=>(.bl (!b),S)
section
variable{X:Cx}
theorem oX(l:X.A.units+64<cLine):fY X (compareOp .NotEq) (r2 X.K (b2 gNe)):=by
 intro Z8 s σ H x y u w Q I f j h;obtain⟨mu,S,d,e,r,k,i,r2,c,a,hc⟩:=ut h;obtain⟨b,g,a⟩:=oM1.mp a;cases a;exact Ge I c dV (by show _+60<cLine;lia) i r2 f j g X.prog X.w X.xe _ ⟨.bl (!b),H,I,O,hc.now (.bl _) c⟩
theorem AS(f:D->D->Option Bool)(x:D):∀{ys:List D} {b:Bool},BK f x ys=Z b -> ∃bs:List Bool,bs.length=ys.length/\(∀(j:Nat) (y:D) (k:Bool),ys[j]?=Z y->bs[j]?=Z k->f y x=Z k)/\b=bs.any id
 |[],b,h=>by cases h;exact⟨[],O,λj y k h=>by simp at h,O⟩
 |y::ys,b,h=>by
  rw[BK]at h;obtain⟨b1,e,h⟩:=oB1.mp h;obtain⟨b2,l,h⟩:=oM1.mp h;obtain⟨bs,m,i,a⟩:=AS f x l;refine⟨b1::bs,by simp[m],λj g k d c=>?_,?_⟩
  ·cases j with
   |zero=>simp at d c;subst d;subst c;exact e
   |succ j=>exact i j g k (by simpa using d) (by simpa using c)
  ·rw[<- h,a];simp
open Classical in
theorem EC{Z8:List (c0×Obj)}{σ:L2.St}{H:Hp}{s:cZ}{mu:List c0}{S:Sto}(I:Inv X Z8 σ H s)(hs:Sim X.K H mu S){A:c6}(ag:A.units+61<cLine){x:D}{v:V}{u:cY}(C:eP X.K H mu x v)(B:dG v u){ys:List D}{vs:List V}{a:List cY}{b:Bool}(q:dD X.K H mu ys vs)(p:dR vs a)(h:BK (kx S dV) x ys=Z b):∃e:cY->Bool,(∀w∈a,SeqAt.EqAt A.in1 s w u (e w))/\a.any e=b:=by
 obtain⟨bs,K,r,rfl⟩:=AS _ x h;have G:=q.length;have L:=p.length;have at_:∀(j:Nat) w k,a[j]?=Z w->bs[j]?=Z k->SeqAt.EqAt A.in1 s w u k:=λj w k g f=>by
  have n:j<a.length:=(gE1.mp g).1;obtain⟨y,E,F⟩:=q.getV (i:=j) (v:=vs[j]'(by lia)) (gG1 (by lia));obtain⟨ah,o,r2⟩:=p.get (i:=j) (x:=vs[j]'(by lia)) (gG1 (by lia));rw[g]at o;cases o;exact(l7 I hs dV (A:=A.in1) (by show A.units+1+60<cLine;lia) F C r2 B (r j y k E f)).1
 refine⟨λw=>decide (∃j:Nat,a[j]?=Z w/\bs[j]?=Z M),λw g=>?_,?_⟩
 ·by_cases z:∃j:Nat,a[j]?=Z w/\bs[j]?=Z M
  ·dsimp only;rw[Z9 z];obtain⟨j,m,c⟩:=z;exact at_ j w M m c
  ·dsimp only;rw[aa z];obtain⟨j,d⟩:=bi g;have n:j<a.length:=(gE1.mp d).1;have l:j<bs.length:=by lia
   have c:=gG1 l;cases f:bs[j]with
   |true=>rw[f]at c;exact absurd ⟨j,d,c⟩ z
   |false=>rw[f]at c;exact at_ j w J d c
 ·rw[bJ,bK,bK];constructor
  ·rintro⟨w,g,z⟩;obtain⟨j,m,c⟩:=of_decide_eq_true z;exact⟨M,gM1 c,O⟩
  ·rintro⟨k,f,z⟩;obtain⟨j,d⟩:=bi f;have n:j<bs.length:=(gE1.mp d).1;have l:j<a.length:=by lia
   have t:k=M:=z;subst t;exact⟨a[j],bL l,Z9 ⟨j,gG1 l,d⟩⟩
theorem KO(E:X.A.units+64<cLine):fY X (compareOp .In) (r2 X.K (b2 HN)):=by
 intro Z8 s σ H x y u w Q I n B h;obtain⟨mu,S,d,e,r,D,v,r2,k,i,hc⟩:=ut h;obtain⟨⟨m,ys⟩,o,i⟩:=oB1.mp i;obtain⟨b,z,i⟩:=oM1.mp i;cases i;obtain⟨a,vs,rfl,q,t⟩:=dB r2 k o;cases B;obtain⟨c,C,co,_⟩:=eD I q;obtain⟨f,l,p⟩:=EC I k (A:=X.A) (by lia) v n t C z;have g:EP X Z8 σ Q (.bool (c.toArray.any f)) s:=⟨.bl b,H,I,by rw[show c.toArray.any f=c.any f by simp,p];rfl,hc.now (.bl b) k⟩;cases m
 ·exact SeqAt.in_tupleAt f co (λy j=>l y (by simpa using j)) g
 ·exact SeqAt.in_listAt f co (λy j=>l y (by simpa using j)) g
theorem CQ(E:X.A.units+64<cLine):fY X (compareOp .NotIn) (r2 X.K (b2 l0)):=by
 intro Z8 s σ H x y u w Q I n B h;obtain⟨mu,S,d,e,r,D,v,r2,k,i,hc⟩:=ut h;obtain⟨⟨m,ys⟩,o,i⟩:=oB1.mp i;obtain⟨b,z,i⟩:=oM1.mp i;cases i;obtain⟨a,vs,rfl,q,t⟩:=dB r2 k o;cases B;obtain⟨c,C,co,_⟩:=eD I q;obtain⟨f,l,p⟩:=EC I k (A:=X.A) (by lia) v n t C z;have g:EP X Z8 σ Q (.bool (!c.toArray.any f)) s:=⟨.bl (!b),H,I,by rw[show c.toArray.any f=c.any f by simp,p];rfl,hc.now (.bl _) k⟩;cases m
 ·exact SeqAt.notIn_tupleAt f co (λy j=>l y (by simpa using j)) g
 ·exact SeqAt.notIn_listAt f co (λy j=>l y (by simpa using j)) g
end
def dN:G1:=λd S=>match d with
 | .str x=>if x.length<=da then Z (.int x.length,S)else Y
 |_=>(dH S d).map λp=>(.int p.2.length,S)
def BN:G2:=λd e S=>match e with
 | .int i=>(dH S d).bind λp=>(vo p.2 i).map λx=>(x,S)
 |_=>Y
def gTup:G1:=λd S=>(dH S d).map λp=>(.tup p.2,S)
def rB:G1:=λd S=>(dH S d).map λp=>(.ref S.length,S++[.lst p.2])
def ku:G3:=λo i v S=>match o,i with
 | .ref n,.int k=>match S[n]? with
  |some (.lst xs)=>(xT xs.length k).map λj=>(.non,S.set n (.lst (xs.set j v)))
  |_=>Y
 |_,_=>Y
def Bx:List D->Option Bool
 |[]=>Z M
 | .bl b::r=>(Bx r).map λc=>b&&c
 |_=>Y
def Bt:List D->Option Bool
 |[]=>Z J
 | .bl b::r=>(Bt r).map λc=>b||c
 |_=>Y
def rG:G1:=λd S=>(dH S d).bind λp=>(Bx p.2).map λb=>(.bl b,S)
def DM:G1:=λd S=>(dH S d).bind λp=>(Bt p.2).map λb=>(.bl b,S)
def oY:G1:=λd S=>match d with
 | .int i=>Z (.int i,S)
 | .bl b=>Z (.int (if b then 1 else 0),S)
 |_=>Y
def DF:G2:=λd e S=>match d,e with
 | .int i,.int j=>Z (.int (if j>i then j else i),S)
 |_,_=>Y
def u6:G2:=λd e S=>match d,e with
 | .int i,.int j=>Z (.int (if j<i then j else i),S)
 |_,_=>Y
section
variable{X:Cx}
theorem d9:eh X (.builtin "len") (rN X.K (b1 dN)):=by
 intro Z8 s σ H xs g Q I r h;obtain⟨x,mu,S,d,l,k,rfl,f,e,c,hc⟩:=v7 h;unfold dN at c;split at c
 ·split at c
  ·rename_i z j;cases c;cases f;exact rX Z8 s σ H _ g Q I r ⟨_,O,j,hc.now (.int _) e⟩
  ·cases c
 ·obtain⟨⟨b,ys⟩,i,c⟩:=oM1.mp c;cases c;obtain⟨a,vs,rfl,q,t⟩:=dB f e i;refine rY Z8 s σ H _ g Q I r ⟨a,vs,O,?_,?_⟩
  ·cases b
   ·exact .inr q
   ·exact .inl q
  ·rw[<- t.length];exact hc.now (.int _) e
theorem D2{K:Fg1}{H:Hp}{mu:List c0}{ds:List D}{vs:List V}{i:Int}{d:D}(t:dD K H mu ds vs)(h:vo ds i=Z d):∃v,vo vs i=Z v/\eP K H mu d v:=by
 unfold vo at h ⊢;rw[<- t.length];obtain⟨j,b,h⟩:=oB1.mp h;obtain⟨v,a,c⟩:=t.get h;exact⟨v,by rw[b];exact a,c⟩
theorem Ko:EV X (r2 X.K (b2 BN)):=by
 intro value c Z8 s σ H x y v u Q I k m h g;obtain⟨mu,S,d,e,r,B,w,r2,j,f,hc⟩:=ut h;cases e with
 |int i=>
  obtain⟨⟨b,ys⟩,p,f⟩:=oB1.mp f;obtain⟨z,A,f⟩:=oM1.mp f;cases f;cases r2;obtain⟨a,vs,rfl,q,t⟩:=dB w j p;obtain⟨l,o,n⟩:=D2 t A;cases b
  ·exact GZ value c Z8 s σ H _ _ v u Q I k m ⟨a,vs,i,l,O,O,q,o,hc.now n j⟩ g
  ·exact Ds value c Z8 s σ H _ _ v u Q I k m ⟨a,vs,i,l,O,O,q,o,hc.now n j⟩ g
 |_=>cases f
theorem fP:eh X (.type "tuple") (rN X.K (b1 gTup)):=by
 intro Z8 s σ H xs j Q I r h;obtain⟨x,mu,S,d,m,k,rfl,i,f,e,hc⟩:=v7 h;obtain⟨⟨b,ys⟩,g,e⟩:=oM1.mp e;cases e;obtain⟨a,vs,rfl,q,t⟩:=dB i f g;refine o4 Z8 s σ H _ j Q I r ⟨a,vs,O,?_⟩;cases b
 ·exact .inr ⟨q,hc.now (.tup q t) f⟩
 ·exact .inl ⟨q,λl c=>hc _ _ mu (Ext.fresh c) (.tup (jJ.of dQ) (t.ext (Ext.fresh c))) (f.fresh c)⟩
theorem vm:eh X (.type "list") (rN X.K (b1 rB)):=by
 intro Z8 s σ H xs j Q I r h;obtain⟨x,mu,S,d,m,k,rfl,i,e,c,hc⟩:=v7 h;obtain⟨⟨b,ys⟩,g,c⟩:=oM1.mp c;cases c;obtain⟨a,vs,rfl,q,t⟩:=dB i e g;refine rW Z8 s σ H _ j Q I r ⟨a,vs,O,?_,λl f=>hc _ _ (mu++[l]) (Ext.new_ f) (.ref (gm e.len l)) (e.newL t f)⟩;cases b
 ·exact .inr q
 ·exact .inl q
theorem Ip:vx X (rU X.K (b3 ku)):=by
 intro Z8 s σ H o i v A g u Q I m r z h;obtain⟨mu,S,ds,d,D,y,f,a,hc⟩:=h;cases y with
 |cons w l=>cases l with
  |cons p C=>cases C with
   |cons q B=>
    cases B;rename_i F E G;dsimp only[b3]at a;unfold ku at a;split at a
    ·rename_i n k;split at a
     ·rename_i xs e;obtain⟨j,x,a⟩:=oM1.mp a;cases a;cases w with
      |ref c=>
       cases p;obtain⟨vs,b,t⟩:=f.lst e c;refine zq Z8 s σ H _ _ v A g u Q I m r z ⟨_,vs,k,j,O,O,b,by rw[<- t.length];exact x,?_⟩;exact hc _ mu (Ext.put b trivial (gM1 c)) (f.putL (t.set q j) c b)
     ·cases a
    ·cases a
theorem D5{K:Fg1}{H:Hp}{mu:List c0}:∀{ds:List D} {vs:List V} {a:List cY} {b:Bool},dD K H mu ds vs->dR vs a->Bx ds=Z b -> ∃bs:List Bool,a=bs.map Value.bool/\b=bs.all id:=by
 intro ds
 induction ds with
 |nil=>intro vs a b r v h;cases r;cases v;cases h;exact⟨[],O,O⟩
 |cons d ds ih=>
  intro vs a b r v h;cases r with
  |cons g t=>
   cases v with
   |cons r j=>
    cases g
    case bl k=>
     obtain⟨c,e,h⟩:=oM1.mp h;obtain⟨bs,f,i⟩:=ih t j e;cases r;exact⟨k::bs,by rw[f];rfl,by rw[<- h,i];rfl⟩
    all_goals cases h
theorem D3{K:Fg1}{H:Hp}{mu:List c0}:∀{ds:List D} {vs:List V} {a:List cY} {b:Bool},dD K H mu ds vs->dR vs a->Bt ds=Z b -> ∃bs:List Bool,a=bs.map Value.bool/\b=bs.any id:=by
 intro ds
 induction ds with
 |nil=>intro vs a b r v h;cases r;cases v;cases h;exact⟨[],O,O⟩
 |cons d ds ih=>
  intro vs a b r v h;cases r with
  |cons g t=>
   cases v with
   |cons r j=>
    cases g
    case bl k=>
     obtain⟨c,e,h⟩:=oM1.mp h;obtain⟨bs,f,i⟩:=ih t j e;cases r;exact⟨k::bs,by rw[f];rfl,by rw[<- h,i];rfl⟩
    all_goals cases h
theorem pi(bs:List Bool):(Z7 bs.length).all (λi=>bs.getD i M)=bs.all id:=by
 rw[bJ,br,br];constructor
 ·intro h b c;obtain⟨i,hi,rfl⟩:=List.mem_iff_getElem.mp c;have:=h i (au.mpr hi);simpa[bC,hi]using this
 ·intro h i hi;have a:=au.mp hi;have:=h _ (bL a);simpa[bC,a]using this
theorem ph(bs:List Bool):(Z7 bs.length).any (λi=>bs.getD i M)=bs.any id:=by
 rw[bJ,bK,bK];constructor
 ·rintro⟨i,hi,h⟩;have a:=au.mp hi;exact⟨bs[i],bL a,by simpa[bC,a]using h⟩
 ·rintro⟨b,c,h⟩;obtain⟨i,hi,rfl⟩:=List.mem_iff_getElem.mp c;exact⟨i,au.mpr hi,by simpa[bC,hi]using h⟩
theorem uC{s:cZ}{b:Bool}{a:c0}{bs:List Bool}(hc:X.A.handled=Y)(co:SCo b s.heap a (bs.map Value.bool).toArray){Q:cY->cZ->Prop}(all:∀h' tk,(∀c o,s.heap.get? c=Z o->h'.get? c=Z o)->Q (.bool (bs.all id)) {s with heap:=h',toks:=tk}):db (model X.prog X.w) X.A (call (.builtin "all") [.ref a]) Q X.xe s:=by
 refine call_all_walk (iz co ?_);have g:a<s.heap.objs.size:=by cases b<;>(obtain⟨o,e,_⟩:=co;exact hL1 e)
 have ne:a≠s.heap.objs.size:=nN1 g;have j:TruthOf X.prog X.w X.A.in1 (λi v=>(bs.map Value.bool).toArray[i]?=Z v) (λi=>bs.getD i M):=λi v s' p n l h=>by
  have f:(bs.map Value.bool)[i]?=Z v:=by simpa using l
  rw[gP1]at f;obtain⟨k,m,rfl⟩:=oM1.mp f;dsimp only at h;rw[bC,m]at h;exact wpAny_truthy_bool h
 have keep:∀(h':de),(∀c o,c∉[s.heap.objs.size]->(s.heap.push (fz b a)).get? c=Z o->h'.get? c=Z o) -> ∀c o,s.heap.get? c=Z o->h'.get? c=Z o:=λh' d c o e=>
  d c o (by simpa using nN1 (hL1 e)) (hP1 _ e)
 have hi:(s.heap.push (fz b a)).get? s.heap.objs.size=Z (fz b a):=hS1 _ (by cases b<;>rfl);cases b with
 |true=>
  refine⟨s.heap.objs.size,_,_,_,_,_,_,O,Walks.list (A:=X.A.in1) hc s.heap.objs.size a ne (bs.map Value.bool).toArray,⟨⟨_,hi,O,O⟩,SCo.to (b:=M) co λo e=>hP1 _ e⟩,j,λh' tk d=>?_⟩;have e:(bs.map Value.bool).toArray.size=bs.length:=by simp
  rw[e,pi];exact all h' tk (keep h' d)
 |false=>
  refine⟨s.heap.objs.size,_,_,_,_,_,_,O,Walks.tuple (A:=X.A.in1) hc s.heap.objs.size a ne (bs.map Value.bool).toArray,⟨⟨_,hi,O,O⟩,SCo.to (b:=J) co λo e=>hP1 _ e⟩,j,λh' tk d=>?_⟩;have e:(bs.map Value.bool).toArray.size=bs.length:=by simp
  rw[e,pi];exact all h' tk (keep h' d)
theorem walk_bools'{s:cZ}{b:Bool}{a:c0}{bs:List Bool}(hc:X.A.handled=Y)(co:SCo b s.heap a (bs.map Value.bool).toArray){Q:cY->cZ->Prop}(all:∀h' tk,(∀c o,s.heap.get? c=Z o->h'.get? c=Z o)->Q (.bool (bs.any id)) {s with heap:=h',toks:=tk}):db (model X.prog X.w) X.A (call (.builtin "any") [.ref a]) Q X.xe s:=by
 refine call_any_walk (iz co ?_);have g:a<s.heap.objs.size:=by cases b<;>(obtain⟨o,e,_⟩:=co;exact hL1 e)
 have ne:a≠s.heap.objs.size:=nN1 g;have j:TruthOf X.prog X.w X.A.in1 (λi v=>(bs.map Value.bool).toArray[i]?=Z v) (λi=>bs.getD i M):=λi v s' p n l h=>by
  have f:(bs.map Value.bool)[i]?=Z v:=by simpa using l
  rw[gP1]at f;obtain⟨k,m,rfl⟩:=oM1.mp f;dsimp only at h;rw[bC,m]at h;exact wpAny_truthy_bool h
 have keep:∀(h':de),(∀c o,c∉[s.heap.objs.size]->(s.heap.push (fz b a)).get? c=Z o->h'.get? c=Z o) -> ∀c o,s.heap.get? c=Z o->h'.get? c=Z o:=λh' d c o e=>
  d c o (by simpa using nN1 (hL1 e)) (hP1 _ e)
 have hi:(s.heap.push (fz b a)).get? s.heap.objs.size=Z (fz b a):=hS1 _ (by cases b<;>rfl);cases b with
 |true=>
  refine⟨s.heap.objs.size,_,_,_,_,_,_,O,Walks.list (A:=X.A.in1) hc s.heap.objs.size a ne (bs.map Value.bool).toArray,⟨⟨_,hi,O,O⟩,SCo.to (b:=M) co λo e=>hP1 _ e⟩,j,λh' tk d=>?_⟩;have e:(bs.map Value.bool).toArray.size=bs.length:=by simp
  rw[e,ph];exact all h' tk (keep h' d)
 |false=>
  refine⟨s.heap.objs.size,_,_,_,_,_,_,O,Walks.tuple (A:=X.A.in1) hc s.heap.objs.size a ne (bs.map Value.bool).toArray,⟨⟨_,hi,O,O⟩,SCo.to (b:=J) co λo e=>hP1 _ e⟩,j,λh' tk d=>?_⟩;have e:(bs.map Value.bool).toArray.size=bs.length:=by simp
  rw[e,ph];exact all h' tk (keep h' d)
theorem EN(hc:X.calm=M):eh X (.builtin "all") (rN X.K (b1 rG)):=by
 intro Z8 s σ H xs v Q I r h;obtain⟨x,mu,S,d,w,p,rfl,l,f,c,e⟩:=v7 h;obtain⟨⟨b,ys⟩,g,c⟩:=oB1.mp c;obtain⟨k,m,c⟩:=oM1.mp c;cases c;obtain⟨a,vs,rfl,q,t⟩:=dB l f g;obtain⟨u,rfl,n⟩:=gU r;cases n;obtain⟨j,o,co,_⟩:=eD I q;obtain⟨bs,rfl,rfl⟩:=D5 t o m;exact uC (I.ok.hd hc) co λh' tk i=>⟨.bl _,H,I.kept i,O,e.now (.bl _) f⟩
theorem JM(hc:X.calm=M):eh X (.builtin "any") (rN X.K (b1 DM)):=by
 intro Z8 s σ H xs v Q I r h;obtain⟨x,mu,S,d,w,p,rfl,l,f,c,e⟩:=v7 h;obtain⟨⟨b,ys⟩,g,c⟩:=oB1.mp c;obtain⟨k,m,c⟩:=oM1.mp c;cases c;obtain⟨a,vs,rfl,q,t⟩:=dB l f g;obtain⟨u,rfl,n⟩:=gU r;cases n;obtain⟨j,o,co,_⟩:=eD I q;obtain⟨bs,rfl,rfl⟩:=D3 t o m;exact walk_bools' (I.ok.hd hc) co λh' tk i=>⟨.bl _,H,I.kept i,O,e.now (.bl _) f⟩
theorem ug:eh X (.type "int") (rN X.K (b1 oY)):=by
 intro Z8 s σ H xs e Q I r h;obtain⟨x,mu,S,d,j,g,rfl,c,f,a,hc⟩:=v7 h;cases d with
 |int i=>cases a;cases c;exact pR Z8 s σ H _ e Q I r (.inl ⟨i,O,hc.now (.int _) f⟩)
 |bl b=>cases a;cases c;exact pR Z8 s σ H _ e Q I r (.inr ⟨b,O,hc.now (.int _) f⟩)
 |_=>cases a
theorem JL(hc:X.calm=M):eh X (.builtin "max") (rN X.K (b2 DF)):=by
 intro Z8 s σ H xs f Q I r h;obtain⟨x,y,mu,S,d,e,j,i,rfl,c,r2,g,a,b⟩:=zy h;unfold DF at a;split at a
 ·cases a;cases c;cases r2;exact yn hc Z8 s σ H _ f Q I r ⟨_,_,O,b.now (.int _) g⟩
 ·cases a
theorem EM(hc:X.calm=M):eh X (.builtin "min") (rN X.K (b2 u6)):=by
 intro Z8 s σ H xs f Q I r h;obtain⟨x,y,mu,S,d,e,j,i,rfl,c,r2,g,a,b⟩:=zy h;unfold u6 at a;split at a
 ·cases a;cases c;cases r2;exact ym hc Z8 s σ H _ f Q I r ⟨_,_,O,b.now (.int _) g⟩
 ·cases a
end
open PySem.SeqAt
open PySem.AutoSeq1 (wpAny_loadPart')
open PySem.MeetsSeq PySem.MeetsSeq2 PySem.MeetsSeq3
def D9(A:c6)(s:cZ)(y x:cY)(b:Bool):Prop:=∀(prog:c5) (w:c7) (E:cY->cZ->Prop) (Q:cY->cZ->Prop),Q (.bool b) s->db (model prog w) A (richCompare .Lt y x) Q E s
inductive yx (A:c6)(s:cZ):List cY->List cY->Bool->Prop
 |nn:yx A s [] [] false
 |nc (y:cY) (ys:List cY):yx A s [] (y::ys) true
 |cn (x:cY) (xs:List cY):yx A s (x::xs) [] false
 |eq {x y:cY} {xs ys:List cY} {k:Bool} (e:EqAt A.in1 s x y true) (t:yx A s xs ys k):yx A s (x::xs) (y::ys) k
 |lt {x y:cY} {xs ys:List cY} {k:Bool} (e:EqAt A.in1 s x y false) (t:D9 A.in1 s x y k):yx A s (x::xs) (y::ys) k
theorem E5(l b:c0)(items items2:Array cY)(n E:Nat)(B m:Option c0)(G q:Array (Option cY))(c:Bool):
  Meets (Builtin.«tuple.__lt__» ⟨[.ref l,.ref b],[]⟩) (fun A R s=>s.heap.get? l=some {cls:=.type "tuple",dict:=B,data:=.seq items n,slots:=G}/\s.heap.get? b=some {cls:=.type "tuple",dict:=m,data:=.seq items2 E,slots:=q} /\
    yx A s items.toList items2.toList c/\R (.ok (.ret (.bool c))) s):=
 .of_wp λprog w A R s h=>by
  obtain⟨v,g,d,tk,u⟩:=s;obtain⟨D,z,F,h⟩:=h;have I:=AutoSeq1.sub_tuple_tuple
  wp_walk using wpAny_loadPart' D,wpAny_loadPart' z,wpAny_forIn_list _ (λrest b s'=>b.1=Y/\s'=⟨v,g,d,tk,u⟩ /\ ∃vs ws:List cY,rest=vs.zip ws/\yx A ⟨v,g,d,tk,u⟩ vs ws c/\vs.length+items2.size=ws.length+items.size) _
  case turn=>
   rintro⟨y,x⟩ rest b s' ⟨k,rfl,vs,ws,f,p,a⟩;cases p with
   |nn=>cases f
   |nc _ _=>cases f
   |cn _ _=>cases f
   |eq e t=>
    rw[bM]at f;injection f with j i;injection j with o r;subst o r
    simp only[lC1]at a;refine wB1 (e prog w _ _ ?_)
    wp_walk
    exact⟨O,O,_,_,i,t,by lia⟩
   |lt e t=>
    rw[bM]at f;injection f with j i;injection j with o r;subst o r
    refine wB1 (e prog w _ _ ?_);have H:=t prog w
    wp_walk using H
    exact⟨_,O,by simpa using h⟩
  case fin=>
   rintro⟨b1,b2⟩ s' ⟨k,rfl,vs,ws,f,p,a⟩;simp only at k;subst k;have C:c=decide (items.size<items2.size):=by
    cases p with
    |nn=>simp only[aW]at a;exact(aa (by lia)).symm
    |nc _ _=>simp only[aW,lC1]at a;exact(Z9 (by lia)).symm
    |cn _ _=>simp only[aW,lC1]at a;exact(aa (by lia)).symm
    |eq _ _=>rw[bM]at f;cases f
    |lt _ _=>rw[bM]at f;cases f
   rw[C]at h
   wp_walk
   exact⟨_,O,by simpa[Builtin.Tuple.tupleCompareSizes]using h⟩
  case h=>exact⟨O,O,items.toList,items2.toList,O,F,by simp;lia⟩
theorem Az(l b:c0)(items items2:Array cY)(n G:Nat)(E r:Option c0)(I u:Array (Option cY))(c:Bool)(k:Nat):
  ∀i:Nat,items.size-i=k->i<=items.size->i<=items2.size->Meets (Builtin.«list.__eq__.loop» ⟨[.ref l,.ref b,rawInt i,rawInt 0],[]⟩)
   (λA R s=>s.heap.get? l=Z {cls:=.type "list",dict:=E,data:=.seq items n,slots:=I}/\s.heap.get? b=Z {cls:=.type "list",dict:=r,data:=.seq items2 G,slots:=u} /\
    yx A s (items.toList.drop i) (items2.toList.drop i) c/\R (.ok (.ret (.bool c))) s):=by
 induction k with
 |zero=>
  intro i ag v z prog w A R s h;obtain⟨H,g,d,tk,C⟩:=s;obtain⟨m,f,a,h⟩:=h
  wp_walk using wpAny_loadPart' m,wpAny_loadPart' f
  have o:items[((i:Nat):Int).toNat]?=Y:=by simp;lia
  have B:items.toList.drop i=[]:=by simp;lia
  rw[B]at a;rw[o]
  wp_walk using wpAny_loadPart' m,wpAny_loadPart' f
  have F:c=decide (items.size<items2.size):=by
   cases h2:items2.toList.drop i with
   |nil=>
    rw[h2]at a;cases a;have:=congrArg List.length h2;simp at this;exact(aa (by lia)).symm
   |cons y ys=>
    rw[h2]at a;cases a;have:=congrArg List.length h2;simp at this;exact(Z9 (by lia)).symm
  show R (.ok (.ret (.bool (decide (items.size<items2.size))))) _;rw[<- F];exact h
 |succ k ih=>
  intro i ag v z prog w A R s h;obtain⟨H,g,d,tk,C⟩:=s;obtain⟨m,f,a,h⟩:=h;have p:i<items.size:=by lia
  have B:items.toList.drop i=items[i]::items.toList.drop (i+1):=by simp[List.drop_eq_getElem_cons,p]
  have o:items[((i:Nat):Int).toNat]?=Z items[i]:=by simp[p]
  have hc:((i:Int)+1)=((i+1:Nat):Int):=by push_cast;rfl
  rw[B]at a;rcases bN i items2.size with j|D
  ·have x:items2.toList.drop i=items2[i]::items2.toList.drop (i+1):=by simp[List.drop_eq_getElem_cons,j]
   have q:items2[((i:Nat):Int).toNat]?=Z items2[i]:=by simp[j]
   rw[x]at a
   wp_walk using wpAny_loadPart' m,wpAny_loadPart' f
   rw[o,q];cases a with
   |eq e t=>
    refine wB1 (e prog w _ _ ?_)
    wp_walk
    rw[hc];exact⟨plainId_quiet plain_eq_loop _,wD1 entry_eq_loop (by rw[Around.under_plainId plain_eq_loop _];exact ih (i+1) (by lia) (by lia) (by lia) prog w A R _ ⟨m,f,t,h⟩)⟩
   |lt e t=>
    refine wB1 (e prog w _ _ ?_);have K:=t prog w
    wp_walk using wpAny_loadPart' m,wpAny_loadPart' f
    rw[o,q]
    wp_walk using K
    simpa using h
  ·have q:items2[((i:Nat):Int).toNat]?=Y:=by simp;lia
   have x:items2.toList.drop i=[]:=by simp;lia
   rw[x]at a;cases a
   wp_walk using wpAny_loadPart' m,wpAny_loadPart' f
   rw[o,q]
   wp_walk using wpAny_loadPart' m,wpAny_loadPart' f
   show R (.ok (.ret (.bool (decide (items.size<items2.size))))) _;rw[aa (by lia)];exact h
theorem GN(l b:c0)(items items2:Array cY)(n k:Nat)(i a:Option c0)(m e:Array (Option cY))(c:Bool):
  Meets (Builtin.«list.__lt__» ⟨[.ref l,.ref b],[]⟩) (fun A R s=>s.heap.get? l=some {cls:=.type "list",dict:=i,data:=.seq items n,slots:=m}/\s.heap.get? b=some {cls:=.type "list",dict:=a,data:=.seq items2 k,slots:=e} /\
    yx A s items.toList items2.toList c/\R (.ok (.ret (.bool c))) s):=by
 intro prog w A R s h;obtain⟨q,g,d,tk,p⟩:=s;obtain⟨j,f,o,h⟩:=h;have r:=AutoSeq1.sub_list_list
 wp_walk using wpAny_loadPart' j,wpAny_loadPart' f
 exact⟨plainId_quiet plain_eq_loop _,wD1 entry_eq_loop (by rw[Around.under_plainId plain_eq_loop _];exact Az l b items items2 n k i a m e c _ 0 O (a0 _) (a0 _) prog w A R _ ⟨j,f,by simpa using o,h⟩)⟩
theorem Fj{A:c6}{s:cZ}{k:Bool}{l b:c0}{xs ys:Array cY}{c:Bool}(B:SCo k s.heap l xs)(y:SCo k s.heap b ys)(z:A.units<cLine)(h:yx A s xs.toList ys.toList c):D9 A s (.ref l) (.ref b) c:=λprog w E Q q=>by
 cases k
 ·obtain⟨⟨r,t,p,v⟩,o,hc,n,j⟩:=id B;obtain⟨⟨m,f,i,g⟩,a,e,u,d⟩:=id y;simp only at hc j e d;subst hc j e d;exact richCompare_meets_room (op:=.Lt) ⟨_,o,O⟩ ⟨_,a,O⟩ PySem.F.slot_tuple_lt PySem.F.entry_tuple_lt (PySem.F.args_tuple_lt_2 _ _) (E5 l b xs ys n u t f v g c) ⟨o,a,h,show Value.bool c≠Value.notImplemented/\Q (.bool c) s from⟨(λx=>nomatch x),q⟩⟩ z
 ·obtain⟨⟨r,t,p,v⟩,o,hc,n,j⟩:=id B;obtain⟨⟨m,f,i,g⟩,a,e,u,d⟩:=id y;simp only at hc j e d;subst hc j e d;exact richCompare_meets_room (op:=.Lt) ⟨_,o,O⟩ ⟨_,a,O⟩ PySem.F.slot_list_lt PySem.F.entry_list_lt (PySem.F.args_list_lt_2 _ _) (GN l b xs ys n u t f v g c) ⟨o,a,h,show Value.bool c≠Value.notImplemented/\Q (.bool c) s from⟨(λx=>nomatch x),q⟩⟩ z
def Ji(f g:D->D->Option Bool):List D->List D->Option Bool
 |[],[]=>Z J
 |[],_::_=>Z M
 |_::_,[]=>Z J
 |x::xs,y::ys=>(f x y).bind λb=>if b=M then Ji f g xs ys else g x y
def KW:D->D->Option Bool
 | .int i,.int j=>Z (decide (i<j))
 | .str x,.str y=>Z (decide (x.cps.toList<y.cps.toList))
 |_,_=>Y
def Eu(S:Sto):Nat->D->D->Option Bool
 |0,_,_=>Y
 |n+1,d,e=>match KW d e with
  |some b=>Z b
  |none=>match dH S d,dH S e with
   |some p,Z q=>if p.1=q.1 then Ji (kx S n) (Eu S n) p.2 q.2 else Y
   |_,_=>Y
def gLt:G2:=λd e S=>(Eu S dV d e).map λb=>(.bl b,S)
section
variable{X:Cx}{Z8:List (c0×Obj)}{σ:L2.St}{H:Hp}{s:cZ}{mu:List c0}{S:Sto}
theorem GM(I:Inv X Z8 σ H s)(hs:Sim X.K H mu S){n:Nat}{A:c6}(m:A.units+1+n<cLine)(ih:∀ {d e:D} {v w:V} {u z:cY} {b:Bool},eP X.K H mu d v->eP X.K H mu e w->dG v u->dG w z->Eu S n d e=some b->D9 A.in1 s u z b):
  ∀{xs ys:List D} {vs ws:List V} {f zs:List cY} {b:Bool},dD X.K H mu xs vs->dD X.K H mu ys ws->dR vs f->dR ws zs->Ji (kx S n) (Eu S n) xs ys=Z b->yx A s f zs b
 :=by
 intro xs
 induction xs with
 |nil=>
  intro ys vs ws f zs b a r2 g c h;cases a;cases g;cases r2 with
  |nil=>cases c;cases h;exact .nn
  |cons _ _=>cases c;cases h;exact .nc _ _
 |cons x xs r=>
  intro ys vs ws f zs b a r2 g c h;cases a with
  |cons a p=>
   cases g with
   |cons j l=>
    cases r2 with
    |nil=>cases c;cases h;exact .cn _ _
    |cons r2 q=>
     cases c with
     |cons i p2=>
      rw[Ji]at h;obtain⟨k,o,h⟩:=oB1.mp h;have eq:=(l7 I hs n (A:=A.in1) m a r2 j i o).1;cases k with
      |true=>exact .eq eq (r p q l p2 h)
      |false=>exact .lt eq (ih a r2 j i h)
theorem Ay(I:Inv X Z8 σ H s)(hs:Sim X.K H mu S):∀(n:Nat) {A:c6} {d e:D} {v w:V} {u z:cY} {b:Bool},A.units+n<cLine->eP X.K H mu d v->eP X.K H mu e w->dG v u->dG w z->Eu S n d e=Z b->D9 A s u z b
 |0,_,_,_,_,_,_,_,_,_,_,_,_,_,h=>by cases h
 |n + 1,A,d,e,v,w,u,z,b,U,m,i,g,f,h=>by
  rw[Eu]at h;split at h
  ·rename_i k c;cases h;unfold KW at c;split at c
   ·cases c;cases m;cases i;obtain⟨t,rfl⟩:=g;obtain⟨r,rfl⟩:=f;exact λprog w E Q q=>(PyProof.Rows.lt_int q:db (model prog w) A (compareOp .Lt (.int _ t) (.int _ r)) Q E s)
   ·cases c;cases m;cases i;obtain⟨t,rfl⟩:=g;obtain⟨r,rfl⟩:=f;exact λprog w E Q q=>(PyProof.Rows.lt_str q:db (model prog w) A (compareOp .Lt (.str _ t) (.str _ r)) Q E s)
   ·cases c
  ·split at h
   ·rename_i p q G L;split at h
    ·rename_i C;obtain⟨y,xs⟩:=p;obtain⟨qb,ys⟩:=q;have o:y=qb:=C;subst o;obtain⟨a,vs,rfl,K,F⟩:=dB m hs G;obtain⟨a2,ah,rfl,ag,T⟩:=dB i hs L;cases g;cases f;obtain⟨B,aj,co,_⟩:=eD I K;obtain⟨x,j,l,_⟩:=eD I ag;refine Fj co l (by lia) ?_;have:=GM I hs (A:=A) (n:=n) (by lia) (λP r2 R N h=>Ay I hs n (A:=A.in1) (by show A.units+1+n<cLine;lia) P r2 R N h) F T aj j h;simpa using this
    ·cases h
   ·cases h
theorem i8(l:X.A.units+64<cLine):fY X (compareOp .Lt) (r2 X.K (b2 gLt)):=by
 intro Z8 s σ H x y u w Q I f j h;obtain⟨mu,S,d,e,r,k,i,r2,c,a,hc⟩:=ut h;obtain⟨b,g,a⟩:=oM1.mp a;cases a;exact Ay I c dV (by show _+60<cLine;lia) i r2 f j g X.prog X.w X.xe _ ⟨.bl b,H,I,O,hc.now (.bl b) c⟩
end
inductive Ty where
 |int|bool|str|tuple|list|dict
 deriving DecidableEq
def Ty.nm:Ty->String
 | .int=>"int" | .bool=>"bool" | .str=>"str" | .tuple=>"tuple" | .list=>"list" | .dict=>"dict"
def jz(S:Sto)(T:Ty):D->Option Bool
 | .non=>Z J
 | .bl _=>Z (decide (T = .bool)||decide (T = .int))
 | .int _=>Z (decide (T = .int))
 | .str _=>Z (decide (T = .str))
 | .tup _=>Z (decide (T = .tuple))
 | .rol _=>Z (decide (T = .list))
 | .ref n=>match S[n]? with
  |some (.lst _)=>Z (decide (T = .list))
  |some (.dct _)=>Z (decide (T = .dict))
  |some (.dcT _)=>Z (decide (T = .dict))
  |_=>Y
 | .fn _=>Y
def iE(T:Ty)(m:FE):FE:=λr S=>(m r S).bind λp=>(jz p.2 T p.1).map λb=>(.bl b,p.2)
section
variable{X:Cx}{Z8:List (c0×Obj)}{σ:L2.St}{H:Hp}{s:cZ}{mu:List c0}{S:Sto}{K:Fg1}
theorem Do(T:Ty):PySem.W.kitOne K (.type "NoneType") (.type T.nm)=Z J:=by cases T<;>rfl
theorem GT(T:Ty):PySem.W.kitOne K (.type "bool") (.type T.nm)=Z (decide (T = .bool)||decide (T = .int)):=by cases T<;>rfl
theorem Dq(T:Ty):PySem.W.kitOne K (.type "int") (.type T.nm)=Z (decide (T = .int)):=by cases T<;>rfl
theorem Dm(T:Ty):PySem.W.kitOne K (.type "str") (.type T.nm)=Z (decide (T = .str)):=by cases T<;>rfl
theorem Dl(T:Ty):PySem.W.kitOne K (.type "tuple") (.type T.nm)=Z (decide (T = .tuple)):=by cases T<;>rfl
theorem Dp(T:Ty):PySem.W.kitOne K (.type "list") (.type T.nm)=Z (decide (T = .list)):=by cases T<;>rfl
theorem wA(T:Ty):PySem.W.kitOne K (.type "dict") (.type T.nm)=Z (decide (T = .dict)):=by cases T<;>rfl
theorem Du{T:Ty}{d:D}{v:V}{u:cY}{b:Bool}{Q:cY->cZ->Prop}{E:cY->cZ->Prop}(I:Inv X Z8 σ H s)(hs:Sim X.K H mu S)(r:eP X.K H mu d v)(f:dG v u)(h:jz S T d=some b)(q:∀ tk,Q (.bool b) {s with toks:=tk}):
  db (model X.prog X.w) X.A (call (.builtin "isinstance") [u,.type T.nm]) Q E s:=by
 have seq:∀{k:Bool} {a:c0} {vs:List V},sj X.K k H a vs->b=(match k with|true=>decide (T = .list)|false=>decide (T = .tuple))->db (model X.prog X.w) X.A (call (.builtin "isinstance") [.ref a,.type T.nm]) Q E s:=λ{k a vs} g m=>by
  obtain⟨w,A,co,_⟩:=eD I g;cases k
  ·obtain⟨o,e,c,_⟩:=co;subst m;exact PySem.W.kia_one PySem.W.kitx_tuple I.kIn ⟨o,e,c⟩ (Dl T) (λz=>nomatch z) q
  ·obtain⟨o,e,c,_⟩:=co;subst m;exact PySem.W.kia_one PySem.W.kitx_list I.kIn ⟨o,e,c⟩ (Dp T) (λz=>nomatch z) q
 cases d with
 |non=>cases h;cases r;exact iH I f .non (Do T) q
 |bl k=>cases h;cases r;exact iH I f (.bl k) (GT T) q
 |int i=>cases h;cases r;exact iH I f (.int i) (Dq T) q
 |str x=>cases h;cases r;exact iH I f (.str x) (Dm T) q
 |tup xs=>
  cases h;obtain⟨a,vs,rfl,g,t⟩:=dB (S:=S) r hs O;cases f;exact seq g O
 |fn x=>cases h
 |rol xs=>
  cases h;obtain⟨a,vs,rfl,g,t⟩:=dB (S:=S) r hs O;cases f;exact seq g O
 |ref n=>
  rw[jz]at h;split at h
  ·rename_i xs e;cases h;obtain⟨a,vs,rfl,g,t⟩:=dB (S:=S) r hs (by rw[dH,e]);cases f;exact seq g O
  ·rename_i ks e;cases h;cases r with
   |ref l=>
    obtain⟨ws,j,_⟩:=hs.dct e l;exact iH I f (.dK j) (wA T) q
  ·rename_i ks e;cases h;cases r with
   | @ref _ a l=>
    cases(show u=Value.ref a from f);obtain⟨ws,j,_⟩:=hs.dcT e l;obtain⟨⟨_,_,o,_,_,p,y,_⟩,_⟩:=(show eA X.prog X.w H s.heap a (.ext (jM a ws))from I.hok a _ j);exact PySem.W.kia_one PySem.W.kitx_dict I.kIn ⟨o,p,y.1⟩ (wA T) (λz=>nomatch z) q
  ·cases h
theorem Bn(T:Ty):eh X (.builtin "isinstance") (λxs H Q=>∃x mu S d b,xs=[x,.ty T.nm]/\eP X.K H mu d x/\Sim X.K H mu S/\jz S T d=Z b/\Q (.bl b) H):=by
 intro Z8 s σ H xs g Q I r h;obtain⟨x,mu,S,d,b,rfl,a,f,e,hc⟩:=h;obtain⟨u,i,rfl,c,rt⟩:=yO r;cases rt;exact Du I f a c e λtk=>⟨.bl b,H,I.tok tk,O,hc⟩
theorem xK (T:Ty){e:Expr}{m:FE}{nm:Str}{p p2 pos:Pos}(hg:Gl X "isinstance")(hm:X.mg "isinstance"=none)(hg2:Gl X nm)(hm2:X.mg nm=none)(hv2:bootBuiltins nm=some (.type T.nm))(h:ME X e m)
  (hn:nm≠"__name__":=by decide) (hd:(nm == ("__debug__":Str))=J:=by decide)
  (hs1:c9 [e,.Name nm p2] X.env=(J,eval e X.env)::c9 [.Name nm p2] X.env:=by rfl) (hs2:c9 [.Name nm p2] X.env=(J,eval (.Name nm p2) X.env)::c9 [] X.env:=by rfl)
  (hpl:(backTo pos (c9 [.Name nm p2] X.env)).any (·.1)=J:=by rfl):ME X (.Call (.Name "isinstance" p) [e,.Name nm p2] [] pos) (iE T m):=
 eg (nO (Bn T) hg hm (by decide+kernel) (iR h (iR (CL (v:=.ty T.nm) hg2 hm2 hv2 O hn hd) lQ hs2) hs1) (by decide) (by decide) hs1 hpl) <| by
  rintro σ H Q ⟨r,mu,S,d,o,k,l,hm,hc⟩;obtain⟨⟨c,n⟩,g,hm⟩:=oB1.mp hm;obtain⟨b,j,hm⟩:=oM1.mp hm;cases hm;refine⟨r,mu,S,c,_,k,l,g,λv H1 mu1 f i a=>?_⟩;exact⟨v,mu1,_,c,b,O,i,a,j,hc _ H1 mu1 f (.bl b) a⟩
end
abbrev FO:=Ev->Sto->Option (Option Int×Sto)
def LV(K:Fg1)(m:FO):TO:=fun σ H Q=>∃r mu S o S',fC K H mu r σ/\Sim K H mu S/\m r S=Z (o,S') /\ ∀H' mu',Ext mu mu' H H'->Sim K H' mu' S'->Q o H'
abbrev MO(X:Cx)(e:Option Expr)(m:FO):Prop:=PO X e (LV X.K m)
def ig:FO:=λ_ S=>Z (Y,S)
def ic(m:FE):FO:=λr S=>(m r S).bind λp=>match p.1 with
 | .int i=>Z (Z i,p.2)
 |_=>Y
def iI(xs:List D)(lo hi:Option Int):List D:=(xs.drop (HT.sIx xs.length 0 lo)).take (HT.sIx xs.length xs.length hi-HT.sIx xs.length 0 lo)
section
variable{X:Cx}
theorem C2:MO X Y ig:=by
 rintro Z8 s σ H Q I ⟨r,mu,S,o,c,d,b,a,hc⟩;cases a;exact Cy Z8 s σ H Q I (hc H mu (.refl _ _) b)
theorem C1{e:Expr}{m:FE}(h:ME X e m):MO X (Z e) (ic m):=by
 rintro Z8 s σ H Q I ⟨r,mu,S,o,l,g,k,a,hc⟩;obtain⟨⟨d,n⟩,c,a⟩:=oB1.mp a;cases d with
 |int i=>
  cases a;refine Cw h Z8 s σ H Q I ⟨r,mu,S,_,_,g,k,c,λv H1 mu1 b f j=>?_⟩;cases f;exact⟨i,O,hc H1 mu1 b j⟩
 |_=>cases a
theorem wV{K:Fg1}{H:Hp}{mu:List c0}{ds:List D}{vs:List V}(t:dD K H mu ds vs)(lo hi:Option Int):dD K H mu (iI ds lo hi) (t5 vs lo hi):=by
 unfold iI t5;rw[<- t.length];exact(t.drop _).take _
def HZ(ta:TA):TE:=fun σ H Q=>ta σ H λvs H1=>∃j:Int,vs=[.int j] /\ ∀p,H1 p=Y->Q (.ref p) (upd H1 p (.rng 0 j))
theorem pk {a:Expr}{ta:TA}{p pos:Pos}(hg:Gl X "range")(hm:X.mg "range"=Y)(ha:PA X [a] ta)(hs:c9 [a] X.env=[(J,eval a X.env)]:=by rfl):PE X (.Call (.Name "range" p) [a] [] pos) (HZ ta):=by
 intro Z8 s σ H Q I h;refine Call_ (jx I hg hm boot_range (PyProof.Rows.callWith_type1 (eQ (ha pos Z8 s σ H _ I h) λk i ⟨vs,H1,c,d,f⟩=>?_) hs O));obtain⟨j,e,q⟩:=f;subst e;cases d with
 |cons r g=>
  cases g;obtain⟨t,rfl⟩:=r;refine call_range_1 ⟨.ref i.heap.objs.size,_,c.laid (λb o e=>hP1 _ e) (nR1 _) (o:=.rng 0 j) ?_,O,q _ (c.hok.fresh (nR1 _))⟩;exact⟨_,_,_,hS1 _ O⟩
def jX(i:Int):Nat->List V
 |0=>[]
 |n+1=>.int i::jX (i+1) n
theorem jo:∀(n:Nat) (i:Int),(jX i n).length=n
 |0,_=>rfl
 |n+1,i=>by rw[jX,lC1,jo n]
theorem nK:∀(n:Nat) (i:Int) (k:Nat) (v:V),(jX i n)[k]?=Z v->v = .int (i+k)
 |0,i,k,v,h=>by simp[jX]at h
 |n+1,i,0,v,h=>by simp[jX]at h;rw[<- h];simp
 |n+1,i,k+1,v,h=>by
  rw[jX,gC1]at h;rw[nK n (i+1) k v h,show i+1+(k:Int)=i+((k+1:Nat):Int) by push_cast;lia]
theorem nJ{K:Fg1}{H:Hp}{mu:List c0}:∀(n:Nat) (i:Int),dD K H mu (gy i n) (jX i n)
 |0,_=>.nil
 |n+1,i=>.cons (.int i) (nJ n (i+1))
theorem qc:∀{xs:List V} {a:List cY},xs.length=a.length->(∀(i:Nat) x u,xs[i]?=Z x->a[i]?=Z u->dG x u)->dR xs a
 |[],[],_,_=>.nil
 |x::xs,u::a,h,f=>.cons (f 0 x u O O) (qc (by simpa using h) λi y w h1 h2=>f (i+1) y w (by simpa using h1) (by simpa using h2))
 |[],_::_,h,_=>by simp at h
 |_::_,[],h,_=>by simp at h
theorem DY(hc:X.calm=M):eh X (.type "list") (λxs H Q=>∃p i j,xs=[.ref p]/\H p=Z (.rng i j)/\(-(2^62)<=i/\i<2^62 /\ -(2^62)<=j/\j<2^62)/\(j-i).toNat<=2^20 /\ ∀l,H l=Y->Q (.ref l) (upd H l (.lst (jX i (j-i).toNat)))):=by
 intro Z8 s σ H xs F Q I r h;obtain⟨p,i,j,rfl,C,⟨h1,h2,m,w⟩,f,q⟩:=h;obtain⟨u,rfl,z⟩:=gU r;cases z;obtain⟨t,u,v,e⟩:=I.hok p _ C;have A:(((j-i).toNat:Nat):Int)=Builtin.Range.rangeSize i j 1:=by rw[rangeSize_one];split<;>lia
 refine call_list_range (n:=(j-i).toNat) (I.ok.hd hc) e (small_one h1 h2 m w) A.symm (av f (by decide)) λh' tk c B o y hi=>?_;obtain⟨d,a⟩:=hi;have b:dR (jX i (j-i).toNat) c.toList:=qc (by rw[jo];simpa using d.symm) λk x u E g=>by
  rw[nK _ _ _ _ E];obtain⟨D,rfl⟩:=a k u (by simpa using g);exact⟨D,by rw[Int.mul_one]⟩
 refine⟨.ref s.heap.objs.size,_,I.laid (t':=tk) o (nR1 _) (show eA X.prog X.w _ h' _ (.lst (jX i (j-i).toNat))from⟨?_,c.toList,B,b,by simpa using y⟩),O,q _ (I.hok.fresh (nR1 _))⟩;rw[jo];exact av f (by decide)
def mm(i j:Int):Bool:=decide (-(2^62)<=i)&&decide (i<2^62)&&decide (-(2^62)<=j)&&decide (j<2^62)&&decide ((j-i).toNat<=2^20)
def xM(m:FA):FE:=λr S=>(m r S).bind λp=>match p.1 with
 |[.int j]=>if mm 0 j=M then Z (.ref p.2.length,p.2++[.lst (gy 0 j.toNat)])else Y
 |_=>Y
theorem kX{i j:Int}(h:mm i j=M):(-(2^62)<=i/\i<2^62 /\ -(2^62)<=j/\j<2^62)/\(j-i).toNat<=2^20:=by
 unfold mm at h;simp only[bA1,af]at h;obtain⟨⟨⟨⟨h1,h2⟩,c⟩,b⟩,a⟩:=h;exact⟨⟨h1,h2,c,b⟩,a⟩
theorem GO{K:Fg1}{mu:List c0}{H H1:Hp}{S1:Sto}{i j:Int}{Q:VK}{mu1:List c0}(c:Ext mu mu1 H H1)(a:Sim K H1 mu1 S1)(hc:sr K mu H (.ref S1.length) (S1++[.lst (gy i (j-i).toNat)]) Q){p l:c0}(hp:H1 p=none)(b:upd H1 p (.rng i j) l=none):
  Q (.ref l) (upd (upd H1 p (.rng i j)) l (.lst (jX i (j-i).toNat))):=
 hc _ _ (mu1++[l]) ((c.trans (Ext.fresh hp)).trans (Ext.new_ b)) (.ref (gm a.len l)) ((a.fresh hp).newL (nJ _ _) b)
theorem xJ {a:Expr}{m:FA}{e p2 b c:Pos}(hc:X.calm=true)(hg:Gl X "range")(hm:X.mg "range"=none)(hg2:Gl X "list")(hm2:X.mg "list"=none)(ha:MA X [a] m)(hs:c9 [a] X.env=[(false,eval a X.env)]:=by rfl)
  (hs2:c9 [.Call (.Name "range" e) [a] [] b] X.env=[(J,eval (.Call (.Name "range" e) [a] [] b) X.env)]:=by rfl):ME X (.Call (.Name "list" p2) [.Call (.Name "range" e) [a] [] b] [] c) (xM m):=
 eg (jR (DY hc) hg2 hm2 (by decide+kernel) (iR (pk hg hm ha hs) lQ hs2) (by decide) (by decide) hs2) <| by
  rintro σ H Q ⟨r,mu,S,d,w,o,hs,hm,f⟩;obtain⟨⟨ds,u⟩,i,hm⟩:=oB1.mp hm;dsimp only at hm;split at hm
  ·rename_i j;split at hm
   ·rename_i g;cases hm;refine⟨r,mu,S,_,_,o,hs,i,λvs H1 mu1 h k q=>?_⟩;obtain⟨v,rfl,t⟩:=kZ k;cases t;refine⟨j,O,λp s=>⟨p,0,j,O,dQ,(kX g).1,(kX g).2,λl n=>GO h q (by rw[Int.sub_zero];exact f) s n⟩⟩
   ·cases hm
  ·cases hm
end
def gB:G2:=λo v S=>match o with
 | .ref n=>match S[n]? with
  |some (.lst xs)=>if xs.length<da then Z (.non,S.set n (.lst (xs++[v])))else Y
  |_=>Y
 |_=>Y
def xX:G2:=λo i S=>match o,i with
 | .ref n,.int k=>match S[n]? with
  |some (.lst xs)=>if-(2^63)<=k/\k<2^63 then(xT xs.length k).bind λj=>(xs[j]?).map λy=>(y,S.set n (.lst (xs.eraseIdx j)))else Y
  |_=>Y
 |_,_=>Y
def my(f:FN)(o:FE)(a:FA):FE:=λr S=>(o r S).bind λp=>match p.1 with
 | .ref n=>match p.2[n]? with
  |some (.lst _)=>(a r p.2).bind λq=>f (p.1::q.1) q.2
  |_=>Y
 |_=>Y
section
variable{X:Cx}
theorem HX:HI X "list.append" (λx xs H Q=>rN X.K (b2 gB) (x::xs) H Q):=by
 intro Z8 s σ H x xs v m Q I i o h;obtain⟨r,y,mu,S,d,e,q,p,g,k,r2,f,a,hc⟩:=zy h;cases g;cases d with
 |ref n=>
  rw[gB]at a;split at a
  ·rename_i ys j;split at a
   ·rename_i l;cases a;cases k with
    |ref b=>
     obtain⟨vs,c,t⟩:=f.lst j b;refine pu Z8 s σ H _ [y] v m Q I i o ⟨_,vs,y,O,O,c,by rw[<- t.length];exact l,?_⟩;exact hc _ _ mu (Ext.put c trivial (gM1 b)) .non (f.putL (t.append (.cons r2 .nil)) b c)
   ·cases a
  ·cases a
 |_=>cases a
theorem Ef:HI X "list.pop" (λx xs H Q=>rN X.K (b2 xX) (x::xs) H Q):=by
 intro Z8 s σ H x xs v r Q I m C h;obtain⟨F,y,mu,S,d,e,E,D,l,p,r2,i,a,hc⟩:=zy h;cases l;unfold xX at a;split at a
 ·rename_i n k;split at a
  ·rename_i ys o;split at a
   ·rename_i g;obtain⟨j,q,a⟩:=oB1.mp a;obtain⟨z,B,a⟩:=oM1.mp a;cases a;cases p with
    |ref b=>
     cases r2;obtain⟨vs,f,t⟩:=i.lst o b;obtain⟨w,A,c⟩:=t.get B;refine Ah Z8 s σ H _ [.int k] v r Q I m C ⟨_,vs,k,j,w,O,O,f,g.1,g.2,?_,A,?_⟩
     ·rw[<- t.length];exact(rl q).1
     ·have x:=Ext.put (u:=.lst (vs.eraseIdx j)) f trivial (gM1 b);exact hc _ _ mu x (c.ext x) (i.putL (t.eraseIdx j) b f)
   ·cases a
  ·cases a
 ·cases a
theorem Ao {o e:Expr}{es:List Expr}{m:FE}{a:FA}{f:FN}{name:Str}{apos cpos:Pos}{id:String}(slot:Slot "list" name id)(hty:typeOf (.builtin id)=pure (.type "method_descriptor"))(hm:HI X id (fun x xs H Q=>rN X.K f (x::xs) H Q))(ho:ME X o m)(ha:MA X (e::es) a)
  (hbase:attributeBase o name X.env (eval o X.env)=eval o X.env:=by rfl)
  (hfew:((backTo cpos (c9 (e::es) X.env)).all (λx=> !x.1)&&(backToKw cpos (keywordEach [] X.env)).all (λx=>x.1.isSome)&&decide ((e::es).length+([]:List Keyword).length+(if([]:List Keyword).isEmpty then 0 else 1)<30))=M:=by rfl)
  (hline:(apos.endLine == cpos.line)=M:=by rfl) (hs:c9 (e::es) X.env=(J,eval e X.env)::c9 es X.env:=by rfl) (hplain:(backTo cpos (c9 es X.env)).any (·.1)=J:=by rfl):
  ME X (.Call (.Attribute o name apos) (e::es) [] cpos) (my f m a):=
 eg (II PySem.F.plainAttrs_list slot hty hm ho ha hbase hfew hline hs hplain) <| by
  rintro σ H Q ⟨r,mu,S,d,D,h,hs,hm,hc⟩;obtain⟨⟨l,j⟩,s,hm⟩:=oB1.mp hm;refine⟨r,mu,S,l,j,h,hs,s,λv H1 mu1 g k i=>?_⟩;cases l with
  |ref n=>
   dsimp only at hm;split at hm
   ·rename_i xs w;obtain⟨⟨ds,p⟩,y,hm⟩:=oB1.mp hm;refine⟨?_,r,mu1,j,ds,p,h.ext g,i,y,λvs H2 c x2 r2 C=>?_⟩
    ·cases k with
     |ref A=>
      obtain⟨vs,z,t⟩:=i.lst w A;exact .inl ⟨O,vs,lI.of z⟩
    ·exact⟨c,p,.ref n::ds,d,D,.cons (k.ext x2) r2,C,hm,λB q b u=>hc B q b ((g.trans x2).trans u)⟩
   ·cases hm
  |_=>cases hm
end
theorem Ct{X:Cx}(hc:X.calm=true){elt tg iter:Expr}{ifs:List Expr}{rest:List Comprehension}{scope:dh}{pos l N:Pos}{y:Str}{i:Nat}{T:List Str}{keep:List Nat}{u:List (Str×c0)}{wi:TI}{g:TG}{ti:TT}{tb:c0->TS}{emit:cY->Env->Sem Unit}(W:swapsWith (.ListComp elt (⟨tg,iter,ifs,0⟩::rest) scope pos) (some (.Name y N)) l.line X.env=pure true)(eq:∀it A k,compTurn (.ListComp elt (⟨tg,iter,ifs,0⟩::rest) scope pos) 0 it A k=sF iter.pos tg ifs it k (emit A k) (.compLoop (.ListComp elt (⟨tg,iter,ifs,0⟩::rest) scope pos) 0 it A k))(C:J7 X scope T keep)(K:j4 X.env.cells scope.names []=some u)(hi:PI X tg iter wi)(hb:∀s H d p,PG (cxC X scope u T keep s H d) tg g/\pa (cxC X scope u T keep s H d) ifs ti/\PU (cxC X scope u T keep s H d) (emit (.ref p) (cxC X scope u T keep s H d).env) (tb p))(hN:X.N.Nodup)(hy:X.N[i]?=some y)(hx:yq X.env.scope y)(hf:X.fn y=true\/X.env.scope.names.lookup y=some .local)(hs:∀x,foldedSetIterable iter X.env x=pure x:=by intro _;rfl):
  PS X (.Assign [.Name y N] (.ListComp elt (⟨tg,iter,ifs,0⟩::rest) scope pos) l) (zg (ze T.length keep wi g ti tb) (wI i)):=by
 intro Z8 s σ H D I h;rw[exec_Assign_Name_used _ _ _ _ W];refine wB1 (wpAny_standAt (wB1 ?_));show db _ X.A (do let _<-comprehension (.ListComp elt (⟨tg,iter,ifs,0⟩::rest) scope pos) scope X.env _ (newList []) J (eval iter X.env) (Z (assign (.Name y N) X.env))) _ _ s;refine wB1 (wpAny_mono (wpAny_comprehension_free (use:=Z (assign (.Name y N) X.env)) (Q:=λ_ s'=>SP X Z8 D .next s') O hs (Bj K) C.kind C.names ?_) (λ_ s' hq=>wP1 (wP1 hq)) λ_ _ e=>e);refine eQ (hi Z8 s σ H _ I h) λv s1 h1=>eQ h1 λitv a h2=>?_;obtain⟨it,d,tn,ag,H2,rfl,I2,TT,L,f2,q2⟩:=h2;refine wO1 ?_;have w:Inv X Z8 σ (upd H2 a.heap.objs.size (.lst [])) {a with heap:=a.heap.push {cls:=.type "list",data:=.seq ([]:List cY).toArray}}:=I2.lnew (t':=a.toks) .nil (a0 _);have old:∀b∈d,∃o,a.heap.get? b=Z o:=λb hb=>by
  obtain⟨o,e,_⟩:=TT.obj 0 a.heap L b hb;exact⟨o,e⟩
 have S:∀b∈d,b≠a.heap.objs.size:=λb hb z=>by
  obtain⟨o,e⟩:=old b hb;have:=hL1 e;rw[z]at this;exact aq _ this
 have P:∀b∈d,j5 X Z8 (upd H2 a.heap.objs.size (.lst [])) b:=λb hb=>⟨by rw[dM (S b hb)];exact(f2 b hb).1,(f2 b hb).2⟩;have o3:∀b∈d,∃o,({a with heap:=a.heap.push {cls:=.type "list",data:=.seq ([]:List cY).toArray}}:cZ).heap.get? b=Z o:=λb hb=>by
  obtain⟨o,e⟩:=old b hb;exact⟨o,hP1 _ e⟩
 have aj:=tO w C K P o3;obtain⟨hg,U,he⟩:=hb {a with heap:=a.heap.push {cls:=.type "list",data:=.seq ([]:List cY).toArray}} (upd H2 a.heap.objs.size (.lst [])) d a.heap.objs.size;refine kb ?_;have f4:∀b∈d,j5 (cxC X scope u T keep {a with heap:=a.heap.push {cls:=.type "list",data:=.seq ([]:List cY).toArray}} (upd H2 a.heap.objs.size (.lst [])) d) [] (upd H2 a.heap.objs.size (.lst [])) b:=λb hb=>
  ⟨(P b hb).1,(aj.ok.exf b hb).1,aj.ok.exfs b hb,.inl hb,(aj.ok.exf b hb).2,λp ah=>absurd (show p∈([]:List (c0×Obj))from ah) (by simp)⟩
 have F:tn 0 (pushCells ((a.heap.push {cls:=.type "list",data:=.seq ([]:List cY).toArray}).push {cls:=.type "dict",data:=.dict #[]}) scope.names):=
  TT.keep 0 a.heap _ L λb hb o e=>pushCells_keeps scope.names _ b o (hP1 _ (hP1 _ e))
 have n:=pP (X:=cxC X scope u T keep {a with heap:=a.heap.push {cls:=.type "list",data:=.seq ([]:List cY).toArray}} (upd H2 a.heap.objs.size (.lst [])) d) O hc (eq (.ref it) (.ref a.heap.objs.size) _) TT hg U he aj F f4
  (q2 a.heap.objs.size (I2.hok.fresh (nR1 _)))
 refine codeAny_mono (codeAny_compStart_list n (TT.self X.A 0 _ _ _ F n)) λr s' hr=>?_;cases r with
 |error e=>exact hr.elim
 |ok f=>
  obtain⟨σ',H',B,q'⟩:=hr;have J1:Inv X Z8 σ H' s':=w.call' (s':=s') (ch:=d) B.os B.base B.hok B.bare λb hb=>(P b hb).2.2.2 |> λz=>⟨z.1,(P b hb).2.1,z.2.1,z.2.2⟩
  -- the block's own dict is kept aside
  obtain⟨m,hn,_⟩:=id B.loc;obtain⟨R,es,ep,eC,dC,rC⟩:=id hn;have hCz:(a.heap.push {cls:=.type "list",data:=.seq ([]:List cY).toArray}).get? (a.heap.push {cls:=.type "list",data:=.seq ([]:List cY).toArray}).objs.size=Y:=Heap.get?_none_of_le (nR1 _);have G:(a.heap.push {cls:=.type "list",data:=.seq ([]:List cY).toArray}).objs.size≠X.env.locals:=λz=>by
   have:=w.lt;rw[<- z]at this;exact aq _ this
  have wq:H' (a.heap.push {cls:=.type "list",data:=.seq ([]:List cY).toArray}).objs.size=Y:=B.free;have J2:Inv X (Z8++[((a.heap.push {cls:=.type "list",data:=.seq ([]:List cY).toArray}).objs.size,R)]) σ H' s':=J1.pins_of λp ah=>by
   rcases az.mp ah with z|z
   ·exact J1.pin p (mA1 _ z)
   ·have z':p=((a.heap.push {cls:=.type "list",data:=.seq ([]:List cY).toArray}).objs.size,R):=by simpa using z
    subst z';exact⟨eC,wq,G,w.nofs (nR1 _),λv q=>by rw[dC]at q;cases q⟩
  refine eQ (wa hN hy hx hf _ s' σ H' (.ref a.heap.objs.size) (.ref a.heap.objs.size) D.nx J2 O q') λ_ s5 ⟨E,H5,J5,q5⟩=>?_;obtain⟨e5,n5,_⟩:=J5.pin ((a.heap.push {cls:=.type "list",data:=.seq ([]:List cY).toArray}).objs.size,R) (mA1 _ (mA1 _ mS1));refine⟨m,⟨R,es,ep,e5,dC,rC⟩,λh' ai=>?_⟩;have J6:Inv X Z8 E H5 s5:=J5.unpinned;refine⟨E,H5,J6.turned (t':=s5.toks) (λb o hb e=>(ai.2 b hb).trans e) n5 G (.inr ?_) (λx c t z=>?_) (λp ah z=>?_),q5⟩
  ·exact w.sz
  ·obtain⟨w',zc⟩:=w.cell x c t;have j:=zc.lt;rw[z]at j;exact aq _ j
  ·obtain⟨V,_⟩:=w.pin p ah;have j:=hL1 V;rw[z]at j;exact aq _ j
section
variable{X:Cx}
theorem Hy{K:Fg1}{te:TE}{m:FE}{i:Nat}(hm:∀ σ H Q,tM K m σ H Q->te σ H Q){E:jL}{σ:L2.St}{H:Hp}(h:vO K (dE m (gN i)) E σ H):zg te (wI i) E σ H:=by
 obtain⟨r,mu,S,d,p,h1,h2,c,e⟩:=re h;refine hm _ _ _ ⟨r,mu,S,d,p,h1,h2,c,λv H' mu' b f o=>?_⟩;obtain⟨r2,a,u,t,q,s,n,j,k,l,g⟩:=e v H' mu' b f o;cases l;exact g _ H' a (.refl _ _) (n.set k) j
theorem mv (i:Nat){x:Str}{pos:Pos}(hN:X.N[i]? = some x:=by rfl)(hv:D8 X.env.scope x:=by first | exact Or.inl rfl | exact Or.inr (Or.inl rfl) | exact Or.inr (Or.inr rfl))(hd:(x == ("__debug__":Str))=false:=by decide)(hcd:(x == ("__classdict__":Str))=false:=by decide):
  ME X (.Name x pos) (mV i):=Gx i hN hv hd hcd
end
def Own(P:c5)(w:c7)(K:Fg1)(mg:Str->Option cY)(base:de)(k:Nat)(x:Str)(n:Nat)(m:FN):Prop:=
 ∃(f:c0) (fd:df) (ps:List Str),jK P w K mg base um k f fd ps (spM K n m)/\jd K fd ps []/\wK1 K (.ref f)=M/\mg x=Z (.ref f)
theorem GA {X:Cx}{k k' n:Nat}{x:Str}{m:FN}{p pos:Pos}{e:Expr}{es:List Expr}{a:FA}(h:Own X.prog X.w X.K X.mg X.base k x n m)(hr:fB k' X.A)(hk:k<=k')(hg:Gl X x)(ha:MA X (e::es) a)(hdb:(x == ("__debug__":Str))=false:=by decide)
  (he:c9 (e::es) X.env=(J,eval e X.env)::c9 es X.env:=by rfl) (hpl:(backTo pos (c9 es X.env)).any (·.1)=J:=by rfl):ME X (.Call (.Name x p) (e::es) [] pos) (mN (dn n m) a):=by
 obtain⟨f,fd,ps,F,b,c,d⟩:=h;exact C9 F (hr.mono hk) hg d c b ha hdb he hpl
theorem F2{P:c5}{w:c7}{K:Fg1}{mg:Str->Option cY}{base:de}{x a:Str}{st:dg}{f:c0}{fd:df}{N ps:List Str}{k n:Nat}{b:FS}(F:xa K x a st f fd)(hb:jd K fd ps [])(hm:mg x=some (.ref f))(S:gv N ps (dI st))(hn:ps.length=n)(d:∀(e:cY) (A:c6) (c:List Env) (s:cZ) (H:Hp) (E:XK),fB k (A.deeper (envOfC a (dI st) s.heap.objs.size f e)) ->
   yp (mW um P w K mg base N a (dI st) f e A c s H E).nox (fe st) b):Own P w K mg base (k+1) x n (hU N.length b):=by
 subst hn;exact⟨f,fd,ps,JA F S d,hb,F.kp,hm⟩
def CGl(K:Fg1)(mg:Str->Option cY)(x:Str)(d:D):Prop:=∃(v:V) (u:cY),mg x=Z u/\dG v u /\ ∀H mu,eP K H mu d v
theorem C8 {X:Cx}{x:Str}{d:D}{pos:Pos}(h:CGl X.K X.mg x d)(hg:Gl X x)(hd:(x == ("__debug__":Str))=J:=by decide):ME X (.Name x pos) (mC d):=by
 obtain⟨v,u,a,r,q⟩:=h;exact As d (CF hg a r hd) q
def fJ:List Bool->Ev->Ev
 |true::bs,o::r=>o::fJ bs r
 |false::bs,_::r=>Y::fJ bs r
 |[],_::r=>Y::fJ [] r
 |_,[]=>[]
def kM:Ev->Bool
 |[]=>M
 |none::r=>kM r
 |some d::r=>d.und 0&&kM r
def pv(ki ko:List Bool)(b:FS):FS:=fun r S=>if kM (fJ ki r)=true then
  (b (fJ ki r) []).bind λp=>match p.1 with
   | .rt d=>if d.und 0=M then Z (.rt d,[],S)else Y
   |f=>if kM (fJ ko p.2.1)=M then Z (f,fJ ko p.2.1,S)else Y
 else Y
theorem jS:∀(bs:List Bool) (r:Ev),(fJ bs r).length=r.length
 |true::bs,o::r=>congrArg (· + 1) (jS bs r)
 |false::bs,o::r=>congrArg (· + 1) (jS bs r)
 |[],o::r=>congrArg (· + 1) (jS [] r)
 |[],[]=>rfl
 |true::_,[]=>rfl
 |false::_,[]=>rfl
theorem jT:∀(bs:List Bool) (r:Ev) (i:Nat) (d:D),(fJ bs r)[i]?=Z (Z d)->r[i]?=Z (Z d)
 |true::bs,o::r,0,d,h=>h
 |true::bs,o::r,i+1,d,h=>by
  rw[gC1];exact jT bs r i d (by rw[fJ,gC1]at h;exact h)
 |false::bs,o::r,0,d,h=>by simp[fJ]at h
 |false::bs,o::r,i+1,d,h=>by
  rw[gC1];exact jT bs r i d (by rw[fJ,gC1]at h;exact h)
 |[],o::r,0,d,h=>by simp[fJ]at h
 |[],o::r,i+1,d,h=>by
  rw[gC1];exact jT [] r i d (by rw[fJ,gC1]at h;exact h)
 |[],[],i,d,h=>by simp[fJ]at h
 |true::_,[],i,d,h=>by simp[fJ]at h
 |false::_,[],i,d,h=>by simp[fJ]at h
theorem lO:∀(r:Ev) (i:Nat) (d:D),kM r=M->r[i]?=Z (Z d)->d.und 0=M
 |none::r,0,d,_,h=>by simp at h
 |none::r,i+1,d,hs,h=>lO r i d hs (by simpa using h)
 |some e::r,0,d,hs,h=>by
  rw[kM,bA1]at hs;simp at h;subst h;exact hs.1
 |some e::r,i+1,d,hs,h=>by
  rw[kM,bA1]at hs;exact lO r i d hs.2 (by simpa using h)
theorem fC.mask{K:Fg1}{H:Hp}{mu mu':List c0}{r:Ev}{σ:L2.St}{bs:List Bool}(h:fC K H mu r σ)(hs:kM (fJ bs r)=M):fC K H mu' (fJ bs r) σ:=
 ⟨by rw[jS];exact h.len,λi d e=>by
  obtain⟨v,b,a⟩:=h.val i d (jT bs r i d e);exact⟨v,b,a.cut (n:=0) (λk c=>absurd c (bo _)) (lO _ i d hs e)⟩⟩
theorem Aw{K:Fg1}{l w:List Bool}{b:FS}{E:jL}{σ:L2.St}{H:Hp}(h:vO K (pv l w b) E σ H):vO K b E σ H:=by
 obtain⟨r,mu,S,f,C,B,A,j,c,hc⟩:=h;unfold pv at c;split at c
 ·rename_i u;obtain⟨⟨m,y,q⟩,p,c⟩:=oB1.mp c;refine⟨fJ l r,[],[],m,y,q,A.mask u,.nil,p,?_⟩;have back:∀{H':Hp} {mu':List c0},Ext [] mu' H H'->Ext mu mu H H':=λ{H' mu'} x=>⟨bf,λa o e _=>x.old a o e (by simp),x.tup,x.frz,λ_ z=>.inl z⟩;have keep:∀{H':Hp} {mu':List c0},Ext [] mu' H H'->Sim K H' mu S:=λ{H' mu'} x=>⟨j.len,j.nd,λn o a h1 h2=>(j.ob n o a h1 h2).keep (back x) λo e=>x.old a o e (by simp)⟩;cases m with
  |rt d=>
   dsimp only at c;split at c
   ·rename_i i;cases c;exact λv H' mu' x r s=>hc v H' mu (back x) (r.cut (n:=0) (λk t=>absurd t (bo _)) i) (keep x)
   ·cases c
  |nx=>
   dsimp only at c;split at c
   ·rename_i i;cases c;exact λg H' mu' x r s=>hc g H' mu (back x) (r.mask i) (keep x)
   ·cases c
  |bk=>
   dsimp only at c;split at c
   ·rename_i i;cases c;exact λg H' mu' x r s=>hc g H' mu (back x) (r.mask i) (keep x)
   ·cases c
  |ct=>
   dsimp only at c;split at c
   ·rename_i i;cases c;exact λg H' mu' x r s=>hc g H' mu (back x) (r.mask i) (keep x)
   ·cases c
 ·cases c
theorem Ai{X:Cx}{sts:List dg}{b:FS}(c a:List Bool)(h:yp X sts b):yp X sts (pv c a b):=qu h λ_ _ _=>Aw
def CV(K:Fg1)(d:D)(u:cY):Prop:=∃v:V,dG v u /\ ∀H mu,eP K H mu d v
section
variable{K:Fg1}
theorem Hl{mg:Str->Option cY}{x:Str}{d:D}{u:cY}(hm:mg x=Z u)(h:CV K d u):CGl K mg x d:=by
 obtain⟨v,r,q⟩:=h;exact⟨v,u,hm,r,q⟩
end
theorem jQ{K:Fg1}{H:Hp}{mu:List c0}:∀ns:List Int,dD K H mu (ns.map D.int) (ns.map V.int)
 |[]=>.nil
 |n::ns=>.cons (.int n) (jQ ns)
theorem GQ{K:Fg1}{m:FN}(hm:∀ ns:List Int,ns.length<=63 -> ∃ S,m [.rol (ns.map D.int)] []=some (.bl true,S))(H:Hp)(a:c0)(ns:List Int)(b:ns.length<=63)(f:Ea H)(c:lI K H a (ns.map V.int)):
  spM K 1 m [.ref a] H (λv _=>v = .bl M) λ_ _ _=>False:=by
 refine⟨O,?_⟩;obtain⟨S,e⟩:=hm ns b;have d:RoL K H a (ns.map V.int):=by
  rcases c with h|h
  ·rcases h with h|h
   ·rcases f a with z|⟨o,xs,z⟩
    ·rw[h]at z;cases z
    ·rw[h]at z;cases z
   ·exact .inl h
  ·exact .inr h
 refine⟨[],[],[.rol (ns.map D.int)],.bl M,S,.cons (.rol d (jQ ns)) .nil,.nil,e,λv H' mu' x r s=>?_⟩;cases r;rfl
theorem walk_m{l:PySem.W.OpenLaw}{q:c5}{b:List Str}{XP:(Str->Option cY)->de->Prop}{e:c7->de->Prop}{d:DefRec}{K:Params->Fg1}{m:FN}{k:Nat}{x:Str}(hn:l.most=some 63)(c:d.params.defaults=[])(hr:fB k callerA)(p:∀(w:c7) (h:de),e w h->(K w.params).In h)(hm:∀ns:List Int,ns.length<=63 -> ∃S,m [.rol (ns.map D.int)] []=some (.bl true,S))(F:∀(w:c7) (mg:Str->Option cY) (g:c0) (h:de),(K w.params).In h->h.Ns c8 mg->mg d.name=some (.ref g) ->
   ∃fd:df,(∀(s:cZ) (u:cY),BindsTo s fd ⟨[u],[]⟩ [(x,u)]) /\ ∀base:de,(K w.params).In base->base.Ns c8 mg->jK l.prog w (K w.params) mg base um k g fd [x] (spM (K w.params) 1 m)):
  PySem.W.WalkO q b XP e l.row.toRowW d [] (λf vs=>PySem.call f vs):=
 L2.BY (n:=63) (k:=k) (x:=x) (CX:=λ_=>um) (sp:=λw=>spM (K w.params) 1 m) hn (by decide) c hr p F (λ_ H a ns o j i=>GQ hm H a ns o j i) λ_ _ _ _ _ z=>z
structure XE (X:Cx)(e:Expr)(m:FE):Prop where
 h:ME X e m
structure XT (X:Cx)(e:Expr)(m:FT):Prop where
 h:MT X e m
structure XW (X:Cx)(e:Expr)(m:FT):Prop where
 h:MW X e m
structure XA (X:Cx)(e:List Expr)(m:FA):Prop where
 h:MA X e m
structure XS (X:Cx)(e:dg)(m:FS):Prop where
 h:MS X e m
structure vr (X:Cx)(e:List dg)(m:FS):Prop where
 h:yp X e m
structure XI (X:Cx)(tg e:Expr)(m:FI):Prop where
 h:MI X tg e m
structure XG (X:Cx)(e:Expr)(m:FG):Prop where
 h:MG X e m
structure Kn (X:Cx)(e:List Expr)(m:BI):Prop where
 h:JZ X e m
structure XO (X:Cx)(e:Option Expr)(m:FO):Prop where
 h:MO X e m
structure XF (X:Cx)(K:Fg1)(ifs:List Expr)(t:FT):Prop where
 h:pa X ifs (B3 K t)
theorem eo{X:Cx}:XF X X.K [] fj:=⟨C4⟩
theorem kH{X:Cx}{c:Expr}{t:FT}(h:XT X c t):XF X X.K [c] t:=⟨C3 h.h⟩
theorem xc{X:Cx}{sts:List dg}{b:FS}(c a:List Bool)(h:vr X sts b):vr X sts (pv c a b):=⟨Ai c a h.h⟩
section
variable{X:Cx}{pos:Pos}
theorem qK{i:Int}{j}:XE X (.Constant (.int i) j pos) (mC (.int i)):=⟨GF⟩
theorem eH{b:Bool}{j}:XE X (.Constant (.bool b) j pos) (mC (.bl b)):=⟨Jg⟩
theorem hZ{j}:XE X (.Constant .none j pos) (mC .non):=⟨GD⟩
theorem dU{x:Str}{j}:XE X (.Constant (.str x) j pos) (mC (.str x)):=⟨Gz⟩
end
section
variable{X:Cx}{pos:Pos}{e:Expr}{es:List Expr}{m:FE}{n:FA}
theorem qN:XA X [] dj:=⟨GJ⟩
theorem qA(h:XE X e m)(ht:XA X es n)(hs:c9 (e::es) X.env=(J,eval e X.env)::c9 es X.env:=by rfl):XA X (e::es) (di m n):=⟨Da (h:=h.h) (ht:=ht.h) (hs:=hs)⟩
end
section
variable{X:Cx}{K:Fg1}{f:FN}{a b:FE}{σ:L2.St}{H:Hp}{Q:VK}
theorem qI{op:Operator}{x y:Expr}{pos:Pos}(ho:fY X (binaryOp op) (r2 X.K f))(hx:XE X x a)(hy:XE X y b):XE X (.BinOp x op y pos) (m2 f a b):=⟨Jd (ho:=ho) (hx:=hx.h) (hy:=hy.h)⟩
theorem nk{op:UnaryOp}{x:Expr}{pos:Pos}(ho:HP X (unaryOp op) (λx H Q=>rN X.K f [x] H Q))(hx:XE X x a):XE X (.UnaryOp op x pos) (m1 f a):=⟨Jc (ho:=ho) (hx:=hx.h)⟩
theorem BW{op:CmpOp}{x y:Expr}{pos:Pos}(ho:fY X (compareOp op) (r2 X.K f))(hx:XE X x a)(hy:XE X y b)(hm:behindInMarks op y=J):XE X (.Compare x [op] [y] pos) (m2 f a b):=⟨GG (ho:=ho) (hx:=hx.h) (hy:=hy.h) (hm:=hm)⟩
theorem qJ{x y:Expr}{pos:Pos}(ho:EV X (r2 X.K f))(hx:XE X x a)(hy:XE X y b)(hs:ni y):XE X (.Subscript x y pos) (m2 f a b):=⟨Je (ho:=ho) (hx:=hx.h) (hy:=hy.h) (hs:=hs)⟩
theorem qD {x:Str}{p pos:Pos}{e:Expr}{es:List Expr}{id:String}{a:FA}(hc:eh X (.builtin id) (rN X.K f))(hg:Gl X x)(hm:X.mg x=Y)(hv:bootBuiltins x=Z (.builtin id))(ha:XA X (e::es) a)(hn:x≠"__name__":=by decide)(hdb:(x == ("__debug__":Str))=J:=by decide)(he:c9 (e::es) X.env=(J,eval e X.env)::c9 es X.env:=by rfl)(hpl:(backTo pos (c9 es X.env)).any (·.1)=J:=by rfl):XE X (.Call (.Name x p) (e::es) [] pos) (mN f a):=⟨Ar (hc:=hc) (hg:=hg) (hm:=hm) (hv:=hv) (ha:=ha.h) (hn:=hn) (hdb:=hdb) (he:=he) (hpl:=hpl)⟩
theorem qE {x:Str}{p pos:Pos}{e:Expr}{es:List Expr}{T:String}{a:FA}(hc:eh X (.type T) (rN X.K f))(hg:Gl X x)(hm:X.mg x=Y)(hv:bootBuiltins x=Z (.type T))(ha:XA X (e::es) a)(hn:x≠"__name__":=by decide)(hdb:(x == ("__debug__":Str))=J:=by decide)(he:c9 (e::es) X.env=(J,eval e X.env)::c9 es X.env:=by rfl)(hpl:(backTo pos (c9 es X.env)).any (·.1)=J:=by rfl):XE X (.Call (.Name x p) (e::es) [] pos) (mN f a):=⟨xL (hc:=hc) (hg:=hg) (hm:=hm) (hv:=hv) (ha:=ha.h) (hn:=hn) (hdb:=hdb) (he:=he) (hpl:=hpl)⟩
end
section
variable{X:Cx}{x y c:Expr}{rest:List Expr}{pos:Pos}{a b:FT}{f g:FE}
theorem qX{op:CmpOp}{f:FN}{a b:FE}(ho:fY X (compareOp op) (r2 X.K f))(hx:XE X x a)(hy:XE X y b)(hm:behindInMarks op y=J):XT X (.Compare x [op] [y] pos) (mB (m2 f a b)):=⟨Gj (ho:=ho) (hx:=hx.h) (hy:=hy.h) (hm:=hm)⟩
theorem kF(ha:XT X x a):XW X (.BoolOp .And [x] pos) a:=⟨CW (ha:=ha.h)⟩
theorem gM(ha:XT X x a):XW X (.BoolOp .Or [x] pos) a:=⟨Gf (ha:=ha.h)⟩
theorem mY(ha:XT X x a)(hb:XW X (.BoolOp .And (y::rest) pos) b):XW X (.BoolOp .And (x::y::rest) pos) (rf a b):=⟨Gg (ha:=ha.h) (hb:=hb.h)⟩
theorem gi(ha:XT X x a)(hb:XW X (.BoolOp .Or (y::rest) pos) b):XW X (.BoolOp .Or (x::y::rest) pos) (mOr a b):=⟨IX (ha:=ha.h) (hb:=hb.h)⟩
theorem iw(h:XW X x a):XT X x a:=⟨KU (h:=h.h)⟩
theorem eX(ha:XT X x a):XT X (.UnaryOp .Not x pos) (gz a):=⟨Gi (ha:=ha.h)⟩
theorem fZ{op}(h:XE X x f):XE X (.BoolOp op [x] pos) f:=⟨GB (h:=h.h)⟩
theorem gr(ha:XE X x f)(hb:XE X (.BoolOp .And (y::rest) pos) g):XE X (.BoolOp .And (x::y::rest) pos) (iF f g):=⟨GH (ha:=ha.h) (hb:=hb.h)⟩
theorem pZ(ha:XE X x f):XE X (.UnaryOp .Not x pos) (pw f):=⟨GC (ha:=ha.h)⟩
theorem uB(hc:XT X c a)(hx:XE X x f)(hy:XE X y g):XE X (.IfExp c x y pos) (HL a f g):=⟨Jf (hc:=hc.h) (hx:=hx.h) (hy:=hy.h)⟩
end
section
variable{X:Cx}{x y z:Expr}{pos:Pos}{f g:FN}{a b c:FE}{op op':CmpOp}
theorem xf(ho:fY X (compareOp op) (r2 X.K f))(ho':fY X (compareOp op') (r2 X.K g))(hx:XE X x a)(hy:XE X y b)(hz:XE X z c)(hm:lastMarks [op,op'] [y,z]=J:=by with_unfolding_all rfl):XE X (.Compare x [op,op'] [y,z] pos) (GL f g a b c):=⟨Ap (ho:=ho) (ho':=ho') (hx:=hx.h) (hy:=hy.h) (hz:=hz.h) (hm:=hm)⟩
end
section
variable{X:Cx}{pos:Pos}{e c:Expr}{st:dg}{rest as bs:List dg}{a b:FS}{m:FE}{t:FT}
theorem qQ:vr X [] je:=⟨CZ⟩
theorem qF(h1:XS X st a)(h2:vr X rest b):vr X (st::rest) (dw a b):=⟨Aj (h1:=h1.h) (h2:=h2.h)⟩
theorem qG(h1:XS X st a):vr X [st] a:=⟨CY (h1:=h1.h)⟩
theorem yC(h:XE X e m)(hs:swapsWith e Y pos.line X.env=pure J:=by rfl):XS X (.Expr e pos) (eK m):=⟨C0 (h:=h.h) (hs:=hs)⟩
theorem qU(h:XE X e m):XS X (.Return (Z e) pos) (dX m):=⟨Gm (h:=h.h)⟩
theorem qV(hc:XT X c t)(ha:vr X as a)(hb:vr X bs b):XS X (.If c as bs pos) (eB t a b):=⟨IY (hc:=hc.h) (ha:=ha.h) (hb:=hb.h)⟩
end
section
variable{X:Cx}{pos:Pos}
theorem qO(i:Nat){x:Str}(hN:X.N.Nodup)(hi:X.N[i]?=Z x)(hx:yq X.env.scope x)(hf:X.fn x=M\/X.env.scope.names.lookup x=Z .local:=by first|exact .inl rfl|exact .inr rfl|assumption):XG X (.Name x pos) (gN i):=⟨C7 (i:=i) (hN:=hN) (hi:=hi) (hx:=hx) (hf:=hf)⟩
theorem sx:Kn X [] jf:=⟨C6⟩
theorem gQ{e:Expr}{es:List Expr}{g:FG}{a:BI}(h1:XG X e g)(h2:Kn X es a)(hs:(assignEach (e::es) X.env).map (·.2)=assign e X.env::(assignEach es X.env).map (·.2):=by rfl):Kn X (e::es) (fu g a):=⟨An (h1:=h1.h) (h2:=h2.h) (hs:=hs)⟩
theorem vF{es:List Expr}{k:Nat}{a:BI}{n:Nat}(hc:X.calm=M)(h:Kn X es a)(hn:(assignEach es X.env).length=n:=by rfl)(hst:(assignEach es X.env).findIdx? (·.1)=Y:=by rfl):XG X (.Tuple es k pos) (gT n a):=⟨Gu (hc:=hc) (h:=h.h) (hn:=hn) (hst:=hst)⟩
theorem kI{o i:Expr}{a b:FE}{f:FN}(ho:XE X o a)(hi:XE X i b)(hs:vx X (rU X.K f))(ha:∀ v,assign (.Subscript o i pos) X.env v=(do
   let ov<-holding [v] (eval o X.env)
   let iv<-holding [v,ov] (eval i X.env)
   standAt pos
   holding [v,ov,iv] (setItem ov iv v)
   release [v,ov,iv] []):=by intro _;rfl):XG X (.Subscript o i pos) (gS f a b):=⟨Gv (ho:=ho.h) (hi:=hi.h) (hs:=hs) (ha:=ha)⟩
theorem qR{tg e:Expr}{m:FE}{g:FG}(he:XE X e m)(hg:XG X tg g)(hs:swapsWithSole [tg] e pos.line X.env=pure J:=by rfl)(hw:swappedStores [tg] e X.env=pure Y:=by rfl)(h1:(assignEach [tg] X.env).map (·.2)=[assign tg X.env]:=by rfl):XS X (.Assign [tg] e pos) (dE m g):=⟨Go (he:=he.h) (hg:=hg.h) (hs:=hs) (hw:=hw) (h1:=h1)⟩
theorem qY(i:Nat){x:Str}{e:Expr}{m:FE}{pos':Pos}(hN:X.N.Nodup)(hi:X.N[i]?=Z x)(hx:yq X.env.scope x)(he:XE X e m)(hs:swapsWith e (Z (.Name x pos')) pos.line X.env=pure J:=by rfl)(hf:X.fn x=M\/X.env.scope.names.lookup x=Z .local:=by first|exact .inl rfl|exact .inr rfl|assumption):XS X (.Assign [.Name x pos'] e pos) (dE m (gN i)):=⟨Gk (i:=i) (hN:=hN) (hi:=hi) (hx:=hx) (he:=he.h) (hs:=hs) (hf:=hf)⟩
end
section
theorem lK{X:Cx}{pos:Pos}(n:Nat){c:Expr}{a:List dg}{t:FT}{b:FS}(hp:PassesOwn (model X.prog X.w) X.A X.env X.xe)(hc:XT X c t)(hb:vr X a b):XS X (.While c a [] pos) (uo t b n):=⟨Ak (n:=n) (hp:=hp) (hc:=hc.h) (hb:=hb.h)⟩
theorem qW{X:Cx}{pos:Pos}{tg iter:Expr}{a:List dg}{m:FI}{g:FG}{b:FS}(hp:PassesOwn (model X.prog X.w) X.A X.env X.xe)(hc:X.calm=M)(hi:XI X tg iter m)(hg:XG X tg g)(hb:vr X a b)(hs:∀x,foldedSetIterable iter X.env x=pure x:=by intro _;rfl):XS X (.For tg iter a [] pos) (eR m g b):=⟨Gn (hp:=hp) (hc:=hc) (hi:=hi.h) (hg:=hg.h) (hb:=hb.h) (hs:=hs)⟩
end
section
variable{X:Cx}{es:List Expr}{pos:Pos}{a:FA}
theorem dy{x1}(h:XA X es a):XE X (.Tuple es x1 pos) (dJ a):=⟨Gy (h:=h.h)⟩
theorem dS(h:XA X es a):XE X (.List es pos) (eG a):=⟨GE (h:=h.h)⟩
end
section
variable{X:Cx}{tg:Expr}
theorem qd{e:Expr}{m:FE}(h:XE X e m):XI X tg e (gJ m):=⟨Gs (h:=h.h)⟩
theorem uz {a:Expr}{m:FA}{p pos:Pos}(hg:Gl X "range")(hm:X.mg "range"=Y)(ha:XA X [a] m)(hs:c9 [a] X.env=[(J,eval a X.env)]:=by rfl):XI X tg (.Call (.Name "range" p) [a] [] pos) (ss m):=⟨xI (hg:=hg) (hm:=hm) (ha:=ha.h) (hs:=hs)⟩
theorem nj {a b:Expr}{m:FA}{p pos:Pos}(hg:Gl X "range")(hm:X.mg "range"=Y)(ha:XA X [a,b] m)(hs:c9 [a,b] X.env=[(J,eval a X.env),(J,eval b X.env)]:=by rfl)(hs2:c9 [b] X.env=[(J,eval b X.env)]:=by rfl):XI X tg (.Call (.Name "range" p) [a,b] [] pos) (HM m):=⟨xH (hg:=hg) (hm:=hm) (ha:=ha.h) (hs:=hs) (hs2:=hs2)⟩
end
section
variable{X:Cx}{tg:Expr}
variable{elts:List Expr}{k:Nat}{tpos:Pos}
theorem yD {a:Expr}{m:FA}{p pos:Pos}(hg:Gl X "enumerate")(hm:X.mg "enumerate"=Y)(ha:XA X [a] m)(hs:c9 [a] X.env=[(J,eval a X.env)]:=by rfl):XI X (.Tuple elts k tpos) (.Call (.Name "enumerate" p) [a] [] pos) (oa m):=⟨C5 (hg:=hg) (hm:=hm) (ha:=ha.h) (hs:=hs)⟩
theorem BU {a b:Expr}{m:FA}{p pos:Pos}(hg:Gl X "zip")(hm:X.mg "zip"=Y)(ha:XA X [a,b] m)(hs:c9 [a,b] X.env=[(J,eval a X.env),(J,eval b X.env)]:=by rfl)(hs2:c9 [b] X.env=[(J,eval b X.env)]:=by rfl):XI X (.Tuple elts k tpos) (.Call (.Name "zip" p) [a,b] [] pos) (Js m):=⟨Gr (hg:=hg) (hm:=hm) (ha:=ha.h) (hs:=hs) (hs2:=hs2)⟩
end
section
variable{X:Cx}{Z8:List (c0×Obj)}{σ:L2.St}{H:Hp}{s:cZ}{mu:List c0}{S:Sto}{K:Fg1}
theorem uA (T:Ty){e:Expr}{m:FE}{nm:Str}{p p2 pos:Pos}(hg:Gl X "isinstance")(hm:X.mg "isinstance"=Y)(hg2:Gl X nm)(hm2:X.mg nm=Y)(hv2:bootBuiltins nm=Z (.type T.nm))(h:XE X e m)(hn:nm≠"__name__":=by decide)(hd:(nm == ("__debug__":Str))=J:=by decide)(hs1:c9 [e,.Name nm p2] X.env=(J,eval e X.env)::c9 [.Name nm p2] X.env:=by rfl)(hs2:c9 [.Name nm p2] X.env=(J,eval (.Name nm p2) X.env)::c9 [] X.env:=by rfl)(hpl:(backTo pos (c9 [.Name nm p2] X.env)).any (·.1)=J:=by rfl):XE X (.Call (.Name "isinstance" p) [e,.Name nm p2] [] pos) (iE T m):=⟨xK (T:=T) (hg:=hg) (hm:=hm) (hg2:=hg2) (hm2:=hm2) (hv2:=hv2) (h:=h.h) (hn:=hn) (hd:=hd) (hs1:=hs1) (hs2:=hs2) (hpl:=hpl)⟩
end
section
variable{X:Cx}
theorem gx:XO X Y ig:=⟨C2⟩
theorem gw{e:Expr}{m:FE}(h:XE X e m):XO X (Z e) (ic m):=⟨C1 (h:=h.h)⟩
theorem nl {a:Expr}{m:FA}{d p2 b c:Pos}(hc:X.calm=M)(hg:Gl X "range")(hm:X.mg "range"=Y)(hg2:Gl X "list")(hm2:X.mg "list"=Y)(ha:XA X [a] m)(hs:c9 [a] X.env=[(J,eval a X.env)]:=by rfl)(hs2:c9 [.Call (.Name "range" d) [a] [] b] X.env=[(J,eval (.Call (.Name "range" d) [a] [] b) X.env)]:=by rfl):XE X (.Call (.Name "list" p2) [.Call (.Name "range" d) [a] [] b] [] c) (xM m):=⟨xJ (hc:=hc) (hg:=hg) (hm:=hm) (hg2:=hg2) (hm2:=hm2) (ha:=ha.h) (hs:=hs) (hs2:=hs2)⟩
theorem qe {o e:Expr}{es:List Expr}{m:FE}{a:FA}{f:FN}{name:Str}{apos cpos:Pos}{id:String}(slot:Slot "list" name id)(hty:typeOf (.builtin id)=pure (.type "method_descriptor"))(hm:HI X id (λx xs H Q=>rN X.K f (x::xs) H Q))(ho:XE X o m)(ha:XA X (e::es) a)(hbase:attributeBase o name X.env (eval o X.env)=eval o X.env:=by rfl)(hfew:((backTo cpos (c9 (e::es) X.env)).all (λx=> !x.1)&&(backToKw cpos (keywordEach [] X.env)).all (λx=>x.1.isSome)&&decide ((e::es).length+([]:List Keyword).length+(if([]:List Keyword).isEmpty then 0 else 1)<30))=M:=by rfl)(hline:(apos.endLine == cpos.line)=M:=by rfl)(hs:c9 (e::es) X.env=(J,eval e X.env)::c9 es X.env:=by rfl)(hplain:(backTo cpos (c9 es X.env)).any (·.1)=J:=by rfl):XE X (.Call (.Attribute o name apos) (e::es) [] cpos) (my f m a):=⟨Ao (slot:=slot) (hty:=hty) (hm:=hm) (ho:=ho.h) (ha:=ha.h) (hbase:=hbase) (hfew:=hfew) (hline:=hline) (hs:=hs) (hplain:=hplain)⟩
theorem LQ (i:Nat){x:Str}{pos:Pos}(hN:X.N[i]?=Z x:=by rfl)(hv:D8 X.env.scope x:=by first|exact Or.inl rfl|exact Or.inr (Or.inl rfl)|exact Or.inr (Or.inr rfl))(hd:(x == ("__debug__":Str))=J:=by decide)(hcd:(x == ("__classdict__":Str))=J:=by decide):XE X (.Name x pos) (mV i):=⟨mv (i:=i) (hN:=hN) (hv:=hv) (hd:=hd) (hcd:=hcd)⟩
end
section
theorem qH {X:Cx}{k k' n:Nat}{x:Str}{m:FN}{p pos:Pos}{e:Expr}{es:List Expr}{a:FA}(h:Own X.prog X.w X.K X.mg X.base k x n m)(hr:fB k' X.A)(hk:k<=k')(hg:Gl X x)(ha:XA X (e::es) a)(hdb:(x == ("__debug__":Str))=J:=by decide)(he:c9 (e::es) X.env=(J,eval e X.env)::c9 es X.env:=by rfl)(hpl:(backTo pos (c9 es X.env)).any (·.1)=J:=by rfl):XE X (.Call (.Name x p) (e::es) [] pos) (mN (dn n m) a):=⟨GA (h:=h) (hr:=hr) (hk:=hk) (hg:=hg) (ha:=ha.h) (hdb:=hdb) (he:=he) (hpl:=hpl)⟩
theorem yF {X:Cx}{x:Str}{d:D}{pos:Pos}(h:CGl X.K X.mg x d)(hg:Gl X x)(hd:(x == ("__debug__":Str))=J:=by decide):XE X (.Name x pos) (mC d):=⟨C8 (h:=h) (hg:=hg) (hd:=hd)⟩
end
section
variable{X:Cx}
structure Li (X:Cx)(K:Fg1)(tg:Expr)(ifs:List Expr)(elt:Expr)(g:FG)(t:FT)(e:FE):Prop where
 g:XG X tg g
 t:XF X K ifs t
 e:XE X elt e
end
theorem vE{P:c5}{w:c7}{K:Fg1}{mg:Str->Option cY}{base:de}{x c:Str}{st:dg}{f:c0}{fd:df}{N ps:List Str}{k n:Nat}{b:FS}(F:xa K x c st f fd)(hb:jd K fd ps [])(hm:mg x=some (.ref f))(S:gv N ps (dI st))(hn:ps.length=n)(e:∀(d:cY) (A:c6) (a:List Env) (s:cZ) (H:Hp) (E:XK),fB k (A.deeper (envOfC c (dI st) s.heap.objs.size f d)) ->
   vr (mW um P w K mg base N c (dI st) f d A a s H E).nox (fe st) b):Own P w K mg base (k+1) x n (hU N.length b):=
 F2 F hb hm S hn λd A a s H E g=>(e d A a s H E g).h
theorem EY{P:c5}{w:c7}{K:Fg1}{mg:Str->Option cY}{base:de}{x c:Str}{st:dg}{f:c0}{fd:df}{N ps:List Str}{k n:Nat}{b:FS}(F:xa K x c st f fd)(S:gv N ps (dI st))(hn:ps.length=n)(e:∀(d:cY) (A:c6) (a:List Env) (s:cZ) (H:Hp) (E:XK),fB k (A.deeper (envOfC c (dI st) s.heap.objs.size f d)) ->
   vr (mW um P w K mg base N c (dI st) f d A a s H E).nox (fe st) b):jK P w K mg base um (k+1) f fd ps (spM K n (hU N.length b)):=by
 subst hn;exact JA F S λd A a s H E g=>(e d A a s H E g).h
abbrev FV:=Ev->Sto->Option (List D×Ev×Sto)
def gg(c:List (Nat×List D))(g:FG)(t:FT)(b:FV):List D->FV
 |[]=>λr S=>if oW S c=M then Z ([],r,S)else Y
 |d::ds=>λr S=>if oW S c=M then(g d r S).bind λp=>(t p.1 p.2).bind λk=>if k.1=M then(b p.1 k.2).bind λq=>(gg c g t b ds q.2.1 q.2.2).map λz=>(q.1++z.1,z.2)else gg c g t b ds p.1 k.2 else Y
def ea(m:FE):FV:=λr S=>(m r S).map λq=>([q.1],r,q.2)
def eF(k:Nat)(keep:List Nat)(m:FI)(g:FG)(t:FT)(b:FV):FE:=λr S=>(m r S).bind λp=>
 (gg p.1.chk g t b p.1.items (lZ k keep r) p.2).bind λq=>if q.1.length<=da then Z (.ref q.2.2.length,q.2.2++[.lst q.1])else Y
section
variable{K:Fg1}{H H' H1:Hp}{mu mu' mu1:List c0}{S:Sto}{a:c0}
theorem Ext.aside(x:Ext mu mu' H H'):Ext (a::mu) (a::mu') H H' where
 pre:=bO.mpr ⟨O,x.pre⟩
 old:=λb o h n=>x.old b o h λz=>n (mC1 _ z)
 tup:=x.tup
 frz:=x.frz
 new:=λb h=>by
  rcases ay.mp h with h|h
  ·exact .inl (by rw[h];exact mS1)
  ·rcases x.new b h with q|q
   ·exact .inl (mC1 _ q)
   ·exact .inr q
theorem Ext.inner(x:Ext (a::mu) (a::mu') H H'):sw mu mu' H H':=⟨(bO.mp x.pre).2,x.tup,x.frz⟩
theorem Ext.held{o:HO}(x:Ext mu mu' H H')(ha:H a=Z o)(hn:a∉mu):H' a=Z o/\a∉mu':=by
 refine⟨x.old a o ha hn,λz=>?_⟩;rcases x.new a z with q|q
 ·exact hn q
 ·rw[ha]at q;cases q
theorem fC.exw{r:Ev}{σ:L2.St}(e:sw mu mu' H H')(h:fC K H mu r σ):fC K H' mu' r σ:=⟨h.len,λi d q=>by
 obtain⟨v,b,a⟩:=h.val i d q;exact⟨v,b,a.exw e⟩⟩
theorem oN.exw{b:c0}(e:sw mu mu' H H')(h:∀o,H b=Z o->H' b=Z o):∀{o:Ob},oN K H mu b o->oN K H' mu' b o
 | .lst _,⟨vs,q,r⟩=>⟨vs,h _ q,r.exw e⟩
 | .dct _,⟨ws,q,r⟩=>⟨ws,h _ q,Paired.mapP r λ_ _ z=>⟨z.1,z.2.exw e⟩⟩
 | .dcT _,⟨ws,q,r,l⟩=>⟨ws,h _ q,Paired.mapP r λ_ _ ⟨z,d,k,v,a,r⟩=>⟨z,d,k.exw e,v,a,r.exw e⟩,l⟩
 | .iset _,q=>⟨h _ q.1,q.2⟩
 | .dcF _,⟨ws,⟨o,u,f,c⟩,r,l⟩=>⟨ws,⟨o,u,h _ f,c⟩,Paired.mapP r λ_ _ ⟨z,d,k,v,a,r⟩=>⟨z,d,k.exw e,v,a,r.exw e⟩,l⟩
 | .tst _,⟨ws,q,r⟩=>⟨ws,h _ q,Paired.mapP r λ_ _ ⟨z,d,k,v,a,r⟩=>⟨z,d,k.exw e,v,a,r.exw e⟩⟩
theorem Sim.aside{u:HO}(s:Sim K H mu S)(e:sw mu mu H (upd H a u))(hn:a∉mu):Sim K (upd H a u) mu S:=
 ⟨s.len,s.nd,λk o b h1 h2=>(s.ob k o b h1 h2).exw e λo' q=>by rw[dM (λz=>hn (by rw[<- z];exact gM1 h2))];exact q⟩
end
inductive Kc (K:Fg1)(a:c0)(m:FV)(E:jL)(σ:L2.St)(H:Hp):Prop
 |mk (r:Ev) (mu:List c0) (S:Sto) (acc:List D) (vs:List V) (xs:List D) (r':Ev) (S':Sto):H a=some (.lst vs)->a∉mu->dD K H mu acc vs->fC K H mu r σ->Sim K H mu S->m r S=some (xs,r',S')->vs.length+xs.length<=da ->
 (∀ σ' H' mu' vs',Ext (a::mu) (a::mu') H H'->H' a=some (.lst vs')->a∉mu'->dD K H' mu' (acc++xs) vs'->fC K H' mu' r' σ'->Sim K H' mu' S'->E.nx σ' H')->Kc K a m E σ H
theorem tY{K:Fg1}{a:c0}{m:FE}{E:jL}{σ:L2.St}{H:Hp}(h:Kc K a (ea m) E σ H):vQ a (tM K m) E σ H:=by
 obtain⟨r,mu,S,s,vs,xs,w,u,l,f,p,i,t,g,o,hc⟩:=h;obtain⟨⟨d,k⟩,j,g⟩:=oM1.mp g;cases g;refine⟨r,mu,S,d,k,i,t,j,λv H1 mu1 e n q=>?_⟩;obtain⟨c,b⟩:=e.held l f;have put:Ext (a::mu1) (a::mu1) H1 (upd H1 a (.lst (vs++[v]))):=Ext.put c trivial mS1;refine⟨vs,c,o,?_⟩;exact hc σ _ mu1 (vs++[v]) (e.aside.trans put) dQ b (((p.ext e).append (.cons n .nil)).exw put.inner) ((i.ext e).exw put.inner) (q.aside put.inner b)
inductive Lp (K:Fg1)(a:c0)(mu2:List c0)(H:Hp)(c:List (Nat×List D))(g:FG)(t:FT)(b:FV)(r':Ev)(S':Sto)(tot:List D)(L:List D)(σ':L2.St)(H':Hp):Prop
 |mk (r3:Ev) (mu3:List c0) (S3:Sto) (acc3:List D) (vs3:List V) (xs3:List D):Ext (a::mu2) (a::mu3) H H'->H' a=some (.lst vs3)->a∉mu3->dD K H' mu3 acc3 vs3->fC K H' mu3 r3 σ'->Sim K H' mu3 S3->gg c g t b L r3 S3=some (xs3,r',S')->acc3++xs3=tot->vs3.length+xs3.length<=da->Lp K a mu2 H c g t b r' S' tot L σ' H'
theorem AE{K:Fg1}{a:c0}{j:It}{ag:yr}{g:FG}{t:FT}{b:FV}{tb:TS}{D:jL}(hb:∀ E σ H,Kc K a b E σ H->tb E σ H){mu1 e:List c0}{H1 H:Hp}{r I:Ev}{S N:Sto}{σ:L2.St}{m xs:List Mi.D}{vs:List V}(hJ:Lq K j ag mu1 H1)(x:sw mu1 e H1 H)(ha:H a=Z (.lst vs))(wq:a∉e)(hr:dD K H e m vs)(he:fC K H e r σ)(hs:Sim K H e S)(hm:gg ag.chk g t b ag.items r S=Z (xs,I,N))(hl:vs.length+xs.length<=da)(hc:∀h H' mu' B,Ext (a::e) (a::mu') H H'->H' a=Z (.lst B)->a∉mu'->dD K H' mu' (m++xs) B->fC K H' mu' I h->Sim K H' mu' N->D.nx h H'):Eh j (Ib K g) (B3 K t) tb D σ H:=by
 refine⟨λi k h H'=>k=(ag.items.drop i).length/\Lp K a e H ag.chk g t b I N (m++xs) (ag.items.drop i) h H',
  ⟨_,O,r,e,S,m,vs,xs,.refl _ _,ha,wq,hr,he,hs,hm,O,hl⟩,?_⟩
 rintro i k σ3 aj ⟨rfl,r3,n,S3,f,vs3,xs3,G,F,A,w,u,s3,c,s,l⟩;cases hd0:ag.items.drop i with
 |nil=>
  left;rw[hd0,gg]at c;dsimp only at c;split at c
  ·rename_i ok;cases c;refine⟨(hJ i aj n _ (x.trans G.inner) s3 ok).2 (List.drop_eq_nil_iff.mp hd0),hc σ3 aj n vs3 G F A ?_ u s3⟩;rw[<- s,aG];exact w
  ·cases c
 |cons d ds=>
  right;rw[hd0]at c;obtain⟨hi,hd⟩:=mG hd0;rw[gg]at c;dsimp only at c;split at c
  ·rename_i ok;obtain⟨⟨L,S4⟩,e4,c⟩:=oB1.mp c;obtain⟨⟨k5,Q⟩,e5,c⟩:=oB1.mp c;obtain⟨go,yl⟩:=(hJ i aj n _ (x.trans G.inner) s3 ok).1 d hi;refine⟨go,Lp K a e H ag.chk g t b I N (m++xs) ds,?_,λy H4 yy=>?_⟩
   ·intro h H' h6;exact⟨ds.length,bt _,(congrArg List.length hd).symm,hd.symm ▸ h6⟩
   ·obtain⟨ah,s4,q4⟩:=yl y H4 yy;obtain⟨X,U⟩:=ah.held F A;refine⟨r3,n,S3,d,L,S4,u.ext ah,s4,q4,e4,fun σ5 H5 mu5 P p s5=>?_⟩;obtain⟨ha5,T⟩:=P.held X U;refine⟨L,mu5,S4,k5,Q,p,s5,e5,λH6 q x6 s6=>?_⟩;obtain⟨z,C⟩:=x6.held ha5 T;have xx:=((G.trans ah.aside).trans P.aside).trans x6.aside;have o:dD K H6 q f vs3:=((w.ext ah).ext P).ext x6;cases k5 with
    |true=>
     obtain⟨⟨q1,r7,S7⟩,e7,c⟩:=oB1.mp c;obtain⟨⟨z1,r8,S8⟩,e8,c⟩:=oM1.mp c;cases c;refine hb _ _ _ ⟨L,q,Q,f,vs3,q1,r7,S7,z,C,o,p.ext x6,s6,e7,?_,fun σ8 H8 ai vs8 x8 R hn8 v W s8=>⟨r7,ai,S7,f++q1,vs8,z1,xx.trans x8,R,hn8,v,W,s8,e8,?_,?_⟩⟩
     ·rw[lA1]at l;dsimp only at l;lia
     ·rw[<- s,bx]
     ·have:=v.length;have h3:=o.length;rw[lA1]at this l;dsimp only at l;lia
    |false=>exact⟨L,q,Q,f,vs3,xs3,xx,z,C,o,p.ext x6,s6,c,s,l⟩
  ·cases c
theorem t6{K:Fg1}{k:Nat}{keep:List Nat}{m:FI}{g:FG}{t:FT}{b:FV}{tb:c0->TS}(hb:∀ a E σ H,Kc K a b E σ H->tb a E σ H){σ:L2.St}{H:Hp}{Q:VK}(h:tM K (eF k keep m g t b) σ H Q):
  ze k keep (Ky K m) (Ib K g) (B3 K t) tb σ H Q:=by
 obtain⟨r,mu,S,d,ai,G,W,f,hc⟩:=h;obtain⟨⟨ag,X⟩,aj,f⟩:=oB1.mp f;obtain⟨⟨xs,r2,N⟩,T,f⟩:=oB1.mp f;dsimp only at f;split at f
 ·rename_i V;cases f;refine ⟨r,mu,S,ag,X,G,W,aj,fun j H1 mu1 F R I p i=>?_⟩;have w:Ext mu1 mu1 H1 (upd H1 p (.lst [])):=Ext.fresh i;refine AE (hb p) R w.w dQ (I.notin i) .nil ((Jr k keep (G.ext F)).ext w) (I.fresh i) T (by simpa using V) fun U H' mu' l s B C x P s'=>?_;have y:Ext mu1 (mu'++[p]) H1 H':=by
   refine⟨((bO.mp s.pre).2).trans (bn _ _),λb o e n=>?_,λb ys e=>s.tup b ys (w.tup b ys e),λb o u e=>s.frz b o u (w.frz b o u e),λb D=>?_⟩
   ·have L:b≠p:=dZ e i;exact s.old b o (by rw [dM L];exact e) fun z=>by
     rcases ay.mp z with z|z
     ·exact L z
     ·exact n z
   ·rcases az.mp D with z|z
    ·rcases s.new b (mC1 _ z)with q|q
     ·rcases ay.mp q with q|q
      ·exact .inr (by rw[q];exact i)
      ·exact .inl q
     ·by_cases v:b=p
      ·exact .inr (by rw[v];exact i)
      ·rw[dM v]at q;exact .inr q
    ·have:b=p:=by simpa using z
     exact .inr (by rw[this];exact i)
  refine hc _ H' (mu'++[p]) (F.trans y) (.ref (gm s'.len p)) ⟨by rw[lA1,lA1,s'.len];rfl,?_,λn o b h1 h2=>?_⟩
  ·rw[bp];refine⟨s'.nd,by simp,λb hb c hc e=>?_⟩;have:c=p:=by simpa using hc
   subst this;subst e;exact C hb
  ·by_cases ah:n<N.length
   ·rw[gL1 ah]at h1;rw[gL1 (by rw[s'.len];exact ah)]at h2;exact(s'.ob n o b h1 h2).mor [p]
   ·have A:n=N.length:=by
     have:=(gE1.mp h1).1;rw[lA1]at this;simp at this;lia
    subst A;rw[gR1 (nR1 _)]at h1;rw[<- s'.len,gR1 (nR1 _)]at h2;simp at h1 h2;subst h1;subst h2;exact⟨l,B,(by simpa using x:dD K H' mu' xs l).mor [p]⟩
 ·cases f
section
variable{X:Cx}
theorem qZ{elt tg iter:Expr}{ifs:List Expr}{scope:dh}{pos:Pos}{T:List Str}{keep:List Nat}{i:List (Str×c0)}{m:FI}{g:FG}{t:FT}{e:FE}(hc:X.calm=M)(C:J7 X scope T keep)(c:j4 X.env.cells scope.names []=Z i)(hi:XI X tg iter m)(hb:∀s H b,Li (cxC X scope i T keep s H b) X.K tg ifs elt g t e)(hs:∀x,foldedSetIterable iter X.env x=pure x:=by intro _;rfl):XE X (.ListComp elt [⟨tg,iter,ifs,0⟩] scope pos) (eF T.length keep m g t (ea e)):=
 ⟨eg (CG (emit:=tZ elt) (tb:=λp=>vQ p (tM X.K e)) hc (λit f d=>yY elt tg iter ifs scope pos it f d) C c hi.h (λs H b p=>⟨(hb s H b).g.h,(hb s H b).t.h,v8 (hb s H b).e.h p⟩) hs)
  fun σ H Q h=>t6 (λa E σ H q=>tY q) h⟩
theorem pd{elt tg iter:Expr}{ifs:List Expr}{scope:dh}{pos b l:Pos}{y:Str}(i:Nat){T:List Str}{keep:List Nat}{n:List (Str×c0)}{m:FI}{g:FG}{t:FT}{e:FE}(hc:X.calm=M)(C:J7 X scope T keep)(d:j4 X.env.cells scope.names []=Z n)(hi:XI X tg iter m)(hb:∀s H c,Li (cxC X scope n T keep s H c) X.K tg ifs elt g t e)(hN:X.N.Nodup)(hy:X.N[i]?=Z y)(hx:yq X.env.scope y)(j:swapsWith (.ListComp elt [⟨tg,iter,ifs,0⟩] scope pos) (Z (.Name y l)) b.line X.env=pure M:=by rfl)(hf:X.fn y=M\/X.env.scope.names.lookup y=Z .local:=by first|exact .inl rfl|exact .inr rfl|assumption)(hs:∀x,foldedSetIterable iter X.env x=pure x:=by intro _;rfl):XS X (.Assign [.Name y l] (.ListComp elt [⟨tg,iter,ifs,0⟩] scope pos) b) (dE (eF T.length keep m g t (ea e)) (gN i)):=
 ⟨iQ (Ct (emit:=tZ elt) (tb:=λp=>vQ p (tM X.K e)) hc j (λit k f=>yY elt tg iter ifs scope pos it k f) C d hi.h (λs H c p=>⟨(hb s H c).g.h,(hb s H c).t.h,v8 (hb s H c).e.h p⟩) hN hy hx hf hs)
  λE σ H h=>Hy (fun σ H Q q=>t6 (λa E σ H q=>tY q) q) h⟩
end
def rj:D->Option Key
 | .int i=>Z (.inl i)
 | .str x=>Z (.inr x)
 |_=>Y
def dF{κ:Type}[DecidableEq κ](kvs:List (κ×D))(k:κ):Option D:=(kvs.find? λp=>decide (p.1=k)).map (·.2)
def gO{κ:Type}[DecidableEq κ](kvs:List (κ×D))(k:κ)(d:D):List (κ×D):=
 if(kvs.any λp=>decide (p.1=k))=M then kvs.map (λp=>if p.1=k then(p.1,d)else p)else kvs++[(k,d)]
section
variable{K:Fg1}{H:Hp}{mu:List c0}
theorem ll{d:D}{v:V}{k:Key}(r:eP K H mu d v)(h:rj d=Z k):v=kV k:=by
 cases r with
 |int i=>cases h;rfl
 |str x=>cases h;rfl
 |_=>cases h
end
section
variable{κ:Type} [DecidableEq κ] {K:Fg1}{H:Hp}{mu:List c0}
theorem KR.length:∀{ks:List (κ×D)} {ws:List (κ×V)},KR K H mu ks ws->ks.length=ws.length:=λh=>Paired.length h
theorem KR.look{k:κ}:∀ {ks:List (κ×D)} {ws:List (κ×V)},KR K H mu ks ws ->
  (∀d,dF ks k=Z d -> ∃v,gD ws k=Z v/\eP K H mu d v)/\(dF ks k=Y->gD ws k=Y):=by
 intro ks ws h
 induction h with
 |nil=>exact⟨λd h=>by simp[dF]at h,λ_=>rfl⟩
 | @cons p q ks ws r t ih=>
  obtain⟨b,f⟩:=p;obtain⟨j,c⟩:=q;obtain⟨e,r⟩:=r;dsimp only at e r;subst e;obtain⟨h1,h2⟩:=ih;by_cases a:b=k
  ·subst a;refine⟨λd h=>?_,λh=>?_⟩
   ·have:f=d:=by simpa[dF]using h
    subst this;exact⟨c,by simp[gD],r⟩
   ·simp[dF]at h
  ·have g:dF ((b,f)::ks) k=dF ks k:=by simp[dF,aU,a]
   have i:gD ((b,c)::ws) k=gD ws k:=by simp[gD,aU,a]
   rw[g,i];exact⟨h1,h2⟩
theorem KR.any{k:κ}:∀{ks:List (κ×D)} {ws:List (κ×V)},KR K H mu ks ws->(ks.any λp=>decide (p.1=k))=ws.any λp=>decide (p.1=k):=by
 intro ks ws h
 induction h with
 |nil=>rfl
 |cons r t ih=>rw[aV,aV,ih,r.1]
theorem KR.repl{k:κ}{d:D}{v:V}(q:eP K H mu d v):∀ {ks:List (κ×D)} {ws:List (κ×V)},KR K H mu ks ws ->
  KR K H mu (ks.map λp=>if p.1=k then(p.1,d)else p) (ws.map λp=>if p.1=k then(p.1,v)else p):=by
 intro ks ws h
 induction h with
 |nil=>exact .nil
 | @cons a b ks ws r t ih=>
  refine .cons ?_ ih;obtain⟨e,r⟩:=r;dsimp only;by_cases h:a.1=k
  ·rw[ae h,ae (e ▸ h)];exact⟨e,q⟩
  ·rw[ab h,ab (e ▸ h)];exact⟨e,r⟩
theorem KR.snoc{k:κ}{d:D}{v:V}(q:eP K H mu d v):∀{ks:List (κ×D)} {ws:List (κ×V)},KR K H mu ks ws->KR K H mu (ks++[(k,d)]) (ws++[(k,v)]):=by
 intro ks ws h
 induction h with
 |nil=>exact .cons ⟨O,q⟩ .nil
 |cons r t ih=>exact .cons r ih
theorem KR.put{k:κ}{d:D}{v:V}(q:eP K H mu d v){ks:List (κ×D)}{ws:List (κ×V)}(h:KR K H mu ks ws):KR K H mu (gO ks k d) (iP ws k v):=by
 unfold gO iP;rw[h.any];split
 ·exact h.repl q
 ·exact h.snoc q
end
def u7:G2:=λd e S=>match e with
 | .ref n=>match S[n]? with
  |some (.dct kvs)=>(rj d).map λk=>(.bl (dF kvs k).isSome,S)
  |_=>HN d e S
 |_=>HN d e S
def iU:G2:=λd e S=>match e with
 | .ref n=>match S[n]? with
  |some (.dct kvs)=>(rj d).map λk=>(.bl (!(dF kvs k).isSome),S)
  |_=>l0 d e S
 |_=>l0 d e S
def mT:G2:=λd e S=>match d with
 | .ref n=>match S[n]? with
  |some (.dct kvs)=>(rj e).bind λk=>(dF kvs k).map λx=>(x,S)
  |_=>BN d e S
 |_=>BN d e S
def mE:G3:=λo i v S=>match o with
 | .ref n=>match S[n]? with
  |some (.dct kvs)=>(rj i).bind λk=>if kvs.length<da then Z (.non,S.set n (.dct (gO kvs k v)))else Y
  |_=>ku o i v S
 |_=>ku o i v S
section
variable{X:Cx}
theorem nX{K:Fg1}{H:Hp}{mu:List c0}{S:Sto}(hs:Sim K H mu S){n:Nat}{a:c0}{kvs:List (Key×D)}{k:Key}{y:V}(hn:mu[n]? = some a)(he:S[n]? = some (.dct kvs))(hy:y=kV k):
  ∃o:Option V,pb H a y o/\(∀d,dF kvs k=Z d -> ∃v,o=Z v/\eP K H mu d v)/\(dF kvs k=Y->o=Y)/\o.isSome=(dF kvs k).isSome:=by
 obtain⟨ws,f,b⟩:=hs.dct he hn;subst hy;obtain⟨h1,h2⟩:=b.look (k:=k);refine⟨gD ws k,pb.k f,h1,h2,?_⟩;cases e:dF kvs k with
 |none=>rw[h2 e];rfl
 |some d=>obtain⟨v,c,_⟩:=h1 d e;rw[c];rfl
theorem IS(m:X.A.units+64<cLine):fY X (compareOp .In) (r2 X.K (b2 u7)):=by
 intro Z8 s σ H x y u w Q I f l h;obtain⟨mu,S,d,e,r,i,j,b,c,a,hc⟩:=ut h;have back:HN d e S=Z (r,i)->db (model X.prog X.w) X.A (compareOp .In u w) (EP X Z8 σ Q) X.xe s:=λa=>KO m Z8 s σ H x y u w Q I f l ⟨mu,S,[d,e],r,i,.cons j (.cons b .nil),c,a,hc⟩;unfold u7 at a;split at a
 ·rename_i n;split at a
  ·rename_i kvs p;obtain⟨k,v,a⟩:=oM1.mp a;cases a;cases b with
   |ref t=>
    cases l;obtain⟨o,g,_,_,hi⟩:=nX c t p (ll j v);exact K6 (by lia) I g f λs' q=>⟨.bl o.isSome,H,q,O,by rw[hi];exact hc.now (.bl _) c⟩
  ·exact back a
 ·exact back a
theorem z0(m:X.A.units+64<cLine):fY X (compareOp .NotIn) (r2 X.K (b2 iU)):=by
 intro Z8 s σ H x y u w Q I f l h;obtain⟨mu,S,d,e,r,i,j,b,c,a,hc⟩:=ut h;have back:l0 d e S=Z (r,i)->db (model X.prog X.w) X.A (compareOp .NotIn u w) (EP X Z8 σ Q) X.xe s:=λa=>CQ m Z8 s σ H x y u w Q I f l ⟨mu,S,[d,e],r,i,.cons j (.cons b .nil),c,a,hc⟩;unfold iU at a;split at a
 ·rename_i n;split at a
  ·rename_i kvs p;obtain⟨k,v,a⟩:=oM1.mp a;cases a;cases b with
   |ref t=>
    cases l;obtain⟨o,g,_,_,hi⟩:=nX c t p (ll j v);exact DS (by lia) I g f λs' q=>⟨.bl (!o.isSome),H,q,O,by rw[hi];exact hc.now (.bl _) c⟩
  ·exact back a
 ·exact back a
theorem HR(P:X.A.units+64<cLine):EV X (r2 X.K (b2 mT)):=by
 intro value b Z8 s σ H x y v u Q I w B h j;obtain⟨mu,S,d,e,r,C,A,l,q,c,hc⟩:=ut h;have back:BN d e S=Z (r,C)->db (model X.prog X.w) X.A (subscriptTail value b v u) (EP X Z8 σ Q) X.xe s:=λc=>Ko value b Z8 s σ H x y v u Q I w B ⟨mu,S,[d,e],r,C,.cons A (.cons l .nil),q,c,hc⟩ j;unfold mT at c;split at c
 ·rename_i n;split at c
  ·rename_i kvs F;obtain⟨k,E,c⟩:=oB1.mp c;obtain⟨z,aj,c⟩:=oM1.mp c;cases c;cases A with
   | @ref _ a D=>
    cases w;obtain⟨o,g,h1,_,_⟩:=nX q D F (ll l E);obtain⟨K,G,L⟩:=h1 _ aj;subst G;have t:=t0 I g;unfold subscriptTail;refine wB1 ?_;rw[getitemInPython_of_ne t.not_modules];refine wB1 (wpAny_specialOf t PySem.F.slot_dict_getitem.lookup ?_);have i:db (model X.prog X.w) X.A (subscripted b J (.ref a) u) (λr f=>db (model X.prog X.w) X.A (letTemporaryGo value (.ref a) r >>= λ_=>pure r) (EP X Z8 σ Q) X.xe f) X.xe s:=by
     rw[j];exact wpAny_operating (wpAny_mono (yd (by lia) I g B λN ah ag p=>(⟨K,H,ag,p,hc.now L q⟩:EP X Z8 σ Q N ah)) (λr f m=>wB1 (wpAny_letTemporaryGo (wP1 m))) λ_ _ x=>x)
    first
     |exact wP1 (wB1 i)
     |exact wB1 i
     |exact i
  ·exact back c
 ·exact back c
theorem Fk(L:X.A.units+64<cLine):vx X (rU X.K (b3 mE)):=by
 intro Z8 s σ H o i v w f u Q I g p t h;obtain⟨mu,S,ds,d,j,F,e,a,hc⟩:=id h;cases F with
 |cons q C=>cases C with
  |cons l K=>cases K with
   |cons m ag=>
    cases ag;rename_i y r z;dsimp only[b3]at a;have back:ku y r z S=Z (d,j)->db (model X.prog X.w) X.A (setItem w f u) (λ_ s'=>∃H',Inv X Z8 σ H' s'/\Q H') X.xe s:=λa=>Ip Z8 s σ H o i v w f u Q I g p t ⟨mu,S,[y,r,z],d,j,.cons q (.cons l (.cons m .nil)),e,a,hc⟩;unfold mE at a;split at a
    ·rename_i n;split at a
     ·rename_i kvs D;obtain⟨k,B,a⟩:=oB1.mp a;split at a
      ·rename_i E;cases a;cases q with
       |ref c=>
        cases g;obtain⟨ws,b,x⟩:=e.dct D c;have G:=ll l B;subst G;refine yc (by lia) I (yt.k b (by rw[<- x.length];exact E)) p t λs' A=>⟨_,A,?_⟩;have put:Ext mu mu H (upd H _ (.dK (iP ws k v))):=Ext.put b trivial (gM1 c);exact hc _ mu put (e.put c b trivial ⟨_,dQ,(x.put m).ext put⟩)
      ·cases a
     ·exact back a
    ·exact back a
def ik:FE:=λ_ S=>Z (.ref S.length,S++[.dct []])
theorem ix{pos:Pos}:XE X (.Dict [] [] pos) ik:=⟨eg zO <| by
 rintro σ H Q ⟨r,mu,S,d,f,e,b,c,hc⟩ p a;cases c;exact hc _ _ (mu++[p]) (Ext.new_ a) (.ref (gm b.len p)) (b.new a ⟨[],dQ,.nil⟩)⟩
structure XP (X:Cx)(pos:Pos)(ks:List (Option Expr))(vs:List Expr)(l:List (FE×FE)):Prop where
 h:Mx X pos ks vs (l.map λp=>(tM X.K p.1,tM X.K p.2))
theorem G0{K:Fg1}{H:Hp}{mu:List c0}{S:Sto}(hs:Sim K H mu S){n:Nat}{a:c0}{kvs:List (Key×D)}(hn:mu[n]?=Z a)(he:S[n]?=Z (.dct kvs)):Lr H a:=by
 obtain⟨ws,b,_⟩:=hs.dct he hn;exact .inl ⟨ws,.inl b⟩
end
section
variable{K:Fg1}{H H':Hp}{mu mu':List c0}{S:Sto}
end
theorem zS{P:c5}{w:c7}{K:Fg1}{mg:Str->Option cY}{base:de}{x a:Str}{st:dg}{f:c0}{fd:df}{ps:List Str}{k n:Nat}(F:xa K x a st f fd)(hb:jd K fd ps [])(hm:mg x=Z (.ref f)):Own P w K mg base k x n (λ_ _=>Y):=by
 have no:∀vs H Q E,¬ spM K n (λ_ _=>Y) vs H Q E:=λvs H Q E h=>by
  obtain⟨_,mu,S,ds,d,i,_,_,e,_⟩:=h;cases e
 exact⟨f,fd,ps,⟨λvs H Q E h=>absurd h (no vs H Q E),λA b s H c g vs Q E _ _ _ _ h=>absurd h (no vs H Q E)⟩,hb,F.kp,hm⟩
theorem kG{X:Cx}(i j:Nat){x y:Str}{a b:Expr}{m:FA}{n k pt pos:Pos}{kt k2 pt2}(hc:X.calm=true)(hN:X.N.Nodup)(hi:X.N[i]? = some x)(v:X.N[j]? = some y)(l:i≠j)(hx:X.env.scope.names.lookup x=some .local)(hy:X.env.scope.names.lookup y=some .local)(ha:XA X [a,b] m)(hw:swappedStores [.Tuple [.Name x n,.Name y k] kt pt] (.Tuple [a,b] k2 pt2) X.env=pure (some [x,y]):=by rfl)(hs:swapsWithSole [.Tuple [.Name x n,.Name y k] kt pt] (.Tuple [a,b] k2 pt2) pos.line X.env=pure false:=by rfl):
  XS X (.Assign [.Tuple [.Name x n,.Name y k] kt pt] (.Tuple [a,b] k2 pt2) pos) (dE (dJ m) (gT 2 (fu (gN i) (fu (gN j) jf)))):=
 ⟨iQ (Fy hc hN hi v l hx hy ha.h hw hs) <| by
  rintro E σ H ⟨r,mu,S,f,w,B,p,hs,g,hc⟩;obtain⟨⟨d,A⟩,e,g⟩:=oB1.mp g;obtain⟨⟨r2,C⟩,c,g⟩:=oB1.mp g;cases g;obtain⟨⟨ds,z⟩,u,e⟩:=oB1.mp e;dsimp only at e;split at e
  ·cases e;refine⟨r,mu,S,ds,_,p,hs,u,λvs H1 mu1 o h t=>?_⟩;dsimp only at c;rw[gT]at c;split at c
   ·cases h with
    |nil=>cases c
    |cons s h=>cases h with
     |nil=>cases c
     |cons q h=>cases h with
      |nil=>
       cases c;exact⟨_,_,O,hc _ H1 mu1 o (((p.ext o).set s).set q) t⟩
      |cons _ _=>cases c
   ·cases c
  ·cases e⟩
end Mi
namespace HT
open PySem PySem.Spec PyProof.Rows
variable{prog:c5}{w:c7}{A:c6}{E:cY->cZ->Prop}{s:cZ}
theorem j0{t e:c0}{items:Array cY}{f g:cY}{lo hi:Option Int}{Q:cY->cZ->Prop}(ht:IsTup s.heap t items)(hs:s.heap.IsSliceOf e f g .none)(pl:IsPart f lo)(j:IsPart g hi)(hw:sIx items.size 0 lo=0/\sIx items.size items.size hi=items.size)(h:Q (.ref t) s):db (model prog w) A (getItem (.ref t) (.ref e)) Q E s:=by
 obtain⟨i,b,d,k⟩:=id hs;have c:s.TypeIs (.ref e) "slice":=⟨i,b,d⟩;unfold getItem
 try with_reducible refine wpAny_holding ?_
 first|refine wB1 (wP1 ?_)|skip
 refine wB1 (wpAny_sequenceKey ht.typeIs (by decide) ?_);refine wB1 (wpAny_callSpecial?_slot (name:=Str.ofString "__getitem__") ht.typeIs PyProof.Rows.slot_tuple_getitem
  (wE1 PyProof.Rows.slot_tuple_getitem ht.typeIs entry_tuple_getitem ?_ (args_tuple_getitem _ _)))
 show db _ _ (Builtin.Tuple.tupleItemsOf (.ref t) >>= _) _ _ s;refine wB1 (tupleItemsOf_ ht ?_);refine wB1 (wpAny_typeOf c ?_);rw[ae (by decide)];refine wB1 (iy hs pl j ?_);have a:((((sIx items.size 0 lo:Nat):Int) == 0&&(1:Int) == 1&&(sIx items.size items.size hi-sIx items.size 0 lo) == items.size)=M):=by
  rw[hw.1,hw.2];simp
 show db _ _ (if(((sIx items.size 0 lo:Nat):Int) == 0&&(1:Int) == 1&&(sIx items.size items.size hi-sIx items.size 0 lo) == items.size)=M then _ else _) _ _ s;rw[ae a];refine wB1 ?_;unfold Builtin.Tuple.tupleIsExact;refine wB1 (wpAny_typeOf ht.typeIs (wP1 ?_));rw[ae (by decide)]
 first
  |exact wB1 (wpAny_rule (wP1 ⟨_,rfl,wP1 h⟩))
  |exact wB1 (wpAny_rule (wB1 (wP1 ⟨_,rfl,wP1 h⟩)))
end HT
namespace Mi
open PySem PySem.Spec PyProof.Rows L2
def KH(K:Fg1):V->Option Int->Option Int->Hp->VK->Prop:=λx lo hi H Q=>∃a xs,x = .ref a/\jJ K H a xs/\(HT.sIx xs.length 0 lo=0/\HT.sIx xs.length xs.length hi=xs.length)/\Q (.ref a) H
section
variable{X:Cx}
theorem Cc:BP X (KH X.K):=by
 intro Z8 s σ H x v k l lo hi m Q I e j pl i h;obtain⟨a,xs,rfl,f,g,q⟩:=h;cases e;obtain⟨c,r,d,n⟩:=I.tuple f;have b:c.toArray.size=xs.length:=by rw[sT1];exact r.length.symm
 refine⟨"tuple",_,PyProof.Rows.slot_tuple_getitem.lookup,d.typeIs,?_⟩;exact HT.j0 d j pl i (by rw[b];exact g) ⟨.ref a,H,I,O,q⟩
def zn(S:Sto)(d:D)(lo hi:Option Int):Option (D×Sto):=(dH S d).map λp=>if p.1=M then(.ref S.length,S++[.lst (Mi.iI p.2 lo hi)])else(.tup (Mi.iI p.2 lo hi),S)
def kr(m:FE)(lo hi:FO):FE:=λr S=>(m r S).bind λp=>(lo r p.2).bind λa=>(hi r a.2).bind λb=>zn b.2 p.1 a.1 b.1
theorem ye{xs:List D}{lo hi:Option Int}(h:HT.sIx xs.length 0 lo=0/\HT.sIx xs.length xs.length hi=xs.length):Mi.iI xs lo hi=xs:=by
 unfold Mi.iI;rw[h.1,h.2,List.drop_zero,Nat.sub_zero,bP]
theorem fv{e:Expr}{lo hi:Option Expr}{m:FE}{a b:FO}{pos p2:Pos}(h:XE X e m)(G:XO X lo a)(C:XO X hi b):XE X (.Subscript e (.Slice lo hi Y p2) pos) (kr m a b):=
 ⟨eg (zM (BP.or Cc (BP.or Fh Cd)) h.h G.h C.h) <| by
  rintro σ H Q ⟨r,mu,S,d,P,w,K,f,hc⟩;obtain⟨⟨N,z⟩,B,f⟩:=oB1.mp f;obtain⟨⟨l,A⟩,D,f⟩:=oB1.mp f;obtain⟨⟨n,ag⟩,F,f⟩:=oB1.mp f;refine⟨r,mu,S,N,z,w,K,B,λv H1 mu1 o L E=>?_⟩;refine⟨r,mu1,z,l,A,w.ext o,E,D,λH2 x x2 I=>?_⟩;refine⟨r,x,A,n,ag,(w.ext o).ext x2,I,F,λaj g y j=>?_⟩;obtain⟨⟨k,xs⟩,ah,f⟩:=oM1.mp f;have u:=(o.trans x2).trans y;obtain⟨c,vs,rfl,q,t⟩:=dB ((L.ext x2).ext y) j ah;cases k with
  |true=>
   cases f;right;right;exact⟨c,vs,O,q,λp i=>hc _ _ (g++[p]) (u.trans (Ext.new_ i)) (.ref (gm j.len p)) (j.newL (wV t l n) i)⟩
  |false=>
   simp only[bF1,if_false]at f;cases f;by_cases s:HT.sIx xs.length 0 l=0/\HT.sIx xs.length xs.length n=xs.length
   ·left;rw[ye s]at hc;exact⟨c,vs,O,q,by rw[<- t.length];exact s,hc _ _ g u (.tup q t) j⟩
   ·right;left;exact⟨c,vs,O,q,by rw[<- t.length];exact s,λp i=>hc _ _ g (u.trans (Ext.fresh i)) (.tup (jJ.of dQ) ((wV t l n).ext (Ext.fresh i))) (j.fresh i)⟩⟩
end
mutual
inductive eN (h:de):TK->cY->Prop
 |non:eN h .non .none
 |int (i t):eN h (.int i) (.int i t)
 |tup {a o items n xs}:h.get? a=some o->o.cls = .type "tuple"->o.data = .seq items n->eW h xs items.toList->eN h (.tup xs) (.ref a)
inductive eW (h:de):List TK->List cY->Prop
 |nil:eW h [] []
 |cons {k v ks vs}:eN h k v->eW h ks vs->eW h (k::ks) (v::vs)
end
section
variable{prog:c5}{w:c7}{A:c6}{E:cY->cZ->Prop}{s:cZ}
theorem sN{Q:Int->cZ->Prop}(h:Q 0xFCA86420 {s with toks:=s.toks+1}):db (model prog w) A (pyHash .none) Q E s:=by
 have a:s.TypeIs .none "NoneType":=rfl;unfold pyHash
 first|unfold pyHashByItsType|skip
 have b:[Value.none].any Value.onHeap=J:=rfl;refine wB1 ?_;rw[cRoomFor,ab (by rw[b];exact aD)];refine wP1 ?_;refine wB1 (wpAny_specialOf a F.slot_NoneType_hash.lookup ?_);show db _ _ (if(Z (Value.builtin "NoneType.__hash__") == Z Value.none)=M then _ else _) Q E s;rw[ab (by rw[beq_builtin_none];exact aD)];refine wB1 (wpAny_specialOf a F.slot_NoneType_hash.lookup ?_);show db _ _ (callSpecialIfBoundUnlessNone? .none "__hash__" _ >>= _) Q E s;refine wB1 (wpAny_callSpecialIfBoundUnlessNone?_slot a F.slot_NoneType_hash (wE1 F.slot_NoneType_hash a F.entry_NoneType_hash (show db _ _ (retInt 0xFCA86420) _ _ s from wpAny_ret_mkInt ?_) (F.args_NoneType_hash_1 _)));exact wP1 h
def sn(prog:c5)(w:c7)(k:TK):Prop:=∀{A:c6} {E:cY->cZ->Prop} {s:cZ} {v:cY} {Q:Int->cZ->Prop},A.units+k.dep<cLine->eN s.heap k v->Q k.hash {s with toks:=s.toks+k.draws}->db (model prog w) A (pyHash v) Q E s
theorem eW.split{h:de}:∀{ks:List TK} {vs:List cY},eW h ks vs->ks.length=vs.length:=λa=>a.rec (motive_1:=λ_ _ _=>True) (motive_2:=λks vs _=>ks.length=vs.length) trivial (λ_ _=>trivial) (λ_ _ _ _ _=>trivial) O (λ_ _ _ ih=>congrArg (· + 1) ih)
theorem AV{xs:List TK}(all:∀k∈xs,sn prog w k):sn prog w (.tup xs):=by
 intro A E s v Q t u h;cases u with
 | @tup a o l n _ p hc r hi=>
  have i:s.TypeIs (.ref a) "tuple":=⟨o,p,hc⟩;rw[TK.dep]at t;unfold pyHash
  first|unfold pyHashByItsType|skip
  first|refine wB1 (wpAny_cRoomFor_or (.inr (by lia)) ?_)|skip
  refine wB1 (wpAny_specialOf i F.slot_tuple_hash.lookup ?_);show db _ _ (if(Z (Value.builtin "tuple.__hash__") == Z Value.none)=M then _ else _) Q E s;rw[ab (by rw[beq_builtin_none];exact aD)];refine wB1 (wpAny_specialOf i F.slot_tuple_hash.lookup ?_);show db _ _ (callSpecialIfBoundUnlessNone? (.ref a) "__hash__" _ >>= _) Q E s;refine wB1 (wpAny_callSpecialIfBoundUnlessNone?_slot i F.slot_tuple_hash (wE1 F.slot_tuple_hash i F.entry_tuple_hash ?_ (F.args_tuple_hash_1 _)));show db _ _ (Builtin.Tuple.tupleItemsOf (.ref a) >>= _) _ _ s;refine wB1 (wpAny_tupleItemsOf p r ?_);refine wB1 ?_;rw[<- bQ];refine wpAny_forIn_list _
   (λrest (b:Array Int) s'=>∃done c,xs=done++c/\eW s.heap c rest/\b.toList=TK.hashes done/\s'={s with toks:=s.toks+TK.drawsAll done})
   _ ?_ ?_ _ _ ⟨[],xs,O,hi,O,O⟩
  ·rintro x rest b s' ⟨done,c,e,m,g,rfl⟩;cases m with
   | @cons k _ f _ h1 d=>
    have q:k∈xs:=by rw[e];simp
    refine wB1 (all k q (show A.in1.units+k.dep<cLine by have:=TK.dep_mem q;rw[show A.in1.units=A.units+1 from rfl];lia) h1 ?_)
    first
     |exact wP1 ⟨done++[k],f,by simp[e],d,by rw[TK.hashes_app];simp[g,TK.hashes],by rw[TK.draws_app];simp[TK.drawsAll,bb]⟩
     |exact wB1 (wP1 (wP1 ⟨done++[k],f,by simp[e],d,by rw[TK.hashes_app];simp[g,TK.hashes],by rw[TK.draws_app];simp[TK.drawsAll,bb]⟩))
  ·rintro b s' ⟨done,c,e,m,g,rfl⟩;cases m;rw[aG]at e;subst e;show db _ _ (retInt (Builtin.Tuple.tupleHashOf b.toList)) _ _ _;rw[g];refine wpAny_ret_mkInt ?_;show db _ _ (if(decide (-(2:Int)^63<=Builtin.Tuple.tupleHashOf (TK.hashes xs))&&decide (Builtin.Tuple.tupleHashOf (TK.hashes xs)<2^63))=M then _ else _) Q E _;rw[TK.hash,TK.draws]at h;unfold reduceHash at h;by_cases j:(decide (-(2:Int)^63<=Builtin.Tuple.tupleHashOf (TK.hashes xs))&&decide (Builtin.Tuple.tupleHashOf (TK.hashes xs)<2^63))=M
   ·rw[ae j];rw[ae j]at h;exact wP1 (by simpa[bb]using h)
   ·rw[ab j];rw[ab j]at h;exact wB1 (wpAny_rule (wP1 (by simpa[bb]using h)))
mutual
theorem rv:∀k:TK,sn prog w k
 | .non=>λb a h=>by cases a;exact sN h
 | .int i=>λb a h=>by cases a;exact wpAny_pyHash_int h
 | .tup xs=>AV (tR xs)
theorem tR:∀ks:List TK,∀k∈ks,sn prog w k
 |[],k,h=>by simp at h
 |x::xs,k,h=>by
  by_cases e:k=x
  ·rw[e];exact rv x
  ·exact tR xs k ((ay.mp h).resolve_left e)
end
end
theorem eN.inj{h:de}:∀ {k k':TK} {v:cY},eN h k v->eN h k' v->k=k':=fun f=>f.rec (motive_1:=fun k v _=>∀ k',eN h k' v->k=k') (motive_2:=fun k v _=>∀ k',eW h k' v->k=k')
  (λk' g=>by cases g;rfl) (λ_ _ k' g=>by cases g;rfl)
  (λe n i m ih k' g=>by
   cases g with
   |tup c l d j=>
    rw[e]at c;cases c;rw[i]at d;cases d;rw[ih _ j])
  (λk' g=>by cases g;rfl) (λ_ _ a b k' g=>by cases g with|cons r' t'=>rw[a _ r',b _ t']) _
theorem eN.keeps{h h':de}{d:c0}{o:Obj}{es ep}(ho:h.get? d=some o)(hd:o.data = .dict es ep)(hs:Heap.SameBut d h h'):∀ {k:TK} {v:cY},eN h k v->eN h' k v:=fun f=>f.rec (motive_1:=fun k v _=>eN h' k v) (motive_2:=fun k v _=>eW h' k v) .non .int
  (λ{a} _ _ _ _ e g c _ ih=>.tup ((hs.2 a (λz=>by subst z;rw[e]at ho;cases ho;rw[c]at hd;cases hd)).trans e) g c ih) .nil (λ_ _ a b=>.cons a b)
theorem eW.at{h:de}:∀{ks:List TK} {vs:List cY} (j:Nat) (h1:j<ks.length) (h2:j<vs.length),eW h ks vs->eN h ks[j] vs[j]
 |_::_,_::_,0,_,_,.cons r _=>r
 |_::ks,_::vs,j+1,h1,h2,.cons _ t=>eW.at j (by simpa using h1) (by simpa using h2) t
theorem Bw{xs ys:List TK}(b:xs.length=ys.length):((Z7 (min xs.length ys.length)).all λj=>decide (xs[j]?=ys[j]?))=decide (xs=ys):=by
 by_cases h:xs=ys
 ·subst h;simp
 ·rw[aa h,List.all_eq_false];have:∃j,xs[j]? ≠ ys[j]?:=Classical.byContradiction λz=>h (bR λj=>Classical.byContradiction λq=>z ⟨j,q⟩);obtain⟨j,a⟩:=this;refine⟨j,?_,by simpa using a⟩;rw[au,b,Nat.min_self];apply Classical.byContradiction;intro c;exact a (by rw[bS (by lia),bS (by lia)])
theorem EF:∀(n:Nat) {k k':TK} {A:c6} {s:cZ} {u v:cY},k.dep<=n->A.units+n<cLine->eN s.heap k u->eN s.heap k' v->SeqAt.EqAt A s u v (decide (k=k')):=by
 intro n
 induction n with
 |zero=>
  intro k k' A s u v D S r g;cases r with
  |tup _ _ _ _=>simp[TK.dep]at D
  |non=>
   cases g with
   |non=>simpa using SeqAt.EqAt.same (A:=A) (s:=s) Value.none
   |int i t=>simpa[uu]using ky (A:=A) (s:=s) (y:=.non) (x:=.int i) O ⟨t,O⟩ O O
   |tup e c d t=>simpa using(fb (A:=A) (s:=s) (b:=J) (v:=.non) (u:=.none) ⟨_,e,c,_,d⟩ O O (by lia)).2.1
  |int i t=>
   cases g with
   |non=>simpa[uu]using ky (A:=A) (s:=s) (y:=.int i) (x:=.non) ⟨t,O⟩ O O O
   |int j H=>
    have:=ky (A:=A) (s:=s) (y:=.int i) (x:=.int j) ⟨t,O⟩ ⟨H,O⟩ O O;have e:uu (.int i) (.int j)=decide (TK.int i=TK.int j):=by
     by_cases h:i=j
     ·subst h;simp[uu]
     ·rw[aa (λz=>h (by injection z))];simp[uu,h]
    rw[e]at this;exact this
   |tup e c d q=>simpa using(fb (A:=A) (s:=s) (b:=J) (v:=.int i) (u:=.int i t) ⟨_,e,c,_,d⟩ ⟨t,O⟩ O (by lia)).2.1
 |succ n ih=>
  intro k k' A s u v D S r g;cases r with
  |non=>
   cases g with
   |non=>simpa using SeqAt.EqAt.same (A:=A) (s:=s) Value.none
   |int i t=>simpa[uu]using ky (A:=A) (s:=s) (y:=.non) (x:=.int i) O ⟨t,O⟩ O O
   |tup e c d t=>simpa using(fb (A:=A) (s:=s) (b:=J) (v:=.non) (u:=.none) ⟨_,e,c,_,d⟩ O O (by lia)).2.1
  |int i t=>
   cases g with
   |non=>simpa[uu]using ky (A:=A) (s:=s) (y:=.int i) (x:=.non) ⟨t,O⟩ O O O
   |int j H=>
    have:=ky (A:=A) (s:=s) (y:=.int i) (x:=.int j) ⟨t,O⟩ ⟨H,O⟩ O O;have e:uu (.int i) (.int j)=decide (TK.int i=TK.int j):=by
     by_cases h:i=j
     ·subst h;simp[uu]
     ·rw[aa (λz=>h (by injection z))];simp[uu,h]
    rw[e]at this;exact this
   |tup e c d q=>simpa using(fb (A:=A) (s:=s) (b:=J) (v:=.int i) (u:=.int i t) ⟨_,e,c,_,d⟩ ⟨t,O⟩ O (by lia)).2.1
  | @tup a o f m xs l w B C=>
   cases g with
   |non=>simpa using(fb (A:=A) (s:=s) (b:=J) (v:=.non) (u:=.none) ⟨_,l,w,_,B⟩ O O (by lia)).1
   |int i t=>simpa using(fb (A:=A) (s:=s) (b:=J) (v:=.int i) (u:=.int i t) ⟨_,l,w,_,B⟩ ⟨t,O⟩ O (by lia)).1
   | @tup a2 T items2 m2 ys K N ah I=>
    by_cases aj:a=a2
    ·subst aj;have:TK.tup xs=TK.tup ys:=eN.inj (.tup l w B C) (.tup K N ah I);rw[Z9 this];exact .same _
    ·refine .of_refs aj ?_;have ag:=C.split;have L:=I.split;have F:=SeqAt.RcAt.tuples (A:=A) (s:=s) (e:=fun j=>decide (xs[j]? = ys[j]?)) ⟨o,l,w,m,B⟩ ⟨T,K,N,m2,ah⟩ (by lia) (fun j h1 h2=>by
      have E:j<xs.length:=by rw[ag];simpa using h1
      have P:j<ys.length:=by rw[L];simpa using h2
      rw[TK.dep]at D;have V:=TK.dep_mem (bL E);have q:=ih (k:=xs[j]) (k':=ys[j]) (A:=A.in1) (s:=s) (by lia) (by show A.units+1+n<cLine;lia) (C.at j E (by simpa using h1)) (I.at j P (by simpa using h2));have e:decide (xs[j]?=ys[j]?)=decide (xs[j]=ys[j]):=by
       rw[gG1 E,gG1 P];simp
      rw[e];simpa using q)
     have U:f.size=xs.length:=by rw[ag];simp
     have R:items2.size=ys.length:=by rw[L];simp
     rw[U,R]at F;have G:((Z7 (min xs.length ys.length)).all (λj=>decide (xs[j]?=ys[j]?))&&xs.length == ys.length)=decide (TK.tup xs=TK.tup ys):=by
      by_cases p:xs.length=ys.length
      ·rw[Bw p,p,beq_self_eq_true,bF];by_cases h:xs=ys
       ·subst h;simp
       ·rw[aa h,aa (λz=>h (by injection z))]
      ·have Q:(xs.length == ys.length)=J:=by simpa using p
       rw[Q,bT,aa (λz=>p (by injection z with z;rw[z]))]
     rw[G]at F;exact F
theorem nL{prog:c5}{w:c7}:∀(n:Nat) {k:TK} {A:c6} {E:cY->cZ->Prop} {s:cZ} {v:cY} {Q:Bool->cZ->Prop},k.dep<=n->eN s.heap k v->Q M s->db (model prog w) A (eqIsQuiet n v) Q E s:=by
 intro n
 induction n with
 |zero=>
  intro k A E s v Q c r h;cases r with
  |non=>rw[eqIsQuiet_byValue 0 O];exact wP1 h
  |int i t=>rw[eqIsQuiet_byValue 0 O];exact wP1 h
  |tup _ _ _ _=>simp[TK.dep]at c
 |succ n ih=>
  intro k A E s v Q c r h;cases r with
  |non=>rw[eqIsQuiet_byValue _ O];exact wP1 h
  |int i t=>rw[eqIsQuiet_byValue _ O];exact wP1 h
  | @tup a o b m xs f y z x=>
   have g:s.TypeIs (.ref a) "tuple":=⟨o,f,y⟩;rw[TK.dep]at c;unfold eqIsQuiet;refine wB1 (wpAny_specialOf g F.slot_tuple_eq.lookup ?_);show db _ _ (isInstance (.ref a) (.type "tuple") >>= _) _ _ s;refine wB1 (wpAny_isInstance g isSubtype_tuple_tuple ?_);simp only[bU,bF1,if_false];refine wB1 (wpAny_seqItems f z ?_);refine wB1 ?_;show db _ _ (forIn b _ _) _ _ s;rw[<- bQ];refine wpAny_forIn_list _ (λrest r s'=>r.1=Y/\s'=s /\ ∃ks,eW s.heap ks rest/\TK.depAll ks<=n) _ ?_ ?_ _ _ ⟨O,O,xs,x,by lia⟩
   ·rintro v rest r s' ⟨e,rfl,ks,l,q⟩;cases l with
    | @cons j _ d _ u p=>
     rw[TK.depAll]at q;refine wB1 (ih (k:=j) (by lia) u ?_);simp only[bU,bF1,if_false];exact wP1 ⟨O,O,d,p,by lia⟩
   ·rintro⟨B,r2⟩ s' ⟨e,rfl,_⟩;simp only at e;subst e;exact wP1 h
def iO(prog:c5)(w:c7):HeapKind prog w TK where
 is:=λh k a=>eN h k (.ref a)/\k.dep<=8
 hash:=TK.hash
 draws:=TK.draws
 room:=λA=>A.units+8<cLine
 inj:=λhx hy=>hx.1.inj hy.1
 keeps:=λx ho hd hs=>⟨x.1.keeps ho hd hs,x.2⟩
 pyHash:=λhu hk h=>rv _ (by have:=hk.2;omega) hk.1 h
 eqBool:=λhu hx hy h=>EF 8 hx.2 hu hx.1 hy.1 _ _ _ _ h
 quiet:=λhk h=>nL 8 hk.2 hk.1 h
def Mp:G2:=λo v S=>match o,v with
 | .ref n,.ref b=>match S[n]?,S[b]? with
  |some (.lst xs),Z (.lst ys)=>if xs.length+ys.length<=da then Z (.non,S.set n (.lst (xs++ys)))else Y
  |_,_=>Y
 |_,_=>Y
def Jq(n:Nat)(k:Int):Nat:=if k<0 then(k+(n:Int)).toNat else min k.toNat n
def Mo:G3:=λo i v S=>match o,i with
 | .ref n,.int k=>match S[n]? with
  |some (.lst xs)=>if-(2^63)<=k/\k<2^63/\xs.length<da then Z (.non,S.set n (.lst (xs.take (Jq xs.length k)++v::xs.drop (Jq xs.length k))))else Y
  |_=>Y
 |_,_=>Y
def xZ(f:D->D->Option Bool)(x:D):List D->Option (List Bool)
 |[]=>Z []
 |y::ys=>(f y x).bind λb=>(xZ f x ys).map (b :: ·)
def AX:G2:=λo x S=>match o with
 | .ref n=>match S[n]? with
  |some (.lst ys)=>(xZ (kx S dV) x ys).bind λbs=>if bs.length<2^62 then(bs.findIdx? id).map λj=>(.int (j:Nat),S)else Y
  |_=>Y
 |_=>Y
theorem wR(f:D->D->Option Bool)(x:D):∀{ys:List D} {bs:List Bool},xZ f x ys=Z bs->bs.length=ys.length /\ ∀(j:Nat) (y:D) (k:Bool),ys[j]?=Z y->bs[j]?=Z k->f y x=Z k
 |[],bs,h=>by cases h;exact⟨O,λj y k h=>by simp at h⟩
 |y::ys,bs,h=>by
  rw[xZ]at h;obtain⟨b,eb,h⟩:=oB1.mp h;obtain⟨e,c,h⟩:=oM1.mp h;obtain⟨d,a1⟩:=wR f x c;subst h;refine⟨by simp[d],λj=>?_⟩;cases j with
  |zero=>intro a k h1 h2;simp at h1 h2;subst h1;subst h2;exact eb
  |succ j=>intro a k h1 h2;exact a1 j a k (by simpa using h1) (by simpa using h2)
section
open PySem.MeetsSeq PySem.MeetsSeq2 PySem.MeetsSeq3 PySem.SeqRoads2
theorem tQ{l:c0}{its:Array cY}{n:Nat}{x:cY}{e:Nat->Bool}{top:Int}{j:Nat}(f:j<its.size)(ht:(j:Int)<top)(c:e j=true):∀ (k i:Nat),i+k=j->(∀ m,i<=m->m<j->e m=false) ->
  Meets (Builtin.«list.index.loop» ⟨[.ref l,x,rawInt i,rawInt top],[]⟩)
   (λA R s=>s.heap.get? l=Z {cls:=.type "list",data:=.seq its n}/\(∀m (h:m<its.size),SeqAt.EqAt A.in1 s its[m] x (e m))/\R (.ok (.ret (.int j s.toks))) {s with toks:=s.toks+1})
 |0,i,hk,hno,prog,w,A,R,⟨hp,g,d,tk,os⟩,⟨hl,he,h⟩=>by
  have o:i=j:=by lia
  subst o
  wp_walk using AutoSeq1.wpAny_loadPart' hl
  rw[show(if(i:Int)<top then its[((i:Nat):Int).toNat]? else Y)=Z its[i] by simp[ht,f]];refine wB1 (he i f prog w _ _ ?_);rw[c]
  wp_walk
  exact h
 |k+1,i,hk,hno,prog,w,A,R,⟨hp,g,d,tk,os⟩,⟨hl,he,h⟩=>by
  have h1:i<its.size:=by lia
  have h2:(i:Int)<top:=by lia
  wp_walk using AutoSeq1.wpAny_loadPart' hl
  rw[show(if(i:Int)<top then its[((i:Nat):Int).toNat]? else Y)=Z its[i] by simp[h1,h2]];refine wB1 (he i h1 prog w _ _ ?_);rw[hno i (nR1 i) (by lia)]
  wp_walk
  rw[show((i:Int)+1)=((i+1:Nat):Int) by push_cast;rfl];have z:=tQ (l:=l) (n:=n) (x:=x) f ht c k (i+1) (by lia) (λm a b=>hno m (by lia) b) prog w A R _ ⟨hl,he,h⟩;exact⟨plainId_quiet plain_index_loop _,wD1 entry_index_loop (by rw[Around.under_plainId plain_index_loop _];exact z)⟩
theorem AT{l:c0}{its:Array cY}{n:Nat}{x:cY}{e:Nat->Bool}{j:Nat}(k:j<its.size)(ht:(j:Int)<2^63-1)(a:e j=true)(c:∀ m,m<j->e m=false):
  Meets (Builtin.«list.index» ⟨[.ref l,x],[]⟩)
   (λA R s=>s.heap.get? l=Z {cls:=.type "list",data:=.seq its n}/\(∀m (h:m<its.size),SeqAt.EqAt A.in1 s its[m] x (e m))/\R (.ok (.ret (.int j s.toks))) {s with toks:=s.toks+1}):=by
 intro prog w A R ⟨q,g,d,tk,p⟩ ⟨f,o,h⟩
 wp_walk using AutoSeq1.wpAny_loadPart' f
 rw[show((λi:Int=>if i<0 then max 0 (i+(its.size:Int))else i) ((Y:Option Int).getD 0))=((0:Nat):Int) by simp,show((λi:Int=>if i<0 then max 0 (i+(its.size:Int))else i) ((Y:Option Int).getD (2^63-1)))=2^63-1 by simp];have z:=tQ (l:=l) (n:=n) (x:=x) k ht a j 0 (by lia) (λm _ b=>c m b) prog w A R _ ⟨f,o,h⟩;exact⟨plainId_quiet plain_index_loop _,wD1 entry_index_loop (by rw[Around.under_plainId plain_index_loop _];exact z)⟩
end
section
variable{X:Cx}
theorem HW(W:X.A.units+64<cLine):HI X "list.index" (λx xs H Q=>rN X.K (b2 AX) (x::xs) H Q):=by
 intro Z8 s σ H x xs v ai Q I P aj h;obtain⟨x',y,mu,S,d,e,U,S',w,T,r2,l,a,hc⟩:=zy h;cases w;unfold AX at a;split at a
 ·rename_i n;split at a
  ·rename_i ys B;obtain⟨bs,eb,a⟩:=oB1.mp a;split at a
   ·rename_i r;obtain⟨j,q,a⟩:=oM1.mp a;cases a;cases T with
    |ref L=>
     obtain⟨vs,K,t⟩:=l.lst B L;cases P;obtain⟨u,rfl,E⟩:=aj.one;obtain⟨z,b,ag,c,hl,e⟩:=I.lstM K;obtain⟨V,k⟩:=wR _ _ eb;have l2:=t.length;have wq:=c.length;rw[bV]at q;obtain⟨N,o,g⟩:=q;have f:∀m (a:m<b.toArray.size),SeqAt.EqAt X.A.in1 s b.toArray[m] u (bs[m]?.getD J):=λm a=>by
      have m1:m<b.length:=by simpa using a
      obtain⟨C,R,G⟩:=t.getV (i:=m) (v:=vs[m]'(by lia)) (gG1 (by lia));obtain⟨w',p,D⟩:=c.get (i:=m) (x:=vs[m]'(by lia)) (gG1 (by lia));have m2:m<bs.length:=by lia
      have ah:b.toArray[m]=w':=by
       have:=gG1 m1;rw[this]at p;simpa using p
      rw[ah,gG1 m2];exact(l7 I l dV (A:=X.A.in1) (by show X.A.units+1+60<cLine;lia) G r2 D E (k m C bs[m] R (gG1 m2))).1
     refine call_meets F.slot_list_index ⟨_,e,O⟩ F.entry_list_index (F.args_list_index_2 _ _)
      (AT (n:=ag) (e:=λm=>bs[m]?.getD J) (j:=j) (by simp;lia) (by lia) ?_ ?_) ⟨e,f,?_⟩
     ·simp only[gG1 N,bW];simpa using o
     ·intro m a;have m2:m<bs.length:=by lia
      have:=g m a;simp only[gG1 m2,bW];simpa using this
     ·exact⟨.int j,H,I.tok _,⟨_,O⟩,hc.now (.int _) l⟩
   ·cases a
  ·cases a
 ·cases a
end
mutual
def kD:D->Option TK
 | .non=>Z .non
 | .int i=>Z (.int i)
 | .tup xs=>(xS xs).map .tup
 |_=>Y
def xS:List D->Option (List TK)
 |[]=>Z []
 |x::xs=>(kD x).bind λk=>(xS xs).map (k :: ·)
end
def iG:D->Option TK
 | .tup xs=>(xS xs).bind λks=>if(TK.tup ks).dep<=8 then Z (.tup ks)else Y
 |_=>Y
mutual
theorem Jo:∀{d:D} {k:TK},kD d=Z k->oO k=d
 | .non,k,h=>by cases h;rfl
 | .int i,k,h=>by cases h;rfl
 | .tup xs,k,h=>by
  rw[kD]at h;obtain⟨ks,e,h⟩:=oM1.mp h;subst h;rw[oO,u3 e]
 | .bl _,k,h=>by simp[kD]at h
 | .str _,k,h=>by simp[kD]at h
 | .rol _,k,h=>by simp[kD]at h
 | .fn _,k,h=>by simp[kD]at h
 | .ref _,k,h=>by simp[kD]at h
theorem u3:∀{ds:List D} {ks:List TK},xS ds=Z ks->kn ks=ds
 |[],ks,h=>by cases h;rfl
 |x::xs,ks,h=>by
  rw[xS]at h;obtain⟨k,b,h⟩:=oB1.mp h;obtain⟨t,a,h⟩:=oM1.mp h;subst h;rw[kn,Jo b,u3 a]
end
theorem na{d:D}{k:TK}(h:iG d=Z k):oO k=d/\k.dep<=8 /\ ∃xs,k = .tup xs:=by
 cases d with
 |tup xs=>
  rw[iG]at h;obtain⟨ks,e,h⟩:=oB1.mp h;split at h
  ·rename_i a;cases h;exact⟨by rw[oO,u3 e],a,ks,O⟩
  ·cases h
 |_=>cases h
section
variable{X:Cx}{Z8:List (c0×Obj)}{σ:L2.St}{H:Hp}{s:cZ}{mu:List c0}
mutual
theorem vN(I:Inv X Z8 σ H s):∀(k:TK) {v:V} {u:cY},eP X.K H mu (oO k) v->dG v u->eN s.heap k u
 | .non,v,u,r,q=>by
  rw[oO]at r;cases r;cases q;exact .non
 | .int i,v,u,r,q=>by
  rw[oO]at r;cases r;obtain⟨t,rfl⟩:=q;exact .int i t
 | .tup xs,v,u,r,q=>by
  rw[oO]at r;cases r with
  |tup h t=>
   cases q;obtain⟨c,e,⟨o,a,d,n,b⟩,_⟩:=I.tuple h;exact .tup a d b (by simpa using uH I xs t e)
theorem uH(I:Inv X Z8 σ H s):∀(ks:List TK) {vs:List V} {a:List cY},dD X.K H mu (kn ks) vs->dR vs a->eW s.heap ks a
 |[],vs,a,r,q=>by rw[kn]at r;cases r;cases q;exact .nil
 |k::ks,vs,a,r,q=>by
  rw[kn]at r;cases r with
  |cons r t=>cases q with
   |cons q p=>exact .cons (vN I k r q) (uH I ks t p)
end
theorem uQ{α β γ δ:Type}{F:α->β->Prop}{G:γ->δ->Prop}{f:α->γ}{g:β->δ}:∀{l₁:List α} {l₂:List β},Paired F l₁ l₂->(∀a b,F a b->G (f a) (g b))->Paired G (l₁.map f) (l₂.map g):=by
 intro a b h g
 induction h with
 |nil=>exact .nil
 |cons r t ih=>exact .cons (g _ _ r) ih
theorem uR{α β:Type}{F:α->β->Prop}:∀{l₁ e:List α} {l₂ f:List β},Paired F l₁ l₂->Paired F e f->Paired F (l₁++e) (l₂++f):=by
 intro a b c d h g
 induction h with
 |nil=>exact g
 |cons r t ih=>exact .cons r ih
theorem KT.length{K:Fg1}:∀{ks:List (TK×D)} {ws:List (TK×c0×cY)},KT K H mu ks ws->ks.length=ws.length:=λh=>Paired.length h
theorem KT.mem{K:Fg1}:∀{ks:List (TK×D)} {ws:List (TK×c0×cY)},KT K H mu ks ws -> ∀x∈ws,x.1.dep<=8/\eP K H mu (oO x.1) (.ref x.2.1):=by
 intro ks ws a x h
 induction a with
 |nil=>cases h
 |cons r t ih=>
  rcases ay.mp h with e|e
  ·subst e;rw[<- r.1];exact⟨r.2.1,r.2.2.1⟩
  ·exact ih e
theorem KT.look{K:Fg1}{k:TK}:∀ {ks:List (TK×D)} {ws:List (TK×c0×cY)},KT K H mu ks ws ->
  (∀d,dF ks k=Z d -> ∃p v,atKey ws k=Z p/\dG v p.2/\eP K H mu d v)/\(atKey ws k).isSome=(dF ks k).isSome:=by
 intro ks ws h
 induction h with
 |nil=>exact⟨λd h=>by simp[dF]at h,O⟩
 | @cons p j ks ws r t ih=>
  obtain⟨b,e⟩:=p;obtain⟨l,a2,c⟩:=j;obtain⟨z,d,q,v,f,r⟩:=r;dsimp only at z q f r;subst z;obtain⟨h1,h2⟩:=ih;by_cases a:b=k
  ·subst a;refine⟨λd h=>?_,by simp[atKey,dF]⟩;have:e=d:=by simpa[dF]using h
   subst this;exact⟨(a2,c),v,by simp[atKey],f,r⟩
  ·have g:dF ((b,e)::ks) k=dF ks k:=by simp[dF,aU,a]
   have i:atKey ((b,a2,c)::ws) k=atKey ws k:=by simp[atKey,aU,a]
   rw[g,i];exact⟨h1,h2⟩
theorem KT.put{K:Fg1}{k:TK}{d:D}{v:V}{a:c0}{u:cY}(hk:k.dep<=8)(j:eP K H mu (oO k) (.ref a))(i:dG v u)(q:eP K H mu d v){ks:List (TK×D)}{ws:List (TK×c0×cY)}(h:KT K H mu ks ws):KT K H mu (gO ks k d) (storedH ws k a u):=by
 unfold gO storedH;have e:(ks.any λp=>decide (p.1=k))=(atKey ws k).isSome:=by
  rw[h.look.2];unfold dF;rw[aY,bJ,List.find?_isSome,bK]
 rw[e];split
 ·clear e;refine uQ h λp w ⟨z,g,f,l,c,m⟩=>?_;unfold putAt;by_cases b:p.1=k
  ·rw[ae b,ae (by rw[<- z];exact b)];exact⟨z,g,f,v,i,q⟩
  ·rw[ab b,ab (by rw[<- z];exact b)];exact⟨z,g,f,l,c,m⟩
 ·exact uR h (.cons ⟨O,hk,j,v,i,q⟩ .nil)
theorem t3(I:Inv X Z8 σ H s){a:c0}{xs:List (TK×c0×cY)}{kvs:List (TK×D)}(e:H a=Z (.ext (jM a xs)))(h:KT X.K H mu kvs xs):(a == sysModules)=J/\s.heap.DictOfH (iO X.prog X.w) a xs:=by
 obtain⟨⟨h1,h2,o,es,ep,d,f,c,g⟩,_⟩:=(show eA X.prog X.w H s.heap a (.ext (jM a xs))from I.hok a _ e);exact⟨h1,o,es,ep,d,f,c,g,λx b=>⟨vN I _ (h.mem x b).2 O,(h.mem x b).1⟩,h2⟩
theorem wP{h:de}{a:c0}{xs:List (TK×c0×cY)}(hd:(a == sysModules)=J)(hm:h.DictOfH (iO X.prog X.w) a xs):eA X.prog X.w H h a (.ext (jM a xs)):=by
 obtain⟨o,es,ep,d,g,e,j,m,k⟩:=hm;refine⟨⟨hd,k,o,es,ep,d,g,e,j⟩,⟨o,d⟩,λp n ⟨a1,a2,o',b,c,b3,i,f,l⟩ st=>⟨a1,a2,o',b,c,st _ b3,i,f,l⟩⟩
end
def mU:G2:=λd e S=>match e with
 | .ref n=>match S[n]? with
  |some (.dcT kvs)=>(iG d).map λk=>(.bl (dF kvs k).isSome,S)
  |_=>u7 d e S
 |_=>u7 d e S
def ft:G2:=λd e S=>match e with
 | .ref n=>match S[n]? with
  |some (.dcT kvs)=>(iG d).map λk=>(.bl (!(dF kvs k).isSome),S)
  |_=>iU d e S
 |_=>iU d e S
def dv:G2:=λd e S=>match d with
 | .ref n=>match S[n]? with
  |some (.dcT kvs)=>(iG e).bind λk=>(dF kvs k).map λx=>(x,S)
  |some (.dcF kvs)=>(iG e).bind λk=>(dF kvs k).map λx=>(x,S)
  |_=>mT d e S
 |_=>mT d e S
def ja:G3:=λo i v S=>match o with
 | .ref n=>match S[n]? with
  |some (.dcT kvs)=>(iG i).bind λk=>if kvs.length<da then Z (.non,S.set n (.dcT (gO kvs k v)))else Y
  |some (.dct [])=>match iG i with
   |some k=>Z (.non,S.set n (.dcT [(k,v)]))
   |none=>mE o i v S
  |_=>mE o i v S
 |_=>mE o i v S
section
variable{X:Cx}
theorem tH{κ:Type}[DecidableEq κ](kvs:List (κ×D))(k:κ)(d:D):(gO kvs k d).length<=kvs.length+1:=by
 unfold gO;split
 ·rw[lM1];lia
 ·simp
theorem tX{h:de}{a:c0}(c:h.DictOf (eZ X.prog X.w) a []):h.DictOfH (iO X.prog X.w) a []:=by
 obtain⟨o,es,ep,h1,h2,d,_,b,_⟩:=c;have e:es.toList=[]:=by
  generalize es.toList=l at b;cases b;rfl
 exact⟨o,es,ep,h1,h2,d,e,(λx f=>by simp at f),bh⟩
theorem jP{A:c6}(a:A.units+64<cLine):(iO X.prog X.w).room A.in1:=by
 show A.units+1+8<cLine;lia
theorem lX{Z8:List (c0×Obj)}{σ:L2.St}{H:Hp}{s:cZ}{mu:List c0}(I:Inv X Z8 σ H s){d:D}{v:V}{u:cY}{k:TK}(r:eP X.K H mu d v)(q:dG v u)(h:iG d=some k):
  ∃a,u = .ref a/\v = .ref a/\eP X.K H mu (oO k) (.ref a)/\k.dep<=8/\(iO X.prog X.w).is s.heap k a:=by
 obtain⟨e,b,xs,ex⟩:=na h;subst e;have is:=vN I k r q;subst ex;cases id is with
 | @tup a _ _ _ _ _ _ _ _=>
  rw[oO]at r;cases r with
  |tup h1 h2=>
   cases q;exact⟨a,O,O,by rw[oO];exact .tup h1 h2,b,is,b⟩
theorem sZ(j:X.A.units+64<cLine):fY X (compareOp .In) (r2 X.K (b2 mU)):=by
 intro Z8 s σ H x y u w Q I g o h;obtain⟨mu,S,d,e,r,i,m,c,f,b,hc⟩:=ut h;have back:u7 d e S=Z (r,i)->db (model X.prog X.w) X.A (compareOp .In u w) (EP X Z8 σ Q) X.xe s:=λb=>IS j Z8 s σ H x y u w Q I g o ⟨mu,S,[d,e],r,i,.cons m (.cons c .nil),f,b,hc⟩;unfold mU at b;split at b
 ·rename_i n;split at b
  ·rename_i kvs t;obtain⟨k,A,b⟩:=oM1.mp b;cases b;cases c with
   |ref z=>
    cases o;obtain⟨xs,q,l,_⟩:=f.dcT t z;obtain⟨p,v⟩:=t3 I q l;obtain⟨a,rfl,rfl,_,_,hi⟩:=lX I m g A;refine wpAny_in_heap (jP j) hi p v ?_;exact⟨.bl (atKey xs k).isSome,H,I.tok _,O,by rw[l.look.2];exact hc.now (.bl _) f⟩
  ·exact back b
 ·exact back b
theorem nU(j:X.A.units+64<cLine):fY X (compareOp .NotIn) (r2 X.K (b2 ft)):=by
 intro Z8 s σ H x y u w Q I g o h;obtain⟨mu,S,d,e,r,i,m,c,f,b,hc⟩:=ut h;have back:iU d e S=Z (r,i)->db (model X.prog X.w) X.A (compareOp .NotIn u w) (EP X Z8 σ Q) X.xe s:=λb=>z0 j Z8 s σ H x y u w Q I g o ⟨mu,S,[d,e],r,i,.cons m (.cons c .nil),f,b,hc⟩;unfold ft at b;split at b
 ·rename_i n;split at b
  ·rename_i kvs t;obtain⟨k,A,b⟩:=oM1.mp b;cases b;cases c with
   |ref z=>
    cases o;obtain⟨xs,q,l,_⟩:=f.dcT t z;obtain⟨p,v⟩:=t3 I q l;obtain⟨a,rfl,rfl,_,_,hi⟩:=lX I m g A;refine wpAny_notIn_heap (jP j) hi p v ?_;exact⟨.bl (!(atKey xs k).isSome),H,I.tok _,O,by rw[l.look.2];exact hc.now (.bl _) f⟩
  ·exact back b
 ·exact back b
theorem Hf{Z8:List (c0×Obj)}{σ:L2.St}{H:Hp}{s:cZ}{mu:List c0}(I:Inv X Z8 σ H s){a:c0}{xs:List (TK×c0×cY)}{kvs:List (TK×D)}(e:∃o u,H a=Z (.frz o u)/\EX a xs o)(h:KT X.K H mu kvs xs):(a == sysModules)=J/\s.heap.DictOfH (iO X.prog X.w) a xs:=by
 obtain⟨o,u,e,h1,h2,f,es,ep,c,g⟩:=e;obtain⟨d,_⟩:=(show eA X.prog X.w H s.heap a (.frz o u)from I.hok a _ e);exact⟨h1,o,es,ep,d,f,c,g,λx b=>⟨vN I _ (h.mem x b).2 O,(h.mem x b).1⟩,h2⟩
theorem qP(G:X.A.units+64<cLine):EV X (r2 X.K (b2 dv)):=by
 intro value c Z8 s σ H x y v u Q I B K h m;obtain⟨mu,S,d,e,r,D,C,o,t,f,hc⟩:=ut h;have back:mT d e S=Z (r,D)->db (model X.prog X.w) X.A (subscriptTail value c v u) (EP X Z8 σ Q) X.xe s:=λf=>HR G value c Z8 s σ H x y v u Q I B K ⟨mu,S,[d,e],r,D,.cons C (.cons o .nil),t,f,hc⟩ m;have i:∀kvs a xs,v = .ref a->KT X.K H mu kvs xs->s.heap.DictOfH (iO X.prog X.w) a xs->((iG e).bind λk=>(dF kvs k).map λx=>(x,S))=Z (r,D)->db (model X.prog X.w) X.A (subscriptTail value c v u) (EP X Z8 σ Q) X.xe s:=λkvs a xs ah l ag f=>by
  obtain⟨k,L,f⟩:=oB1.mp f;obtain⟨z,R,f⟩:=oM1.mp f;cases f;subst ah;obtain⟨b,rfl,rfl,_,_,hi⟩:=lX I o K L;obtain⟨p,N,ep,aj,P⟩:=l.look.1 _ R;have F:=ag.typeIs;unfold subscriptTail;refine wB1 ?_;rw[getitemInPython_of_ne F.not_modules];refine wB1 (wpAny_specialOf F PySem.F.slot_dict_getitem.lookup ?_);have j:db (model X.prog X.w) X.A (subscripted c J (.ref a) (.ref b)) (λr g=>db (model X.prog X.w) X.A (letTemporaryGo value (.ref a) r >>= λ_=>pure r) (EP X Z8 σ Q) X.xe g) X.xe s:=by
   rw[m];exact wpAny_operating (wpAny_mono (wpAny_getItem_heap (jP G) hi ag ep (show EP X Z8 σ Q p.2 _ from⟨N,H,I.tok _,aj,hc.now P t⟩)) (λr g q=>wB1 (wpAny_letTemporaryGo (wP1 q))) λ_ _ x=>x)
  first
   |exact wP1 (wB1 j)
   |exact wB1 j
   |exact j
 unfold dv at f;split at f
 ·rename_i n;split at f
  ·rename_i kvs A;cases C with
   | @ref _ a w=>
    cases B;obtain⟨xs,E,l,_⟩:=t.dcT A w;exact i kvs a xs O l (t3 I E l).2 f
  ·rename_i kvs A;cases C with
   | @ref _ a w=>
    cases B;obtain⟨xs,E,l,_⟩:=(show oN X.K H mu a (.dcF kvs)from t.ob n _ a A w);exact i kvs a xs O l (Hf I E l).2 f
  ·exact back f
 ·exact back f
theorem nB(E:X.A.units+64<cLine):vx X (rU X.K (b3 ja)):=by
 intro Z8 s σ H o i v R N u Q I B K w h;obtain⟨mu,S,ds,d,aj,W,l,a,hc⟩:=id h;cases W with
 |cons ag U=>cases U with
  |cons G wq=>cases wq with
   |cons t ai=>
    cases ai;rename_i T P ah;dsimp only[b3]at a;have back:mE T P ah S=Z (d,aj)->db (model X.prog X.w) X.A (setItem R N u) (λ_ s'=>∃H',Inv X Z8 σ H' s'/\Q H') X.xe s:=λa=>Fk E Z8 s σ H o i v R N u Q I B K w ⟨mu,S,[T,P,ah],d,aj,.cons ag (.cons G (.cons t .nil)),l,a,hc⟩;unfold ja at a;split at a
    ·rename_i n;split at a
     ·rename_i kvs D;obtain⟨k,A,a⟩:=oB1.mp a;split at a
      ·rename_i hl;cases a;cases ag with
       | @ref _ j f=>
        cases B;obtain⟨xs,x,m,V⟩:=l.dcT D f;obtain⟨C,F⟩:=t3 I x m;obtain⟨b,rfl,rfl,rk,r,hi⟩:=lX I G K A;refine wpAny_setItem_heap (hsz:=V) (jP E) hi F λh' e c=>?_;have g:∃q,h'.get? _=Z q:=let ⟨q,_,_,g,_⟩:=e;⟨q,g⟩
        have put:Ext mu mu H (upd H j (.ext (jM j (storedH xs k b u)))):=Ext.put x trivial (gM1 f);refine⟨_,lx I (by rw[x];exact True.intro) c g (wP C e),hc _ mu put (l.put f x trivial ⟨_,dQ,((m.put r rk w t).ext put),?_⟩)⟩;rw[<- (m.put r rk w t).length];have:=tH kvs k ah;lia
      ·cases a
     ·rename_i D;split at a
      ·rename_i k A;cases a;cases ag with
       | @ref _ j f=>
        cases B;obtain⟨ws,p,m⟩:=l.dct D f;cases m;obtain⟨z,C,vs,L,F⟩:=wS I.hok p;cases L;obtain⟨b,rfl,rfl,rk,r,hi⟩:=lX I G K A;have y:s.heap.DictOfH (iO X.prog X.w) _ []:=tX F;refine wpAny_setItem_heap (hsz:=a0 _) (jP E) hi y λh' e c=>?_;have g:∃q,h'.get? _=Z q:=let ⟨q,_,_,g,_⟩:=e;⟨q,g⟩
        have put:Ext mu mu H (upd H j (.ext (jM j (storedH [] k b u)))):=Ext.put p trivial (gM1 f);exact⟨_,lx I (by rw[p];exact True.intro) c g (wP C e),hc _ mu put (l.put f p trivial ⟨_,dQ,KT.ext put (.cons ⟨O,r,rk,v,w,t⟩ .nil),(show 1<=da by decide)⟩)⟩
      ·exact back a
     ·exact back a
    ·exact back a
end
def qf(S:Sto)(d:D):Option Bool:=match d with
 | .non=>Z J
 | .bl b=>Z b
 | .int i=>Z (i != 0)
 | .str y=>if y.length<=da then Z ((y.length:Int) != 0)else Y
 | .ref n=>match S[n]? with
  |some (.dct kvs)=>Z (!kvs.isEmpty)
  |_=>(dH S d).map λp=> !p.2.isEmpty
 |_=>(dH S d).map λp=> !p.2.isEmpty
def mTr(m:FE):FT:=λr S=>(m r S).bind λp=>(qf p.2 p.1).map λb=>(b,p.2)
section
variable{K:Fg1}{H:Hp}{mu:List c0}{S:Sto}
theorem ql{d:D}{v:V}{b:Bool}(r:eP K H mu d v)(s:Sim K H mu S)(h:((dH S d).map λp=> !p.2.isEmpty)=Z b):BH K v H b:=by
 obtain⟨⟨k,xs⟩,e,h⟩:=oM1.mp h;obtain⟨a,vs,rfl,q,t⟩:=dB r s e;have z:(!xs.isEmpty) = !vs.isEmpty:=by cases t<;>rfl
 dsimp only at h;rw[z]at h;cases k
 ·exact .inr (.inl ⟨vs,q,h.symm⟩)
 ·exact .inl ⟨vs,q,h.symm⟩
theorem y7{d:D}{v:V}{b:Bool}(r:eP K H mu d v)(s:Sim K H mu S)(h:qf S d=Z b):BH K v H b:=by
 cases d with
 |non=>cases r;cases h;rfl
 |bl k=>cases r;cases h;rfl
 |int i=>cases r;cases h;rfl
 |str y=>
  rw[qf]at h;split at h
  ·rename_i f;cases r;cases h;exact⟨f,O⟩
  ·cases h
 |tup xs=>exact ql r s h
 |rol xs=>exact ql r s h
 |fn x=>cases h
 |ref n=>
  rw[qf]at h;split at h
  ·rename_i kvs a;cases h;cases r with
   |ref g=>
    obtain⟨ws,e,c⟩:=s.dct a g;refine .inr (.inr ⟨ws,e,?_⟩);cases c<;>rfl
  ·exact ql r s h
end
theorem ed{X:Cx}{x:Expr}{f:FE}(h:XE X x f)(he:∀a,isTrue x X.env a=(do let v<-a;standAt x.pos;holding [v] (truthy v)):=by intro _;rfl):XT X x (mTr f):=
 ⟨qt (zB h.h he) <| by
  rintro σ H Q ⟨r,mu,S,b,l,he,k,c,hc⟩;obtain⟨⟨n,m⟩,g,c⟩:=oB1.mp c;obtain⟨b1,j,c⟩:=oM1.mp c;cases c;exact⟨r,mu,S,_,_,he,k,g,λv H1 mu1 e i d=>⟨_,y7 i d j,hc H1 mu1 e d⟩⟩⟩
section
variable{X:Cx}{Z8:List (c0×Obj)}{σ:L2.St}{H:Hp}{s:cZ}{mu:List c0}
end
section
variable{X:Cx}
def jA:List D->Option (List Int)
 |[]=>Z []
 | .int i::ds=>(jA ds).map λis=>i::is
 |_=>Y
def ddI(ns:List Int):List Int:=ns.foldl step_dedup []
theorem oz:∀(ns c:List Int),c.Nodup->(ns.foldl step_dedup c).Nodup
 |[],c,h=>h
 |n::ns,c,h=>by
  rw[bX];refine oz ns _ ?_;unfold step_dedup;split
  ·exact h
  ·rename_i f;rw[bp];refine⟨h,by simp,λa g b d e=>?_⟩;simp at d;apply f;rw[bK];exact⟨a,g,by simp[e,d]⟩
theorem t4(ns:List Int):firstMet (λi=>ns.getD i 0) ns.length=ddI ns:=by
 unfold firstMet ddI
 congr 1
 apply List.ext_getElem
 ·simp
 ·intro i h1 h2;simp at h1 ⊢;rw[gG1 (by omega)];rfl
theorem pG{K:Fg1}{H:Hp}{mu:List c0}:∀{ds:List D} {vs:List V} {a:List cY} {ns:List Int},dD K H mu ds vs->dR vs a->jA ds=Z ns->IntsAre a ns/\ns.length=ds.length:=by
 intro ds vs a ns g b h
 induction g using dD.ind generalizing a ns with
 |hn=>cases h;cases b;exact⟨.nil,O⟩
 | @hc d v ds vs r t ih=>
  cases d with
  |int i=>
   obtain⟨c,e,h⟩:=oM1.mp h;cases h;cases r;cases b with
   |cons r b=>
    obtain⟨f,j⟩:=ih b e;obtain⟨tk,rfl⟩:=r;exact⟨.cons _ _ f,by rw[lC1,lC1,j]⟩
  |_=>cases h
theorem lE(l:List Int):(λk'=>l.any (· == k'))=λk'=>l.contains k':=by
 funext k
 induction l with
 |nil=>rfl
 |cons x xs ih=>rw[aV,bY,ih,show(x == k)=(k == x)from Bool.beq_comm]
def rA:G1:=λd S=>match dH S d with
 |some (M,xs)=>(jA xs).bind λns=>if ns.length+1<scanBound then Z (.ref S.length,S++[.iset (ddI ns)])else Y
 |_=>Y
theorem JK{k:Nat}(hr:fB k X.A):eh X (.type "set") (rN X.K (b1 rA)):=by
 intro Z8 s σ H xs L Q I r h;obtain⟨x,mu,S,d,ag,K,rfl,E,l,c,hc⟩:=v7 h;unfold rA at c;split at c
 ·rename_i ys p;obtain⟨ns,e,c⟩:=oB1.mp c;split at c
  ·rename_i A;cases c;obtain⟨a,vs,rfl,q,t⟩:=dB E l p;cases r with
   |cons B rt=>
    cases rt;cases B;obtain⟨g,G,⟨o,n,C,i,v,w⟩,_⟩:=I.list q;obtain⟨hi,m⟩:=pG t G e;have f:g.toArray.size=ns.length:=by rw[sT1,hi.length]
    refine PySem.call_set_list (items:=g.toArray) (ns:=ns) hr.hd ⟨o,C,i,⟨n,w⟩⟩ (by simpa using hi) (by rw[f];exact A) λh' tk j D=>?_;rw[f,t4]at j;have F:(ddI ns).Nodup:=oz ns [] bh;have y:=lE (ddI ns);rw[y]at j;refine⟨.ref s.heap.objs.size,upd H s.heap.objs.size (.set (λk=>(ddI ns).contains k) (ddI ns).length),I.laid (λb u z=>D b u (hL1 z) z) (nR1 _) j,O,?_⟩;exact hc _ _ (mu++[s.heap.objs.size]) (Ext.new_ I.fresh) (.ref (gm l.len _)) (l.new I.fresh ⟨dQ,F⟩)
  ·cases c
 ·cases c
def oh:G1:=λd S=>match d with
 | .ref n=>match S[n]? with
  |some (.iset xs)=>Z (.int xs.length,S)
  |_=>dN d S
 |_=>dN d S
theorem vn:eh X (.builtin "len") (rN X.K (b1 oh)):=by
 intro Z8 s σ H xs l Q I r h;obtain⟨x,mu,S,d,m,k,c,g,b,a,hc⟩:=v7 h;have y:=a;unfold oh at a;split at a
 ·rename_i n;split at a
  ·rename_i ys e;cases a;subst c;cases g with
   |ref j=>
    obtain⟨v,A⟩:=b.iset e j;cases r with
    |cons z rt=>
     cases rt;cases z;have p:=I.hok _ _ v;obtain⟨o,es,ep,t,u,i,q,_,_,f,w,j⟩:=p;refine PySem.call_len_set u i q w (by unfold scanBound at f;lia) ?_;refine⟨.int es.size,H,I.tok _,⟨_,O⟩,?_⟩;rw[j];exact hc.now (.int _) b
  ·exact d9 Z8 s σ H xs l Q I r (by subst c;exact⟨mu,S,[_],m,k,.cons g .nil,b,(show b1 dN [_] S=_ from a),hc⟩)
 ·exact d9 Z8 s σ H xs l Q I r (by subst c;exact⟨mu,S,[_],m,k,.cons g .nil,b,(show b1 dN [_] S=_ from a),hc⟩)
end
@[elab_as_elim] theorem Mm {P:List cY->Prop}{us:List cY}(l:us.length=0)(f:P []):P us:=by
 cases us with
 |nil=>exact f
 |cons _ _=>cases l
@[elab_as_elim] theorem LD {P:List cY->Prop}{us:List cY}(l:us.length=1)(f:∀a,P [a]):P us:=by
 cases us with
 |nil=>cases l
 |cons a us=>exact Mm (P:=λus=>P (a::us)) (Nat.succ.inj l) (f a)
@[elab_as_elim] theorem LC {P:List cY->Prop}{us:List cY}(l:us.length=2)(f:∀a b,P [a,b]):P us:=by
 cases us with
 |nil=>cases l
 |cons a us=>exact LD (P:=λus=>P (a::us)) (Nat.succ.inj l) (f a)
@[elab_as_elim] theorem KX {P:List cY->Prop}{us:List cY}(l:us.length=3)(f:∀a b c,P [a,b,c]):P us:=by
 cases us with
 |nil=>cases l
 |cons a us=>exact LC (P:=λus=>P (a::us)) (Nat.succ.inj l) (f a)
@[elab_as_elim] theorem Ml {P:List cY->Prop}{us:List cY}(l:us.length=4)(f:∀a b c d,P [a,b,c,d]):P us:=by
 cases us with
 |nil=>cases l
 |cons a us=>exact KX (P:=λus=>P (a::us)) (Nat.succ.inj l) (f a)
end Mi
namespace HT
open PySem PySem.Spec PyProof.Rows
variable{prog:c5}{w:c7}{A:c6}{E:cY->cZ->Prop}{s:cZ}
theorem lN{c:c0}{t:Tok}{n:Nat}{Q:Int×Int×Nat->cZ->Prop}(hs:s.heap.IsSliceOf c .none .none (.int (-1) t))(h:Q ((n:Int)-1,-1,n) s):db (model prog w) A (Builtin.Slice.sliceApplied (.ref c) (pure (n:Int))) Q E s:=by
 obtain⟨f,a,d,b⟩:=id hs;unfold Builtin.Slice.sliceApplied Builtin.Slice.sliceFields;refine wB1 (wB1 (wpAny_field a b (x:=.none) O (wB1 (wpAny_field a b (x:=.none) O (wB1 (wpAny_field a b (x:=.int (-1) t) O (wP1 ?_)))))));refine wB1 (gX (.int (-1) t) ?_);show db _ _ (if((-1:Int) == 0)=M then _ else _) _ _ s;rw[ab (by decide)];refine wB1 (gX .none (wB1 (gX .none (wB1 (wP1 ?_)))));show db _ _ (pure ((n:Int)-1,(-1:Int),Builtin.Slice.slicePlaces ((n:Int)-1) (-1) (-1))) _ _ s;have e:Builtin.Slice.slicePlaces ((n:Int)-1) (-1) (-1)=n:=by
  unfold Builtin.Slice.slicePlaces;have h1:¬ (-1:Int)>0:=by lia
  have h2: -(-1:Int)=1:=rfl;simp only[h1,if_false,h2,Int.ediv_one];split<;>lia
 rw[e];exact wP1 h
theorem A0{α β:Type}{f g:α->Option β}:∀l:List α,(∀m,m∈l->f m=g m)->l.filterMap f=l.filterMap g:=by
 intro l
 induction l with
 |nil=>intro _;rfl
 |cons x l ih=>intro h;rw[aw,aw,h x (mS1 ..),ih λm a=>h m (mC1 _ a)]
theorem sP(xs:Array cY):((Z7 xs.size).filterMap λ(m:Nat)=>xs[(((xs.size:Int)-1)+(m:Int)*(-1)).toNat]?).toArray=xs.toList.reverse.toArray:=by
 congr 1
 have e:((Z7 xs.size).filterMap λ(m:Nat)=>xs[(((xs.size:Int)-1)+(m:Int)*(-1)).toNat]?)=(Z7 xs.size).filterMap λm=>xs.toList.reverse[m]?:=by
  apply A0;intro m a;have a:=au.mp a;rw[List.getElem?_reverse (by rw[aC];exact a),aT1,aC]
  congr 1
  lia
 rw[e];have:=pick_run xs.toList.reverse.toArray 0 xs.size;rw[aO]at this;have b:((λx=>xs.toList.reverse.toArray[x]?)∘λx=>0+x)=λm=>xs.toList.reverse[m]?:=by funext m;simp
 rw[b]at this;rw[this];simp only[List.drop_zero];exact bZ (by simp)
theorem lp {t f:c0}{items:Array cY}{tk:Tok}{Q:cY->cZ->Prop}(ht:IsTup s.heap t items)(hs:s.heap.IsSliceOf f .none .none (.int (-1) tk))
  (h:Q (.ref s.heap.objs.size) {s with heap:=s.heap.push {cls:=.type "tuple",data:=.seq items.toList.reverse.toArray}})
  (hsz:items.size<=da):db (model prog w) A (getItem (.ref t) (.ref f)) Q E s:=by
 have a:sizeOk (.seq items.toList.reverse.toArray):=by
  show items.toList.reverse.toArray.size<=da;rw[sT1,b0,aC];exact hsz
 obtain⟨g,b,d,i⟩:=id hs;have c:s.TypeIs (.ref f) "slice":=⟨g,b,d⟩;unfold getItem
 try with_reducible refine wpAny_holding ?_
 first|refine wB1 (wP1 ?_)|skip
 refine wB1 (wpAny_sequenceKey ht.typeIs (by decide) ?_);refine wB1 (wpAny_callSpecial?_slot (name:=Str.ofString "__getitem__") ht.typeIs PyProof.Rows.slot_tuple_getitem
  (wE1 PyProof.Rows.slot_tuple_getitem ht.typeIs entry_tuple_getitem ?_ (args_tuple_getitem _ _)))
 show db _ _ (Builtin.Tuple.tupleItemsOf (.ref t) >>= _) _ _ s;refine wB1 (tupleItemsOf_ ht ?_);refine wB1 (wpAny_typeOf c ?_);rw[ae (by decide)];refine wB1 (lN hs ?_);have e:¬ (((items.size:Int)-1 == 0&&(-1:Int) == 1&&items.size == items.size)=M):=by
  intro q;rw[bA1,bA1]at q;exact absurd (eq_of_beq q.1.2) (by decide)
 show db _ _ (if((items.size:Int)-1 == 0&&(-1:Int) == 1&&items.size == items.size)=M then _ else _) _ _ s;rw[ab e,sP]
 first
  |exact wB1 (m:=Builtin.Tuple.tupleExact _) (wO1 (wP1 ⟨_,rfl,wP1 h⟩) a)
  |exact wB1 (m:=Builtin.Tuple.tupleExact _) (wO1 (wB1 (wP1 (wP1 ⟨_,rfl,wP1 h⟩))) a)
  |exact wB1 (wB1 (m:=Builtin.Tuple.tupleExact _) (wO1 (wP1 (wP1 ⟨_,rfl,wP1 h⟩)) a))
  |exact wB1 (wB1 (m:=Builtin.Tuple.tupleExact _) (wO1 (wP1 ⟨_,rfl,wP1 h⟩) a))
end HT
namespace Mi
open PySem PySem.Spec PyProof.Rows L2
section
variable{X:Cx}
theorem sC:∀{xs:List V} {a:List cY},dR xs a->dR xs.reverse a.reverse:=by
 intro xs
 induction xs with
 |nil=>intro a r;cases r;exact .nil
 |cons x xs ih=>
  intro a r;cases r with
  |cons b r2=>rw[bg,bg];exact(ih r2).append (.cons b .nil)
end
end Mi
namespace HT
open PySem PySem.Spec PyProof.Rows
section
variable{prog:c5}{w:c7}{A:c6}{R:Result->cZ->Prop}{I ax L:c0}{xs:Array cY}
end
section
variable{prog:c5}{w:c7}{A:c6}{E:cY->cZ->Prop}{s:cZ}
end
end HT
namespace Mi
open PySem PySem.Spec PyProof.Rows L2
section
variable{X:Cx}
def DB:G1:=λd S=>match d with
 | .int i=>if i.natAbs.log2<1920 then Z (.str (toString i),S)else Y
 |_=>Y
theorem JJ:eh X (.type "str") (rN X.K (b1 DB)):=by
 intro Z8 s σ H xs e Q I r h;obtain⟨x,mu,S,d,j,g,rfl,b,f,a,hc⟩:=v7 h;cases d with
 |int i=>
  dsimp only[DB]at a;split at a
  ·rename_i c;cases a;cases b;exact rV Z8 s σ H _ e Q I r ⟨_,O,c,hc.now (.str _) f⟩
  ·cases a
 |_=>cases a
end
section
variable{elt tg iter tg2 iter2 tg3 iter3:Expr}{ifs ifs2 ifs3:List Expr}{scope:dh}{pos:Pos}
end
section
variable{X:Cx}
end
def xV(a:Int):List Int->List Int
 |[]=>[a]
 |b::l=>if a<=b then a::b::l else b::xV a l
def i5:List Int->List Int
 |[]=>[]
 |a::l=>xV a (i5 l)
theorem lY(a:Int):∀l:List Int,(xV a l).Perm (a::l)
 |[]=>.refl _
 |b::l=>by
  rw[xV];split
  ·exact .refl _
  ·exact((lY a l).cons b).trans (.swap _ _ _)
theorem gj:∀l:List Int,(i5 l).Perm l
 |[]=>.refl _
 |a::l=>(lY a _).trans ((gj l).cons a)
theorem wE{a:Int}:∀{l:List Int},l.Pairwise (· <= ·)->(xV a l).Pairwise (· <= ·)
 |[],_=>List.pairwise_singleton _ _
 |b::l,h=>by
  rw[b4]at h;rw[xV];split
  ·rename_i c;rw [b4,b4];exact ⟨fun x d=>by
    rcases ay.mp d with z|z
    ·lia
    ·have:=h.1 x z;lia,h.1,h.2⟩
  ·rename_i c;rw[b4];refine⟨λx d=>?_,wE h.2⟩;rcases ay.mp ((lY a l).mem_iff.mp d)with z|z
   ·lia
   ·exact h.1 x z
theorem nz:∀l:List Int,(i5 l).Pairwise (· <= ·)
 |[]=>.nil
 |a::l=>wE (nz l)
theorem qq:∀{a b:List Int},a.Perm b->a.Pairwise (· <= ·)->b.Pairwise (· <= ·)->a=b
 |[],b,p,_,_=>(List.nil_perm.mp p).symm
 |x::a,[],p,_,_=>absurd p.length_eq (by simp)
 |x::a,y::b,p,h1,h2=>by
  rw[b4]at h1 h2;have e:x=y:=by
   have f:=p.mem_iff.mp (mS1 (a:=x) (l:=a));have d:=p.mem_iff.mpr (mS1 (a:=y) (l:=b));rcases ay.mp f with z|z
   ·exact z
   ·rcases ay.mp d with c|c
    ·exact c.symm
    ·have:=h2.1 x z;have:=h1.1 y c;lia
  subst e;rw[qq (List.perm_cons x |>.mp p) h1.2 h2.2]
def mD:List D->Option (List Int)
 |[]=>Z []
 | .int i::l=>(mD l).map λt=>i::t
 |_=>Y
section
variable{X:Cx}
theorem pE{K:Fg1}{H:Hp}{mu:List c0}:∀{ds:List D} {vs:List V} {a:List cY} {ns:List Int},dD K H mu ds vs->dR vs a->mD ds=Z ns->IntsAre a ns:=by
 intro ds
 induction ds with
 |nil=>intro vs a ns r v h;cases r;cases v;cases h;exact .nil
 |cons d ds ih=>
  intro vs a ns r v h;cases r with
  |cons b t=>
   cases v with
   |cons c f=>
    cases b
    case int i=>
     obtain⟨m,e,h⟩:=oM1.mp h;subst h;obtain⟨tk,rfl⟩:=c;exact .cons i tk (ih t f e)
    all_goals cases h
theorem pF:∀{us:List cY} {ns:List Int},IntsAre us ns->dR (ns.map V.int) us:=by
 intro us ns h
 induction h with
 |nil=>exact .nil
 |cons i t _ ih=>exact .cons ⟨t,O⟩ ih
theorem pH:∀{ds:List D} {ns:List Int},mD ds=Z ns->ns.length=ds.length:=by
 intro ds
 induction ds with
 |nil=>intro ns h;cases h;rfl
 |cons d ds ih=>
  intro ns h;cases d with
  |int i=>
   obtain⟨m,e,h⟩:=oM1.mp h;subst h;rw[lC1,lC1,ih e]
  |_=>cases h
end
end Mi
namespace Mi
open PySem PySem.Spec PyProof.Rows L2
theorem xC(its:List cY):slicePick its.toArray Y Y (Z (-1))=its.reverse.toArray:=by
 have h:=HT.sP its.toArray;rw[sT1]at h;unfold slicePick;have a:sliceBounds Y Y (Z (-1)) its.toArray.size=(((its.length:Nat):Int)-1,-1,-1):=by
  rw[sT1];unfold sliceBounds;have h1:¬ ((Z (-1:Int)).getD 1>0):=by decide
  simp only[h1,if_false];rfl
 rw[a];unfold sliceRange;have hc:(if((its.length:Nat):Int)-1 > -1 then(((its.length:Nat):Int)-1 - -1 - -1-1)/(- -1)else 0).toNat=its.length:=by
  have h2: - (-1:Int)=1:=rfl;rw[h2,Int.ediv_one];split<;>lia
 dsimp only;rw[ab (by decide),hc,aO];have e:((λx=>its.toArray[x]?)∘λ(k:Nat)=>((its.length:Int)-1 + -1*(k:Int)).toNat)=λ(m:Nat)=>its.toArray[(((its.length:Int)-1)+(m:Int)*(-1)).toNat]?:=by
  funext m
  have b:((its.length:Int)-1 + -1*(m:Int)).toNat=(((its.length:Int)-1)+(m:Int)*(-1)).toNat:=by rw[Int.mul_comm]
  show its.toArray[((its.length:Int)-1 + -1*(m:Int)).toNat]?=its.toArray[(((its.length:Int)-1)+(m:Int)*(-1)).toNat]?;rw[b]
 rw[e,h]
section
variable{X:Cx}
def HY(K:Fg1)(te tk:TE):TE:=fun σ H Q=>te σ H λx H1=>tk σ H1 λk H2=>k = .int (-1)/\((∃a xs,x = .ref a/\jJ K H2 a xs /\ ∀p,H2 p=Y->Q (.ref p) (upd H2 p (.tup xs.reverse)))\/(∃a xs,x = .ref a/\lI K H2 a xs /\ ∀p,H2 p=Y->Q (.ref p) (upd H2 p (.lst xs.reverse))))
theorem uP{e j:Expr}{te tk:TE}{pos p2:Pos}(he:PE X e te)(hk:PE X j tk):PE X (.Subscript e (.Slice Y Y (Z j) p2) pos) (HY X.K te tk):=by
 intro Z8 s σ H Q I h;refine Subscript_ (eQ (he Z8 s σ H _ I h) λv B ⟨x,H1,z,p,A⟩=>?_);refine wpAny_Slice ?_;rw[evalPart_none];refine wP1 ?_;refine wP1 ?_;rw[evalPart_some];refine eQ (hk Z8 B σ H1 _ z A) λu c ⟨k,H2,y,rk,m⟩=>?_;obtain⟨rfl,m⟩:=m;obtain⟨t,rfl⟩:=rk;have f:Inv X Z8 σ H2 {c with heap:=c.heap.push {cls:=.type "slice",data:=.fields #[.none,.none,.int (-1) t]}}:=y.kept (t':=c.toks) λb w q=>hP1 _ q;rcases m with⟨a,xs,rfl,n,q⟩|⟨a,xs,rfl,n,q⟩
 ·cases p;obtain⟨g,r,i,l⟩:=f.tuple n;have d:g.toArray.size=xs.length:=by rw[sT1];exact r.length.symm
  show db (model X.prog X.w) X.A (subscriptTail e (.Slice Y Y (Z j) p2) (.ref a) (.ref c.heap.objs.size)) (EP X Z8 σ Q) X.xe {c with heap:=c.heap.push {cls:=.type "slice",data:=.fields #[.none,.none,.int (-1) t]}};refine tail_any (ops:=[.ref a,.ref c.heap.objs.size]) i.typeIs PyProof.Rows.slot_tuple_getitem.lookup ?_ (by with_unfolding_all rfl);refine HT.lp i (Heap.IsSliceOf.new ..) ?_ (by rw[d];exact l);refine⟨.ref _,_,f.laid (t':=c.toks) (o:=.tup xs.reverse) (λb w q=>hP1 _ q) (nR1 _) ?_,O,q _ (f.hok.fresh (nR1 _))⟩;exact⟨by rw[b0];exact l,_,sC r,IsTup.new _ _⟩
 ·cases p;obtain⟨g,r,i,l⟩:=f.list n;have d:=r.length;show db (model X.prog X.w) X.A (subscriptTail e (.Slice Y Y (Z j) p2) (.ref a) (.ref c.heap.objs.size)) (EP X Z8 σ Q) X.xe {c with heap:=c.heap.push {cls:=.type "slice",data:=.fields #[.none,.none,.int (-1) t]}};refine tail_any (ops:=[.ref a,.ref c.heap.objs.size]) i.isList.typeIs slot_list_getitem.lookup ?_ (by with_unfolding_all rfl);refine wpAny_getItem_list_slice i.isList (Heap.IsSliceOf.new ..) .none .none (.int (-1) t) (by decide) ?_ (by rw[sT1];lia);rw[xC];refine⟨.ref _,_,f.laid (t':=c.toks) (o:=.lst xs.reverse) (λb w q=>hP1 _ q) (nR1 _) ?_,O,q _ (f.hok.fresh (nR1 _))⟩;exact⟨by rw[b0];exact l,_,0,sC r,hS1 _ O⟩
def Iu(S:Sto)(d k:D):Option (D×Sto):=match k with
 | .int i=>if i = -1 then(dH S d).map λp=>if p.1=M then(.ref S.length,S++[.lst p.2.reverse])else(.tup p.2.reverse,S)else Y
 |_=>Y
def Av(m a:FE):FE:=λr S=>(m r S).bind λp=>(a r p.2).bind λb=>Iu b.2 p.1 b.1
theorem sA{e w:Expr}{m a:FE}{pos p2:Pos}(h:XE X e m)(A:XE X w a):XE X (.Subscript e (.Slice Y Y (Z w) p2) pos) (Av m a):=
 ⟨eg (uP h.h A.h) <| by
  rintro σ H Q ⟨r,mu,S,d,G,n,B,b,hc⟩;obtain⟨⟨E,s⟩,x,b⟩:=oB1.mp b;obtain⟨⟨o,F⟩,y,b⟩:=oB1.mp b;refine⟨r,mu,S,E,s,n,B,x,λv H1 mu1 l C z=>?_⟩;refine⟨r,mu1,s,o,F,n.ext l,z,y,λu H2 g x2 r2 j=>?_⟩;cases o with
  |int i=>
   dsimp only[Iu]at b;split at b
   ·rename_i hi;subst hi;cases r2;refine⟨O,?_⟩;obtain⟨⟨k,xs⟩,D,b⟩:=oM1.mp b;obtain⟨c,vs,rfl,q,t⟩:=dB (C.ext x2) j D;cases k with
    |true=>
     cases b;right;exact⟨c,vs,O,q,λp f=>hc _ _ (g++[p]) ((l.trans x2).trans (Ext.new_ f)) (.ref (gm j.len p)) (j.newL t.reverse f)⟩
    |false=>
     simp only[bF1,if_false]at b;cases b;left;exact⟨c,vs,O,q,λp f=>hc _ _ g ((l.trans x2).trans (Ext.fresh f)) (.tup (jJ.of dQ) (t.reverse.ext (Ext.fresh f))) (j.fresh f)⟩
   ·cases b
  |_=>cases b⟩
end
theorem lM(n:Nat):∀ns:List Int,D.unds n (ns.map D.int)=M
 |[]=>rfl
 |_::ns=>by rw[mP1,D.unds,lM n ns];rfl
theorem DA{n:Nat}{d:D}{S:Sto}(h:S.length=n):gc n (d,S)=(d,S):=by
 unfold gc;split
 ·rw[show(d,S).2=S from rfl,<- h,bP]
 ·rfl
theorem yh{n:Nat}{f:FN}{ds:List D}{S S1:Sto}{d:D}(h:f ds []=Z (d,S1))(hn:ds.length=n)(a:D.unds 0 ds=M)(hd:d.und 0=M):dn n f ds S=Z (d,S):=by
 unfold dn pS;rw[ae hn,ae a,h,oP1,ae hd]
theorem oB{n:Nat}{f:FN}{ds:List D}{S S1:Sto}{d:D}(h:f ds []=Z (d,S1))(hn:ds.length=n)(a:D.unds 0 ds=M)(hd:d.und 0=J):dn n f ds S=Z (d.sh S.length,S++S1.map (Ob.sh S.length)):=by
 unfold dn pS;rw[ae hn,ae a,h,oP1,ab (by dsimp only;rw[hd];decide)]
theorem pQ{n:Nat}{f:FN}{ds:List D}{S S1:Sto}{d:D}(h:f ds S=Z (d,S1))(hn:ds.length=n)(a:D.unds 0 ds=J):dn n f ds S=Z (gc S.length (d,S1)):=by
 unfold dn pS;rw[ae hn,ab (by rw[a];decide),h,oP1]
theorem yk{n:Nat}{f:FN}{ds:List D}{S S1:Sto}{d:D}(h:f ds S=Z (d,S1))(hn:ds.length=n)(a:D.unds 0 ds=J)(b:S1.length=S.length):dn n f ds S=Z (d,S1):=by
 rw[pQ h hn a,DA b]
theorem tu{i j:Int}(h1: -(2^64)<i)(h2:i<2^64):eO i j=M:=by
 unfold eO;simp only[Bool.or_eq_true,bA1,af];exact .inl (.inl ⟨h1,h2⟩)
theorem wo{i j:Int}(h1: -(2^64)<j)(h2:j<2^64):eO i j=M:=by
 unfold eO;simp only[Bool.or_eq_true,bA1,af];exact .inl (.inr ⟨h1,h2⟩)
theorem eY{S:Sto}{n:Nat}{xs:List D}(h:S[n]?=Z (.lst xs)):oW S [(n,xs)]=M:=by
 rw[oW,h];simp[D.sames_refl,oW]
def jY(n:Nat):Nat->List D
 |0=>[]
 |k+1=>.ref n::jY (n+1) k
theorem tD:∀{n:Nat} {lo:Int} {d:D},d∈gy lo n -> ∃k:Int,d = .int k/\lo<=k/\k<lo+n
 |0,lo,d,h=>by simp[gy]at h
 |n+1,lo,d,h=>by
  rw[gy]at h;rcases ay.mp h with h|h
  ·exact⟨lo,h,Int.le_refl _,by lia⟩
  ·obtain⟨k,e,h1,h2⟩:=tD h;exact⟨k,e,by lia,by lia⟩
open Classical in
def rkV(ws:List cY)(x:cY):Nat:=ws.findIdx λy=>decide (y=x)
theorem Fp{ws:List cY}{x:cY}(h:x∈ws):ws[rkV ws x]?=Z x:=by
 have a:rkV ws x<ws.length:=List.findIdx_lt_length_of_exists ⟨x,h,by simp⟩;rw[gG1 a];have:=List.findIdx_getElem (w:=a);have e:ws[rkV ws x]=x:=of_decide_eq_true this;rw[e]
def kR(ws:List cY)(xs:Array Keyed)(i:Nat):Nat:=(xs[i]?.map λp=>rkV ws p.1).getD 0
theorem lm{ws:List cY}{xs ys:Array Keyed}{i j:Nat}(h:xs[i]?=ys[j]?):kR ws xs i=kR ws ys j:=by unfold kR;rw[h]
def Up(ws:List cY)(xs:Array Keyed)(k:Nat):Prop:=∀i j,i<j->j<k->kR ws xs i<kR ws xs j
def Dn(ws:List cY)(xs:Array Keyed)(k:Nat):Prop:=∀i j,i<j->j<k->kR ws xs j<kR ws xs i
structure SoB (κ:SortKind)(a₀:Array Keyed)(st:SortSt):Prop where
 perm:(arrOf st).Perm a₀
 kind:kindOf st=κ
 failed:failedOf st=none
 pend:pendingOf st = #[]
theorem SoB.arr{κ:SortKind}{a₀:Array Keyed}{st:SortSt}(b:SoB κ a₀ st){xs:Array Keyed}(p:xs.Perm (arrOf st)):SoB κ a₀ (setArr st xs):=⟨p.trans b.perm,b.kind,b.failed,b.pend⟩
structure w9 (prog:c5)(w:c7)(A:c6)(s:cZ)(κ:SortKind)(ws:List cY)(a₀:Array Keyed):Prop where
 nd:ws.Nodup
 keys:(a₀.toList.map (·.1)).Perm ws
 lt:∀(x y:cY) (i j:Nat),ws[i]?=some x->ws[j]?=some y->i≠j -> ∀(E:cY->cZ->Prop) (Q:Bool->cZ->Prop),Q (decide (i<j)) s->db (model prog w) A (keyLt' κ x y) Q E s
section
variable{prog:c5}{w:c7}{A:c6}{E:cY->cZ->Prop}{s:cZ}{κ:SortKind}{ws:List cY}{a₀:Array Keyed}
theorem w9.at_(C:w9 prog w A s κ ws a₀){xs:Array Keyed}(p:xs.Perm a₀){i:Nat}(hi:i<a₀.size):∃x q,xs[i]?=Z (x,q)/\ws[kR ws xs i]?=Z x:=by
 have a:i<xs.size:=by rw[p.size_eq];exact hi
 refine⟨xs[i].1,xs[i].2,aG1 a,?_⟩;have b:xs[i]∈a₀.toList:=(b5.mp p).mem_iff.mp (by simp);have:=Fp (C.keys.mem_iff.mp (b6.mpr ⟨_,b,O⟩));unfold kR;rw[aG1 a];exact this
theorem w9.inj(C:w9 prog w A s κ ws a₀){xs:Array Keyed}(p:xs.Perm a₀){i j:Nat}(hi:i<a₀.size)(k:j<a₀.size)(h:kR ws xs i=kR ws xs j):i=j:=by
 obtain⟨x,q,d,a⟩:=C.at_ p hi;obtain⟨y,r,f,c⟩:=C.at_ p k;rw[h,c]at a;cases a;have g:(xs.toList.map (·.1)).Nodup:=(((b5.mp p).map (·.1)).trans C.keys).nodup_iff.mpr C.nd;have b:(xs.toList.map (·.1))[i]?=Z x:=by rw[gP1,aT1,d];rfl
 have e:(xs.toList.map (·.1))[j]?=Z x:=by rw[gP1,aT1,f];rfl
 exact(List.getElem?_inj (gE1.mp b).1 g).mp (b.trans e.symm)
theorem w9.cmp(C:w9 prog w A s κ ws a₀){st:SortSt}{i j:Nat}{Q:Option Bool->SortSt->Prop}(b:SoB κ a₀ st)(hi:i<a₀.size)(d:j<a₀.size)(a:i≠j)(h:Q (Z (decide (kR ws (arrOf st) i<kR ws (arrOf st) j))) st):wpS (model prog w) A E s (ltAt' i j) Q st:=by
 obtain⟨x,q,f,k⟩:=C.at_ b.perm hi;obtain⟨y,r,g,e⟩:=C.at_ b.perm d;have c:kR ws (arrOf st) i≠kR ws (arrOf st) j:=λz=>a (C.inj b.perm hi d z);rw[ltAt'_eq];refine wpS_bind (wpS_get ?_);show wpS _ _ _ _ (do let x<-elem' (arrOf st) i;let y<-elem' (arrOf st) j;lt' x y) Q st;rw[elem'_eq,elem'_eq,f,g];refine wpS_bind (wpS_pure (wpS_bind (wpS_pure ?_)));rw[lt'_eq];refine wpS_bind (wpS_get ?_);rw[b.kind];exact wpS_bind (wpS_lift (wpAny_attempt (C.lt x y _ _ k e c _ _ ⟨O,wpS_pure h⟩)))
theorem Up.one{xs:Array Keyed}:Up ws xs 1:=λi j h1 h2=>by lia
theorem Up.snoc{xs:Array Keyed}{n:Nat}(u:Up ws xs n)(h:n=0\/kR ws xs (n-1)<kR ws xs n):Up ws xs (n+1):=λi j h1 h2=>by
 by_cases z:j<n
 ·exact u i j h1 z
 ·have b:j=n:=by lia
  subst b;rcases h with h|h
  ·lia
  ·by_cases a:i=j-1
   ·rw[a];exact h
   ·exact aZ (u i (j-1) (by lia) (by lia)) h
theorem Dn.snoc{xs:Array Keyed}{n:Nat}(u:Dn ws xs n)(h:kR ws xs n<kR ws xs (n-1)):Dn ws xs (n+1):=λi j h1 h2=>by
 by_cases z:j<n
 ·exact u i j h1 z
 ·have b:j=n:=by lia
  subst b;by_cases a:i=j-1
  ·rw[a];exact h
  ·exact aZ h (u i (j-1) (by lia) (by lia))
theorem zl(C:w9 prog w A s κ ws a₀){st:SortSt}{a d:Nat}{Q:AscSt->SortSt->Prop}(hn:d<=a₀.size)(ha:1<=a)(i:a<=d)(b:SoB κ a₀ st)(u:Up ws (arrOf st) a)(h:∀n,a<=n->n<=d->Up ws (arrOf st) n->(n=d\/kR ws (arrOf st) n<kR ws (arrOf st) (n-1))->Q (Y,n) st):wpS (model prog w) A E s (ascLoop a d) Q st:=by
 unfold ascLoop;refine wpS_forRange (λx c f=>f=st/\c=(Y,x)/\Up ws (arrOf st) x) ?_ ?_ ⟨O,O,u⟩
 ·rintro x c f h1 h2 ⟨rfl,rfl,g⟩;refine wpS_bind (C.cmp b (by lia) (by lia) (by lia) ?_);by_cases z:kR ws (arrOf f) x<kR ws (arrOf f) (x-1)
  ·simp only[z,decide_true,if_true];exact wpS_pure (h x h1 (by lia) g (.inr z))
  ·simp only[z,decide_false,bF1,if_false];have:kR ws (arrOf f) x≠kR ws (arrOf f) (x-1):=λe=>by have:=C.inj b.perm (by lia) (by lia) e;lia
   exact wpS_pure ⟨O,O,g.snoc (.inr (by lia))⟩
 ·rintro c f ⟨rfl,rfl,g⟩;rw[Nat.max_eq_right i]at g ⊢;exact h d i (nR1 _) g (.inl O)
theorem B9(C:w9 prog w A s κ ws a₀){st:SortSt}{n a:Nat}{Q:Option Nat->SortSt->Prop}(hn:a<=a₀.size)(h1:1<=n)(e:n<=a)(b:SoB κ a₀ st)(d:Dn ws (arrOf st) n)(h:∀m c,SoB κ a₀ c->m<=a->Up ws (arrOf c) m->Q (Z m) c):wpS (model prog w) A E s (tail3 n a) Q st:=by
 unfold tail3;have f:n<=(arrOf st).size:=by rw[b.perm.size_eq];lia
 have o:SoB κ a₀ (setArr st (mirror (arrOf st) 0 n ((n-0)/2))):=b.arr (mirror_perm _ _ _ _);refine wpS_bind (wpS_reverse (wpS_bind (zl C hn h1 e o (λi j p l=>?_) λm p l u _=>wpS_pure (h m _ o l u))));have g:∀k,k<n->kR ws (mirror (arrOf st) 0 n ((n-0)/2)) k=kR ws (arrOf st) (n-1-k):=λk q=>lm (by
  rw[getElem?_mirror_all f,ae (by lia)]
  congr 1;lia)
 show kR ws (mirror (arrOf st) 0 n ((n-0)/2)) i<kR ws (mirror (arrOf st) 0 n ((n-0)/2)) j;rw[g i (by lia),g j l];exact d _ _ (by lia) (by lia)
theorem Cb(C:w9 prog w A s κ ws a₀){st:SortSt}{n f:Nat}{Q:DescSt->SortSt->Prop}(hn:f<=a₀.size)(h1:1<=n)(g:n<=f)(b:SoB κ a₀ st)(d:Dn ws (arrOf st) n)(h:∀m,n<=m->m<=f->Dn ws (arrOf st) m->Q (Y,m,0) st):wpS (model prog w) A E s (descLoop n f) Q st:=by
 unfold descLoop;refine wpS_forRange (λx c a=>a=st/\c=(Y,x,0)/\Dn ws (arrOf st) x) ?_ ?_ ⟨O,O,d⟩
 ·rintro x c a h2 k ⟨rfl,rfl,i⟩;dsimp only;refine wpS_bind (C.cmp b (by lia) (by lia) (by lia) ?_);by_cases z:kR ws (arrOf a) x<kR ws (arrOf a) (x-1)
  ·simp only[z,decide_true,if_true];exact wpS_pure ⟨O,O,i.snoc z⟩
  ·simp only [z,decide_false,bF1,if_false];have j:kR ws (arrOf a) (x-1)<kR ws (arrOf a) x:=by
    have:kR ws (arrOf a) x≠kR ws (arrOf a) (x-1):=λe=>by have:=C.inj b.perm (by lia) (by lia) e;lia
    lia
   refine wpS_bind (C.cmp b (by lia) (by lia) (by lia) ?_);simp only[j,decide_true,if_true];exact wpS_pure (h x h2 (by lia) i)
 ·rintro c a ⟨rfl,rfl,i⟩;rw[Nat.max_eq_right g]at i ⊢;exact h f g (nR1 _) i
theorem Fc(C:w9 prog w A s κ ws a₀){st:SortSt}{a:Nat}{Q:Option Nat->SortSt->Prop}(hn:a<=a₀.size)(h1:1<=a)(b:SoB κ a₀ st)(h:∀m c,SoB κ a₀ c->m<=a->Up ws (arrOf c) m->Q (Z m) c):wpS (model prog w) A E s (countRun' 0 a) Q st:=by
 rw[countRun0_eq];refine wpS_bind (zl C hn (nR1 1) h1 b .one λn h2 k u or=>?_);dsimp only;by_cases z:n=a
 ·rw[ae (by simpa using z)];exact wpS_pure (h n st b k u)
 ·rw[ab (by simpa using z)];have q:=or.resolve_left z;by_cases g:n>1
  ·rw[ae g];have:=u 0 (n-1) (by lia) (by lia);refine wpS_bind (C.cmp b (by lia) (by lia) (by lia) ?_);simp only[this,decide_true,if_true];exact wpS_pure (h n st b k u)
  ·rw[ab g];have e:n=1:=by lia
   subst e;unfold descPart;refine wpS_bind (wpS_lift (wpAny_rule ⟨O,?_⟩));refine wpS_bind (Cb C hn (by lia) (by lia) b (λi j o f=>?_) λm o f d=>?_)
   ·have l:i=0:=by lia
    have p:j=1:=by lia
    subst l;subst p;exact q
   ·dsimp only;rw[ab (by lia)];exact B9 C hn (by lia) f b d h
theorem Fe(C:w9 prog w A s κ ws a₀){st:SortSt}{n ok:Nat}{Q:Bool->SortSt->Prop}(hn:n<=a₀.size)(H:ok<=n)(b:SoB κ a₀ st)(u:Up ws (arrOf st) ok)(h:∀a,SoB κ a₀ a->Up ws (arrOf a) n->Q M a):wpS (model prog w) A E s (binarySort' 0 n ok) Q st:=by
 rw[binarySort'_eq];simp only[bH];refine wpS_bind (wpS_mono (wpS_forRange (λk c a=>c=(Y,())/\SoB κ a₀ a/\Up ws (arrOf a) (min k n)) (Q:=λc a=>c=(Y,())/\SoB κ a₀ a/\Up ws (arrOf a) n) ?_ ?_ ⟨O,b,λi j h1 h2=>?_⟩) ?_)
 ·rintro k c a ag G ⟨rfl,m,f⟩;rw[bq (by lia)]at f;have v:k<(arrOf a).size:=by rw[m.perm.size_eq];lia
  refine wpS_bind (wpS_mono (wpS_forRange (λx c d=>d=a /\ ∃l r,c=(Y,l,r)/\l<=r/\r<=k/\r-l<=k-x/\(∀i,i<l->kR ws (arrOf a) i<kR ws (arrOf a) k) /\ ∀i,r<=i->i<k->kR ws (arrOf a) k<kR ws (arrOf a) i)
   (Q:=λc d=>d=a /\ ∃l r,c=(Y,l,r)/\l<=k/\(∀i,i<l->kR ws (arrOf a) i<kR ws (arrOf a) k) /\ ∀i,l<=i->i<k->kR ws (arrOf a) k<kR ws (arrOf a) i) ?_ ?_ ⟨O,0,k,O,by lia,by lia,by lia,λi h1=>by lia,λi h1 h2=>by lia⟩) ?_)
  ·rintro x c d _ K ⟨rfl,l,r,rfl,h1,h2,t,q,p⟩;dsimp only;by_cases z:l>=r
   ·rw[ae z];have e:l=r:=by lia
    subst e;exact wpS_pure ⟨O,l,l,O,h2,q,p⟩
   ·rw[ab z];refine wpS_bind (C.cmp m (by lia) (by lia) (by lia) ?_);by_cases o:kR ws (arrOf d) k<kR ws (arrOf d) ((l+r)/2)
    ·simp only[o,decide_true,if_true];refine wpS_pure ⟨O,l,(l+r)/2,O,by lia,by lia,by lia,q,λi I F=>?_⟩;by_cases y:(l+r)/2=i
     ·rw[<- y];exact o
     ·exact aZ o (f _ i (by lia) F)
    ·simp only [o,decide_false,bF1,if_false];refine wpS_pure ⟨rfl,(l+r)/2+1,r,rfl,by lia,by lia,by lia,fun i I=>?_,p⟩;have D:kR ws (arrOf d) ((l+r)/2)<kR ws (arrOf d) k:=by
      have:kR ws (arrOf d) k≠kR ws (arrOf d) ((l+r)/2):=λe=>by have:=C.inj m.perm (by lia) (by lia) e;lia
      lia
     by_cases y:i=(l+r)/2
     ·rw[y];exact D
     ·exact aZ (f i _ (by lia) (by lia)) D
  ·rintro c d ⟨rfl,l,r,rfl,h1,h2,t,q,p⟩;have e:l=r:=by lia
   subst e;exact⟨O,l,l,O,h2,q,p⟩
  ·rintro c d ⟨rfl,l,r,rfl,h1,h2,t⟩;show wpS _ _ _ _ (do moveDown' k l;pure (ForInStep.yield (none,()))) _ _;rw [moveDown'_eq];refine wpS_bind (wpS_modify (wpS_pure ⟨rfl,m.arr (bubble_perm _ _ _),?_⟩));rw [bq (by lia)];have g:∀ i,kR ws (bubble (arrOf d) k (k-l)) i=if i=l then kR ws (arrOf d) k else if l<i/\i<=k then kR ws (arrOf d) (i-1) else kR ws (arrOf d) i:=fun i=>by
    have e:=getElem?_bubble v (k-l) (by lia) i;rw[show k-(k-l)=l by lia]at e;by_cases B:i=l
    ·rw[ae B]at e ⊢;exact lm e
    ·rw[ab B]at e ⊢;by_cases o:l<i/\i<=k
     ·rw[ae o]at e ⊢;exact lm e
     ·rw[ab o]at e ⊢;exact lm e
   intro i j q p;show kR ws (bubble (arrOf d) k (k-l)) i<kR ws (bubble (arrOf d) k (k-l)) j;rw[g,g]
   repeat' split
   all_goals first
    |(exfalso;lia)
    |exact h2 _ (by lia)
    |exact t _ (by lia) (by lia)
    |exact f _ _ (by lia) (by lia)
 ·rintro c a ⟨hc,m,f⟩;refine⟨hc,m,?_⟩
  rwa [show min (max (max ok 1) n) n=n by lia]at f
 ·by_cases z:ok=0
  ·lia
  ·exact u i j h1 (by lia)
 ·rintro c a ⟨rfl,m,f⟩;exact wpS_pure (h a m f)
theorem Ff(C:w9 prog w A s κ ws a₀){st:SortSt}{Q:Unit->SortSt->Prop}(b:SoB κ a₀ st)(h2:2<=a₀.size)(j:a₀.size<64)(h:∀a,(arrOf a).Perm a₀->failedOf a=Y->Up ws (arrOf a) a₀.size->Q () a):wpS (model prog w) A E s sortRuns' Q st:=by
 rw[sortRuns'_eq];refine wpS_bind (wpS_get ?_);dsimp only;have k:minRun' a₀.size a₀.size 0=a₀.size:=by
  generalize u:a₀.size=z at *
  cases z with
  |zero=>lia
  |succ f=>rw[minRun'_succ,ae j]
 simp only[b.perm.size_eq,k];have done:∀a,SoB κ a₀ a->Up ws (arrOf a) a₀.size->(arrOf (setPending a ((pendingOf a).push (0,a₀.size,0)))).Perm a₀/\failedOf (setPending a ((pendingOf a).push (0,a₀.size,0)))=Y/\pendingOf (setPending a ((pendingOf a).push (0,a₀.size,0))) = #[(0,a₀.size,0)]/\Up ws (arrOf (setPending a ((pendingOf a).push (0,a₀.size,0)))) a₀.size:=λa g n=>
  ⟨g.perm,g.failed,by show(pendingOf a).push _=_;rw[g.pend];rfl,n⟩
 refine wpS_bind (wpS_mono (wpS_forRange
  (λx c a=>(x=0/\c=(Y,0)/\SoB κ a₀ a)\/(1<=x/\c=(Y,a₀.size)/\(arrOf a).Perm a₀/\failedOf a=Y/\pendingOf a = #[(0,a₀.size,0)]/\Up ws (arrOf a) a₀.size))
  (Q:=λc a=>c=(Y,a₀.size)/\(arrOf a).Perm a₀/\failedOf a=Y/\pendingOf a = #[(0,a₀.size,0)]/\Up ws (arrOf a) a₀.size) ?_ ?_ (.inl ⟨O,O,b⟩)) ?_)
 ·rintro x c a _ p (⟨rfl,rfl,g⟩|⟨o,rfl,D⟩)
  ·dsimp only;rw[ab (by lia)];simp only[Nat.sub_zero,Nat.min_self,bH];refine wpS_bind (Fc C (nR1 _) (by lia) g λm d b2 t l=>?_);dsimp only;by_cases z:m<a₀.size
   ·rw[ae z];refine wpS_bind (wpS_lift (wpAny_rule ⟨O,?_⟩));refine wpS_bind (Fe C (nR1 _) t b2 l λi b3 r=>?_);simp only[bU,bF1,if_false];refine wpS_bind (wpS_get ?_);rw[b3.pend];exact wpS_bind (wpS_modify (wpS_pure (.inr ⟨by lia,O,done i b3 r⟩)))
   ·rw[ab z];have e:m=a₀.size:=by lia
    subst e;refine wpS_bind (wpS_get ?_);rw[b2.pend];exact wpS_bind (wpS_modify (wpS_pure (.inr ⟨by lia,O,done d b2 l⟩)))
  ·dsimp only;rw[ae (nR1 _)];exact wpS_pure ⟨O,D⟩
 ·rintro c a (⟨p,_⟩|⟨_,hc,D⟩)
  ·lia
  ·exact⟨hc,D⟩
 ·rintro c a ⟨rfl,D⟩;dsimp only;refine wpS_bind (wpS_mono (wpS_forRange (λ_ c d=>d=a/\c=(Y,())) (Q:=λc d=>d=a/\c=(Y,())) ?_ (λ_ _ q=>q) ⟨O,O⟩) ?_)
  ·rintro x c d _ _ ⟨rfl,rfl⟩;refine wpS_bind (wpS_get ?_);rw[ae (by rw[D.2.2.1];exact nR1 1)];exact wpS_pure ⟨O,O⟩
  ·rintro c d ⟨rfl,rfl⟩;exact wpS_pure (h _ D.1 D.2.1 D.2.2.2)
theorem Fd(C:w9 prog w A s κ ws (pairsOf vs)){xs:Array Keyed}(p:xs.Perm (pairsOf vs))(u:Up ws xs (pairsOf vs).size):xs.map (·.2)=ws.toArray:=by
 have l:ws.length=(pairsOf vs).size:=by rw[<- C.keys.length_eq,lM1];simp
 have b:∀i,i<(pairsOf vs).size->i<=kR ws xs i:=by
  intro i
  induction i with
  |zero=>intro _;lia
  |succ i ih=>intro h;have:=ih (by lia);have:=u i (i+1) (by lia) h;lia
 have a:∀d i,i+d+1=(pairsOf vs).size->kR ws xs i<=i:=by
  intro d
  induction d with
  |zero=>
   intro i h;obtain⟨x,q,_,f⟩:=C.at_ p (i:=i) (by lia);have:=(gE1.mp f).1;lia
  |succ d ih=>
   intro i h;have:=ih (i+1) (by lia);have:=u i (i+1) (by lia) (by lia);lia
 apply Array.ext
 ·rw[b7,p.size_eq,<- l];simp
 ·intro i h1 h2;rw[b7,p.size_eq]at h1;have k:kR ws xs i=i:=Nat.le_antisymm (a ((pairsOf vs).size-1-i) i (by lia)) (b i h1);obtain⟨x,q,e,f⟩:=C.at_ p h1;rw[k]at f;have g:(x,q)∈(pairsOf vs).toList:=(b5.mp p).mem_iff.mp (Array.mem_toList_iff.mpr (Array.mem_of_getElem? e));rw[pairsOf_toList]at g;have m:x=q:=(mem_zip_self g).1;have j:(xs.map (·.2))[i]?=Z q:=by rw[Array.getElem?_map,e];rfl
  have c:ws.toArray[i]?=Z x:=by rw[List.getElem?_toArray];exact f
  rw[aG1 (by rw[b7,p.size_eq];exact h1)]at j;rw[aG1 h2]at c;rw[Option.some.inj j,Option.some.inj c,m]
end
section
variable{prog:c5}{w:c7}{A:c6}{E:cY->cZ->Prop}{s:cZ}
theorem ri(f:Bool)(x y:cY):keyLt' (tuples' f) x y=(do
  let xs<-Builtin.List.listItems x
  let ys<-Builtin.List.listItems y
  for ((p,q),i) in (xs.toList.zip ys.toList).zipIdx do
   if !(<- eqBool p q)then return<-oneLt' (f&&i == 0) p q
  return decide (xs.size<ys.size)):=rfl
theorem rd{ah:Model}{α β:Type}{f:α->Sem β}{P:α->β->Prop}:∀ {l:List α} {Q:List β->cZ->Prop},(∀ v∈l,∃ r,P v r /\ ∀ Q:β->cZ->Prop,Q r s->db ah A (f v) Q E s) ->
  (∀rs,rs.length=l.length->(∀r∈rs,∃v∈l,P v r)->Q rs s)->db ah A (l.mapM f) Q E s
 |[],Q,_,q=>by rw[List.mapM_nil];exact wP1 (q [] rfl λr a=>by cases a)
 |v::l,Q,h,q=>by
  rw[List.mapM_cons];obtain⟨r,p,a⟩:=h v mS1;refine wB1 (a _ ?_);refine wB1 (rd (λv b=>h v (mC1 _ b)) λrs c e=>?_);refine wP1 (q (r::rs) (by rw[lC1,lC1,c]) λx g=>?_);rcases ay.mp g with z|z
  ·exact⟨v,mS1,by rw[z];exact p⟩
  ·obtain⟨d,h1,h2⟩:=e x z;exact⟨d,mC1 _ h1,h2⟩
theorem A1(v:cY):firstOfTuple' v=(do
  if(<- typeOf v) != .type "tuple" then return Y
  return (<- Builtin.List.listItems v)[0]?):=rfl
theorem Ca {a:c0}{vs ws:List cY}{n:Nat}{κ:SortKind}{P:Fin->cZ->Prop}(ho:s.heap.get? a=some (seqObj "list" vs.toArray n))(k:vs.length<64)(hp:vs.Perm ws)
  (r:∀h',(∀b o,b≠a->s.heap.get? b=Z o->h'.get? b=Z o)->2<=vs.length->w9 prog w A {s with heap:=h'} κ ws (pairsOf vs) /\ ∀Q:SortKind->cZ->Prop,Q κ {s with heap:=h'}->db (model prog w) A (keyKind' vs.toArray) Q E {s with heap:=h'})
  (h:P (.done (.ret .none)) {s with heap:=sortedHeap s.heap a vs ws.toArray}):db (model prog w) A (Builtin.«list.sort» ⟨[.ref a],[]⟩) P E s:=by
 rw[list_sort_plain];have u:a<s.heap.objs.size:=hL1 ho;refine wB1 (listItems_at ho O ?_);refine wB1 (listUpdate_at ho O ?_);obtain⟨j,f⟩:∃j,(s.heap.update a (Obj.mapSeq λ_=> #[])).get? a=some (seqObj "list" #[] j):=⟨_,get?_update_seq ho (λ_=> #[])⟩;refine wB1 (seqEpoch_at f O (wB1 (wpAny_newTuple (wB1 (wpAny_newList (wpAny_holding ?_))))));have keep:∀b o,b≠a->s.heap.get? b=Z o->(((s.heap.update a (Obj.mapSeq λ_=> #[])).push (seqObj "tuple" vs.toArray 0)).push (seqObj "list" #[] 0)).get? b=Z o:=λb o p e=>
  hP1 _ (hP1 _ (by rw[hU1 _ _ _ _ p];exact e))
 have d:(((s.heap.update a (Obj.mapSeq λ_=> #[])).push (seqObj "tuple" vs.toArray 0)).push (seqObj "list" #[] 0)).get? a=Z (seqObj "list" #[] j):=hP1 _ (hP1 _ f);show db (model prog w) A _ P E {s with heap:=((s.heap.update a (Obj.mapSeq λ_=> #[])).push (seqObj "tuple" vs.toArray 0)).push (seqObj "list" #[] 0)};dsimp only;have l:vs.toArray.size=vs.length:=by simp
 have g:=hp.length_eq;have i:∀xs:Array Keyed,xs.map (·.2)=ws.toArray->P (.done (.ret .none)) {s with heap:=sortedHeap s.heap a vs (xs.map (·.2))}:=λxs e=>by rw[e];exact h
 by_cases h2:vs.toArray.size<2
 ·rw [if_pos h2,if_pos h2];refine wB1 (wP1 ?_);rw [StateT.run_pure];refine wB1 (wP1 (wB1 (seqEpoch_at d rfl ?_)));have e:((vs.toArray.zip vs.toArray).map (·.2):Array cY)=ws.toArray:=by
   have:vs=ws:=by
    match vs,ws,hp,h2 with
    |[],ws,hp,_=>exact(List.nil_perm.mp hp).symm
    |[x],ws,hp,_=>exact(List.singleton_perm.mp hp).symm ▸ rfl
    |_::_::_,_,_,h2=>simp at h2;lia
   subst this;apply Array.ext';simp;exact List.map_snd_zip (nR1 _)
  refine wB1 (listUpdate_at d O ?_ (hsz2:=by
   show(Array.map (·.2) (vs.toArray.zip vs.toArray)).size<=_;rw[e,sT1,<- g,sizeLine_eq];lia))
  simp only[bne_self_eq_false,bF1,if_false];exact wP1 (i _ e)
 ·rw [if_neg h2,if_neg h2];obtain ⟨C,K⟩:=r _ keep (by lia);refine wB1 (K _ ?_);refine wB1 (wpAny_mono (Ff C (st:=SortSt.mk' κ (vs.toArray.zip vs.toArray) #[] 7 none)
   (Q:=λ_ c=>(arrOf c).Perm (pairsOf vs)/\failedOf c=Y/\Up ws (arrOf c) (pairsOf vs).size) ⟨Array.Perm.refl _,O,O,O⟩ (by rw[pairsOf_size];lia) (by rw[pairsOf_size];exact k) λc a1 a2 a3=>⟨a1,a2,a3⟩) ?_ λ_ _ e=>e)
  rintro⟨⟨⟩,c⟩ s' ⟨rfl,t,q,m⟩;have e:=Fd C t m;refine wB1 (seqEpoch_at d O ?_);refine wB1 (listUpdate_at d O ?_ (hsz2:=by
   show(Array.map (·.2) (arrOf c)).size<=_;rw[e,sT1,<- g,sizeLine_eq];lia))
  rw[q];simp only[bne_self_eq_false,bF1,if_false];exact wP1 (i _ e)
end
section
variable{prog:c5}{w:c7}{A:c6}{E:cY->cZ->Prop}{R:Result->cZ->Prop}
end
section
variable{prog:c5}{w:c7}{A:c6}{E:cY->cZ->Prop}{s:cZ}
end
section
variable{X:Cx}
end
section
variable{prog:c5}{w:c7}{A:c6}{E:cY->cZ->Prop}{s:cZ}
end
section
variable{prog:c5}{w:c7}{A:c6}{E:cY->cZ->Prop}{R:Result->cZ->Prop}
end
section
variable{X:Cx}
theorem KT.keys{K:Fg1}{H:Hp}{mu:List c0}:∀{ks:List (TK×D)} {ws:List (TK×c0×cY)},KT K H mu ks ws->dD K H mu (ks.map λp=>oO p.1) (ws.map λx=>V.ref x.2.1)
 |_,_,.nil=>.nil
 |_,_,.cons ⟨z,d,k,_⟩ t=>.cons k (KT.keys t)
end
section
variable{X:Cx}{Z8:List (c0×Obj)}{σ:L2.St}{H:Hp}{s:cZ}{a:c0}{u v:HO}
end
section
variable{K:Fg1}{H H':Hp}{mu mu':List c0}{S:Sto}{n:Nat}{a:c0}{o:Obj}{u:HO}
end
theorem vw.lt{xs:Array Nat}(h:vw xs){a b u v:Nat}(d:a<b)(c:xs[a]?=Z u)(eb:xs[b]?=Z v):u<v:=by
 rw[<- aT1]at c eb;obtain⟨e,c⟩:=gE1.mp c;obtain⟨f,eb⟩:=gE1.mp eb;have:=List.pairwise_iff_getElem.mp h a b e f d;rw[c,eb]at this;exact this
structure Bs (xs:Array Nat)(j i:Nat):Prop where
 le:i<=xs.size
 lo:∀k v,xs[k]?=some v->k<i->v<j
 hi:∀k v,xs[k]?=some v->i<=k->j<=v
theorem Bo{xs:Array Nat}{j:Nat}(hr:vw xs):∀n lo hi:Nat,lo<=hi->hi<=xs.size->hi-lo<=n->(∀k v,xs[k]?=Z v->k<lo->v<j)->(∀k v,xs[k]?=Z v->hi<=k->j<=v)->Bs xs j (SetTable.below.go xs j n lo hi)
 |0,lo,hi,h1,h2,g,b,a=>by
  have:lo=hi:=by lia
  subst this;exact⟨h2,b,a⟩
 |n + 1,lo,hi,h1,h2,g,b,a=>by
  rw[SetTable.below.go];by_cases d:lo<hi
  ·rw[ae d];have f:(lo+hi)/2<xs.size:=by lia
   have c:=aG1 f;have i:xs.getD ((lo+hi)/2) j=xs[(lo+hi)/2]:=by simp[Array.getD,f]
   dsimp only;rw[i];by_cases hc:xs[(lo+hi)/2]<j
   ·rw[ae hc];refine Bo hr n _ _ (by lia) h2 (by lia) (λk v e h=>?_) a;rcases bN k ((lo+hi)/2)with z|z
    ·have:=hr.lt z e c;lia
    ·have:k=(lo+hi)/2:=by lia
     subst this;rw[c]at e;cases e;exact hc
   ·rw[ab hc];refine Bo hr n _ _ (by lia) (by lia) (by lia) b λk v e h=>?_;rcases bN ((lo+hi)/2) k with z|z
    ·have:=hr.lt z c e;lia
    ·have:k=(lo+hi)/2:=by lia
     subst this;rw[c]at e;cases e;lia
  ·rw[ab d];have:lo=hi:=by lia
   subst this;exact⟨h2,b,a⟩
theorem uh{xs:Array Nat}(hr:vw xs)(j:Nat):Bs xs j (SetTable.below xs j):=
 Bo hr _ 0 _ (a0 _) (nR1 _) (by lia) (λ_ _ _ h=>absurd h (bo _)) λk v e h=>by
  have:=(Array.getElem?_eq_some_iff.mp e).1;lia
theorem jB{α:Type}(xs:Array α)(p:Nat)(x:α):(SetTable.insertAt xs p x).toList=xs.toList.take p++x::xs.toList.drop p:=by
 unfold SetTable.insertAt;rw[Array.toList_append,Array.toList_push,Array.toList_extract,Array.toList_extract];simp[List.extract_eq_drop_take];rw[bZ (by simp)]
theorem Ck{xs:Array Nat}(hr:vw xs){j:Nat}(hn:xs[SetTable.below xs j]? ≠ Z j):vw (SetTable.insertAt xs (SetTable.below xs j) j):=by
 have b:=uh hr j;unfold vw;rw[jB,List.pairwise_append,b4];have lo:∀v∈xs.toList.take (SetTable.below xs j),v<j:=λv g=>by
  obtain⟨k,d⟩:=bi g;rw[List.getElem?_take]at d;split at d
  ·rename_i f;exact b.lo k v (by rw[<- aT1];exact d) f
  ·cases d
 have hi:∀v∈xs.toList.drop (SetTable.below xs j),j<v:=λv g=>by
  obtain⟨k,d⟩:=bi g;rw[List.getElem?_drop,aT1]at d;have h1:=b.hi _ v d (bj _ _);rcases bN j v with z|z
  ·exact z
  ·exfalso;have h:v=j:=by lia
   subst h;cases k with
   |zero=>exact hn d
   |succ k=>
    have l:SetTable.below xs v<xs.size:=by have:=(Array.getElem?_eq_some_iff.mp d).1;lia
    have e:=aG1 l;have:=b.hi _ _ e (nR1 _);have:=hr.lt (by lia) e d;lia
 refine⟨hr.sublist (List.take_sublist _ _),⟨hi,hr.sublist (List.drop_sublist _ _)⟩,λa i c hc=>?_⟩;rcases ay.mp hc with z|z
 ·rw[z];exact lo a i
 ·exact aZ (lo a i) (hi c z)
structure TS (l:Bool)(t:SetTable):Prop where
 up:vw t.place
 du:t.dummies = #[]
 ld:t.led=l
theorem tm{t:SetTable}(hd:t.dummies = #[])(j:Nat):SetTable.has t.dummies j=J:=by rw[hd];rfl
theorem rJ{α:Type}(f:Nat->Option α):∀l:List Nat,((l.filterMap λj=>(f j).map (j,·)).map (·.1)).Sublist l
 |[]=>.slnil
 |a::l=>by
  rw[aw];cases f a with
  |none=>exact(rJ f l).cons a
  |some x=>exact(rJ f l).cons₂ a
def Mn(e:Int×cY):Int:=match e.2 with
 | .int k _=>k
 |_=>0
structure J4 (es:Array (Int×cY))(ns:List Int):Prop where
 el:∀e∈es.toList,∃k t,e=(hashInt k,Value.int k t)
 pm:(es.toList.map Mn).Perm ns
theorem J4.size{es:Array (Int×cY)}{ns:List Int}(h:J4 es ns):es.size=ns.length:=by
 have:=h.pm.length_eq;rw[lM1,aC]at this;exact this
theorem J4.perm{es fs:Array (Int×cY)}{ns:List Int}(h:J4 es ns)(p:fs.toList.Perm es.toList):J4 fs ns:=
 ⟨λe a=>h.el e (p.mem_iff.mp a),(p.map _).trans h.pm⟩
section
variable{P:c5}{w:c7}{A:c6}{E:cY->cZ->Prop}{s:cZ}{b:Bool}{p:c0}{ns:List Int}
theorem zA{es fs:Array (Int×cY)}{ep:Nat}{t u:SetTable}{h:de}(e:h.get? p=Z (stO es ep t)):(h.update p (Obj.putSet fs u)).get? p=Z (stO fs (ep+1) u):=by
 have:=hW1 (Obj.putSet fs u) e (by rw[putSet_of fs u O];rfl);rw[putSet_of fs u O]at this;exact this
end
section
variable{P:c5}{w:c7}{A:c6}{E:cY->cZ->Prop}{s:cZ}
def jF(w:c7):Bool:=w.params.followText "set-order"
theorem wl(x:cY){G:cY->cZ->Prop}(q:G (.ref s.heap.objs.size) {s with heap:=s.heap.push (stO #[] 0 (.fresh 0 0 (!jF w)))}):
  codeAny (model P w) A (.call (.builtin "set.__new__") ⟨[.type "set",x],[]⟩) (wants G E) s:=by
 refine codeAny_of_tree (?_:db _ A.in1 (do checkBuiltinCall "set.__new__" ⟨[.type "set",x],[]⟩;again (.builtin "set.__new__" ⟨[.type "set",x],[]⟩)) _ _ s);refine wB1 (wpAny_of_eq (PySem.F.newCall_set_1 x) (wP1 ⟨plainId_quiet PySem.F.plain_set_new _,wD1 PySem.F.entry_set_new (?_:_)⟩));rw[Around.under_plainId PySem.F.plain_set_new _];unfold Builtin.«set.__new__» Builtin.Frozenset.newClass;have a:=sub_set_self;obtain⟨c,g,d,tk,b⟩:=s;dsimp only
 wp_walk
 refine wpAny_askSetting (wP1 (?_:_));dsimp only;simp only[newObj];exact wB1 (wpAny_alloc (wP1 (wP1 q)))
set_option maxHeartbeats 3200000 in
theorem vj {l:c0}{its:Array cY}{Q:cY->cZ->Prop}(F:s.heap.IsList l its)
  (d:∀i:c6,i.handled=A.handled->i.units<=A.units+2 -> ∀R:Result->cZ->Prop,(∀s',Q (.ref s.heap.objs.size) s'->R (.ok (.ret .none)) s') ->
   codeAny (model P w) i (.builtin "set.update.loop" ⟨[.ref s.heap.objs.size,.ref (s.heap.objs.size+1)],[]⟩) R {s with heap:=(s.heap.push (stO #[] 0 (.fresh 0 0 (!jF w)))).push {cls:=.type "list_iterator",data:=.fields #[.ref l,.int 0 0]}}):
  db (model P w) A (call (.type "set") [.ref l]) Q E s:=by
 obtain⟨X,ag,t⟩:=PySem.F.called_set.mro;have g:=PySem.F.called_set.made;have p:=PySem.F.called_set.sub
 refine wpAny_call (codeAny_of_tree (?_:db _ _ (callAny (.type "set") _) _ _ _));refine wP1 ⟨Code.quiet_builtin _ (by decide+kernel),wD1 PySem.F.entry_type_call (?_:_)⟩;rw[Around.under_plain (weight_type_call_type "set" [.ref l] []) O];have U:=PySem.F.called_set.notType;have T:=PySem.F.called_set.canCreate;have K:=PySem.F.typeCall_set_1 (.ref l)
 repeat(any_goals (first|wp_step|assumption))
 refine codeAny_mono (wl (.ref l) (E:=E) (G:=λx m=>x = .ref s.heap.objs.size/\m={s with heap:=s.heap.push (stO #[] 0 (.fresh 0 0 (!jF w)))}) ⟨O,O⟩) λr m f=>?_;cases r with
 |error e=>exact f
 |ok I=>
  cases I with
  |ret x=>
   obtain⟨rfl,rfl⟩:=f;have n:(s.heap.push (stO #[] 0 (.fresh 0 0 (!jF w)))).get? s.heap.objs.size=Z (stO #[] 0 (.fresh 0 0 (!jF w))):=hS1 _ O;have y:Shared.TypeIs {s with heap:=s.heap.push (stO #[] 0 (.fresh 0 0 (!jF w)))} (.ref s.heap.objs.size) "set":=⟨_,n,O⟩;have aj:=PySem.F.called_set.init.lookup;have N:=PySem.F.called_set.init.bind (.ref s.heap.objs.size)
   repeat(any_goals (first|wp_step|assumption))
   refine codeAny_mono (codeAny_call_builtin (R:=wants (λr o=>r = .none/\Q (.ref s.heap.objs.size) o) E) PySem.F.called_set.init.plain PySem.F.entry_set_init (check_set_init_1 y (?_:_))) λr2 o a=>?_
   ·obtain⟨H,h,b,k,c⟩:=F;obtain⟨W,v,ah,u⟩:=H;simp only at b c;subst b;subst c;have D:(s.heap.push (stO #[] 0 (.fresh 0 0 (!jF w)))).get? l=Z {cls:=.type "list",dict:=v,data:=.seq its k,slots:=u}:=hP1 _ h;have V:=PySem.F.sub_list_set;have L:=PySem.F.sub_list_frozenset;have S:(Value.type "list" == Value.type "dict")=J:=by decide
    have B:(s.heap.push (stO #[] 0 (.fresh 0 0 (!jF w)))).IsList l its:=⟨_,D,O,k,O⟩;have C:(s.heap.push (stO #[] 0 (.fresh 0 0 (!jF w)))).get? s.heap.objs.size=Z {cls:=.type "set",dict:=Y,data:=.set #[] 0 (.fresh 0 0 (!jF w)),slots:= #[]}:=n;unfold Builtin.«set.__init__» noKeywords Builtin.Frozenset.updateFrom;generalize j:pyIter=PI
    wp_walk
    subst j;refine wpAny_pyIter_list B (wB1 (wpAny_runValue (?_:_)));dsimp only;rw[show(s.heap.push (stO #[] 0 (.fresh 0 0 (!jF w)))).objs.size=s.heap.objs.size+1 from by rw[hZ1]];refine d A.in1.in1 (by simp) (nR1 _) _ λs' q=>?_;exact wP1 (wP1 ⟨O,q⟩)
   ·cases r2 with
    |error e=>exact a
    |ok z=>
     cases z with
     |ret r=>
      obtain⟨rfl,q⟩:=a
      repeat(any_goals (first|wp_step|assumption))
     |_=>exact a.elim
  |_=>exact f.elim
end
section
variable{P:c5}{w:c7}{A:c6}{E:cY->cZ->Prop}{b:Bool}
end
def Fg(t:SetTable)(i:Nat):Nat:=match i with
 |0=>0
 |i+1=>t.place.getD i 0+1
inductive BO (w:c7)(h:de)(a:c0)(es:Array (Int×cY))(ep:Nat)(t:SetTable):cY->Nat->List cY->Prop
 |txt (b:jF w=true) (i:Nat) (sl:Nat):BO w h a es ep t (.int sl 0) i ((pickOrder (w.params.setOrder a ep) es).toList.map (·.2))
 |drw (b:jF w=false) (d:(!t.plain&&decide (es.size>1))=true) (i:Nat) (tp:c0) (ps:List Nat) (e:h.get? tp=some {cls:=.type "tuple",data:=.seq (ps.map λj=>Value.int (j:Nat) 0).toArray}) (pm:ps.Perm (Z7 es.size)):BO w h a es ep t (.ref tp) i (ps.map λj=>(es[j]?.map (·.2)).getD .none)
 |plc (b:jF w=false) (d:(!t.plain&&decide (es.size>1))=false) (ld:t.led=true) (up:vw t.place) (i:Nat):BO w h a es ep t (.int (Fg t i) 0) i (es.toList.map (·.2))
theorem pj{α:Type}(f:Nat->Nat):∀(n k:Nat) (l:List α) (b:Array α),l.length=n->(pickOrder.go f n k l b).toList.Perm (b.toList++l)
 |0,k,l,b,h=>by
  rw[pickOrder.go,List.length_eq_zero_iff.mp h,aG]
 |n+1,k,l,b,h=>by
  have c:f k%l.length<l.length:=Nat.mod_lt _ (by lia);rw[pickOrder.go,gG1 c];refine(pj f n (k+1) _ _ (by rw[List.length_eraseIdx_of_lt c];lia)).trans ?_;rw[Array.toList_push,bx];refine List.Perm.append_left _ ?_;have d:l=l.take (f k%l.length)++l[f k%l.length]::l.drop (f k%l.length+1):=by rw[List.getElem_cons_drop,b8]
  rw[b9];refine List.Perm.trans ?_ (List.Perm.of_eq d.symm);exact(List.perm_middle (l₁:=l.take (f k%l.length)) (l₂:=l.drop (f k%l.length+1)) (a:=l[f k%l.length])).symm
theorem BO.perm{w:c7}{h:de}{a:c0}{es:Array (Int×cY)}{ep:Nat}{t:SetTable}{f:cY}{i:Nat}{pl:List cY}(y:BO w h a es ep t f i pl):pl.Perm (es.toList.map (·.2)):=by
 cases y with
 |txt=>exact(pj _ _ _ _ _ O).map _
 |drw _ _ _ d ps e c=>
  refine(c.map _).trans ?_;have:(Z7 es.size).map (λj=>(es[j]?.map (·.2)).getD .none)=es.toList.map (·.2):=by
   apply bR;intro j;rw[gP1,gP1,aT1 (xs:=es)];by_cases b:j<es.size
   ·rw[ca b,oP1,aG1 b];rfl
   ·rw[bS (by simpa using b),Array.getElem?_eq_none (by lia)];rfl
  rw[this]
 |plc=>exact .refl _
theorem BO.len{w:c7}{h:de}{a:c0}{es:Array (Int×cY)}{ep:Nat}{t:SetTable}{f:cY}{i:Nat}{pl:List cY}(y:BO w h a es ep t f i pl):pl.length=es.size:=by
 rw[y.perm.length_eq,lM1,aC]
section
variable{P:c5}{w:c7}{A:c6}{E:cY->cZ->Prop}{s:cZ}{it a:c0}{f:cY}{i ep:Nat}{es:Array (Int×cY)}{t:SetTable}{pl:List cY}
end
theorem BO.keep{w:c7}{h h':de}{a:c0}{es:Array (Int×cY)}{ep:Nat}{t:SetTable}{f:cY}{i:Nat}{pl:List cY}(y:BO w h a es ep t f i pl)(k:∀c o,f = .ref c->h.get? c=Z o->h'.get? c=Z o):BO w h' a es ep t f i pl:=by
 cases y with
 |txt b _ l=>exact .txt b _ l
 |drw b d _ c ps e j=>exact .drw b d _ c ps (k c _ O e) j
 |plc b d g up _=>exact .plc b d g up _
section
variable{P:c5}{w:c7}{A:c6}{E:cY->cZ->Prop}
end
section
variable{X:Cx}
end
section
variable{X:Cx}{Z8:List (c0×Obj)}{σ:L2.St}{H:Hp}{s:cZ}{a:c0}{kvs:List (Key×V)}{k:Key}{v:V}{u r:cY}{A:c6}{E:cY->cZ->Prop}
theorem Hh{Q:cY->cZ->Prop}(I:Inv X Z8 σ H s)(e:H a=Z (.dK kvs))(l:kvs.length<da)(w:dG (kV k) u)(t:dG v r)(h1:∀z,gD kvs k=Z z -> ∀g s',Inv X Z8 σ H s'->dG z g->Q g s')(h2:gD kvs k=Y -> ∀s',Inv X Z8 σ (upd H a (.dK (iP kvs k v))) s'->Q r s'):db (model X.prog X.w) A (call (.builtin "dict.setdefault") [.ref a,u,r]) Q E s:=by
 obtain⟨z,i,vs,b,j⟩:=wS I.hok e;refine call_meetsIn PySem.F.slot_dict_setdefault j.typeIs PySem.F.entry_dict_setdefault (PySem.F.args_dict_setdefault_3 _ _ _) (kt_meets_setdefault (eZ X.prog X.w) a (pA w) i r) ⟨vs,j,by rw[<- b.length];exact z,λy c=>?_,λm h' f x=>?_⟩
 ·cases ev:gD kvs k with
  |none=>
   have:=b.val k;rw[ev,c]at this;cases this
  |some z=>
   obtain⟨g,h,d⟩:=kC.some_of (v:=z) (o:=valueAt vs k) (by rw[<- ev];exact b.val k);rw[h]at c;cases c;exact h1 z ev _ _ (I.tok _) d
 ·cases ev:gD kvs k with
  |some z=>
   obtain⟨g,h,d⟩:=kC.some_of (v:=z) (o:=valueAt vs k) (by rw[<- ev];exact b.val k);rw[h]at m;cases m
  |none=>
   have n:(iP kvs k v).length<=da:=by have:=jw kvs k v;lia
   have p:∃q,h'.get? a=Z q:=let ⟨q,_,_,hq,_⟩:=f;⟨q,hq⟩
   exact h2 ev _ (lx I (by rw[e];exact True.intro) x p (A9 n i (b.put k t) f))
end
def KC(td ty tx:TE):TE:=fun σ H Q=>td σ H λx H1=>∃a,x = .ref a/\Lr H1 a/\ty σ H1 λy H2=>tx σ H2 λz H3=>∃kvs k,H3 a=Z (.dK kvs)/\kvs.length<da/\y=kV k /\
 (∀v,gD kvs k=Z v->Q v H3)/\(gD kvs k=Y->Q z (upd H3 a (.dK (iP kvs k z))))
section
variable{X:Cx}
theorem F0 {o e f:Expr}{apos cpos:Pos}{td ty tx:TE}(ho:PE X o td)(he:PE X e ty)(hf:PE X f tx)(m:M2 X o "setdefault" apos e f cpos):PE X (.Call (.Attribute o "setdefault" apos) [e,f] [] cpos) (KC td ty tx):=by
 intro Z8 s σ H Q I h;refine wpAny_Call_method m.base m.few m.line PySem.F.plainAttrs_dict PySem.F.slot_dict_setdefault PySem.F.type_dict_setdefault (eQ (ho Z8 s σ H _ I h) λu w ⟨x,H1,g,E,a,ex,d,t⟩=>?_);subst ex;obtain rfl:u=Value.ref a:=E;obtain⟨p,ag,_⟩:=G4 g d;refine⟨p,ag,?_⟩;rw[m.trees];refine Calls.callWith_builtin O (Calls.evalArgs_plain (Calls.spliced_cons (eQ (he Z8 w σ H1 _ g t) λK C ⟨y,H2,i,G,q⟩=>
  Calls.spliced_cons (eQ (hf Z8 C σ H2 _ i q) λL ah ⟨z,j,A,c,kvs,k,B,el,F,r,D⟩=>Calls.spliced_nil ?_))))
 subst F;exact Hh A B el G c (λv l N s' b n=>⟨v,j,b,n,r v l⟩) λl s' b=>⟨z,_,b,c,D l⟩
def nW(m a b:FE):FE:=λr S=>(m r S).bind λp=>match p.1 with
 | .ref n=>match p.2[n]? with
  |some (.dct _)=>(a r p.2).bind λq=>(b r q.2).bind λt=>match t.2[n]? with
   |some (.dct kvs)=>(rj q.1).bind λk=>if kvs.length<da then Z (match dF kvs k with|some z=>(z,t.2)|none=>(t.1,t.2.set n (.dct (gO kvs k t.1))))else none
   |_=>Y
  |_=>Y
 |_=>Y
theorem BV {o e f:Expr} {apos cpos:Pos} {m a b:FE} (ho:XE X o m) (he:XE X e a) (hf:XE X f b) (hm:M2 X o "setdefault" apos e f cpos:=by exact⟨O,O,O,O⟩):XE X (.Call (.Attribute o "setdefault" apos) [e,f] [] cpos) (nW m a b):=
 ⟨eg (F0 ho.h he.h hf.h hm) <| by
  rintro σ H Q ⟨r,mu,S,d,S',he,U,hm,hc⟩;obtain⟨⟨W,B⟩,E,hm⟩:=oB1.mp hm;refine⟨r,mu,S,W,B,he,U,E,λv1 H1 mu1 i V y=>?_⟩;dsimp only at hm;split at hm
  ·rename_i n;split at hm
   ·rename_i K s;cases V with
    | @ref _ F x=>
     refine⟨F,O,G0 y x s,?_⟩;obtain⟨⟨T,D⟩,ag,hm⟩:=oB1.mp hm;obtain⟨⟨ai,R⟩,L,hm⟩:=oB1.mp hm;refine⟨r,mu1,B,T,D,he.ext i,y,ag,λwq H2 w x2 r2 aj=>?_⟩;refine⟨r,w,D,ai,R,(he.ext i).ext x2,aj,L,λah p g j C t=>?_⟩;dsimp only at hm;split at hm
     ·rename_i kvs I;obtain⟨k,G,hm⟩:=oB1.mp hm;split at hm
      ·rename_i N;have hm:=Option.some.inj hm;have h:=j.at (x2.at x);obtain⟨ws,q,u⟩:=t.dct I h;have lk:=u.look (k:=k);refine⟨ws,k,q,by rw[<- u.length];exact N,ll (r2.ext j) G,λv l=>?_,λl=>?_⟩
       ·cases e:dF kvs k with
        |none=>have:=lk.2;rw[e]at this;simp[l]at this
        |some z=>
         rw[e]at hm;cases hm;obtain⟨P,c,A⟩:=lk.1 _ e;rw[l]at c;cases c;exact hc _ p g ((i.trans x2).trans j) A t
       ·cases e:dF kvs k with
        |some z=>
         obtain⟨P,c,A⟩:=lk.1 _ e;rw[l]at c;cases c
        |none=>
         rw[e]at hm;cases hm;have put:Ext g g p (upd p _ (.dK (iP ws k ah))):=Ext.put q trivial (gM1 h);exact hc _ _ g (((i.trans x2).trans j).trans put) (C.ext put) (t.put h q trivial ⟨_,dQ,(u.put C).ext put⟩)
      ·cases hm
     ·cases hm
   ·cases hm
  ·cases hm⟩
end
open AutoSeq1 (wpAny_loadPart')
section
variable{prog:c5}{w:c7}{A:c6}{E:cY->cZ->Prop}{s:cZ}
theorem t8{Q:List cY->cZ->Prop}{r:c0}{a b c:Int}{t u v:Tok}{n:Nat}(z:A.handled=none)(hr:IsRange s.heap r a b c t u v)(hsmall:Builtin.Range.small a b c=true)(hn:Builtin.Range.rangeSize a b c=n)(m:n<=2^24)(G:∀h' tk d,(∀b o',s.heap.get? b=some o'->h'.get? b=some o')->ItemsOf (fun i v=>∃t,v = .int (a+i*c) t) d n->Q d.toList {s with heap:=h',toks:=tk}):
  db (model prog w) A (collect (.ref r)) Q E s:=by
 unfold collect;refine wB1 (wpAny_runValue (wD1 F.entry_proto_collect (?_:_)));rw [Around.under_plainId F.plain_proto_collect _];show db _ A.in1 (newList [] >>= fun l=>again (.builtin "list.__iadd__" ⟨[l,.ref r],[]⟩)) _ _ s;refine wB1 (wO1 (?_:_));refine wP1 ⟨plainId_quiet F.plain_list_iadd _,wD1 F.entry_list_iadd (?_:_)⟩;rw [Around.under_plainId F.plain_list_iadd _];show db _ A.in1 (Builtin.List.listExtendWith (.ref s.heap.objs.size) (.ref r) (.ref s.heap.objs.size)) _ _ _;have B:(s.heap.push {cls:=.type "list",data:=.seq ([]:List cY).toArray}).get? s.heap.objs.size=some {cls:=.type "list",data:=.seq #[] 0}:=hS1 _ rfl;have j:∀ h' tk d g,(∀ b o',s.heap.get? b=some o'->h'.get? b=some o')->h'.get? s.heap.objs.size=some {cls:=.type "list",dict:=none,data:=.seq d g,slots:= #[]}->ItemsOf (fun i v=>∃ t,v = .int (a+i*c) t) d n ->
   db (model prog w) A (match Value.ref s.heap.objs.size with
   |Value.ref a=>do
    match (<- load a).data with
     |Data.seq xs _=>pure xs.toList
     |_=>unsupported "internal:collect"
   |_=>unsupported "internal:collect") Q E {s with heap:=h',toks:=tk}:=by
  intro h' tk d g p k x;show db _ A (load s.heap.objs.size >>= _) _ _ _;refine wB1 (wpAny_load k (?_:_));refine wP1 (?_:_);exact G h' tk d p x
 refine wpAny_mono (wpAny_extend_range (A:=A) (R:=λC s'=>∃h' tk d g,C = .ok (.ret (.ref s.heap.objs.size))/\s'={s with heap:=h',toks:=tk}/\(∀b o',s.heap.get? b=Z o'->h'.get? b=Z o')/\h'.get? s.heap.objs.size=Z {cls:=.type "list",dict:=Y,data:=.seq d g,slots:= #[]}/\ItemsOf (λi v=>∃t,v = .int (a+i*c) t) d n)
  (s:={s with heap:=s.heap.push {cls:=.type "list",data:=.seq ([]:List cY).toArray}}) z (hP1 _ hr) hsmall hn m _ _ 0 B λh' tk d g p k x=>
   ⟨h',tk,d,g,O,O,λb o e=>p b o (nN1 (hL1 e)) (hP1 _ e),k,x⟩) (λy s' h=>?_) (λe s' h=>?_)
 ·cases y with
  |done f=>
   obtain⟨h',tk,d,g,e,rfl,q⟩:=h;cases e;exact j h' tk d g q.1 q.2.1 q.2.2
  |again g=>exact⟨h.1,codeAny_mono h.2 λr D hr=>by obtain⟨h',tk,d,g,rfl,rfl,q⟩:=hr;exact j h' tk d g q.1 q.2.1 q.2.2⟩
 ·obtain⟨_,_,_,_,e,_⟩:=h;cases e
end
theorem uX(r:c0)(a b c:Int)(t u v:Tok)(n:Nat)(hsmall:Builtin.Range.small a b c=true)(hn:Builtin.Range.rangeSize a b c=n)(f:n<=2^20):
  Meets (Builtin.«tuple.__new__» ⟨[.type "tuple",.ref r],[]⟩)
   (λA R s=>A.handled=Y/\IsRange s.heap r a b c t u v /\ ∀(h':de) (tk:Nat) (acc:Array cY),(∀b o',s.heap.get? b=Z o'->h'.get? b=Z o')->ItemsOf (λi v=>∃t,v = .int (a+i*c) t) acc n ->
    R (.ok (.ret (.ref h'.objs.size))) {s with heap:=h'.push {cls:=.type "tuple",data:=.seq acc},toks:=tk}):=
 .of_wp λprog w A R s h=>by
  obtain⟨D,g,d,k,y⟩:=s;obtain⟨x,m,h⟩:=h;have p:=sub_tuple_self;have j:=init_tuple_lookup;have z:=madeHere_tuple;have C:Shared.TypeIs ⟨D,g,d,k,y⟩ (.ref r) "range":=⟨_,m,O⟩;have l:A.in1.handled=Y:=x
  wp_walk using wpAny_loadPart' m,wpAny_typeOf C,t8 l m hsmall hn (av f (by decide))
  intro h' tk acc q o;show db _ _ (Builtin.Tuple.tupleExact acc.toList.toArray >>= λv=>ret v) _ _ _;unfold Builtin.Tuple.tupleExact;have B:n<=da:=av f (by decide);refine wB1 (wO1 (?_:_) (show acc.toList.toArray.size<=da by simp only[cb];rw[o.1];exact B));refine wP1 ⟨_,O,(?_:_)⟩;have e:acc.toList.toArray=acc:=by simp
  rw[e];exact h h' tk acc q o
section
variable{X:Cx}
theorem Hm(hc:X.calm=M):eh X (.type "tuple") (λxs H Q=>∃p i j,xs=[.ref p]/\H p=Z (.rng i j)/\(-(2^62)<=i/\i<2^62 /\ -(2^62)<=j/\j<2^62)/\(j-i).toNat<=2^20 /\ ∀l,H l=Y->Q (.ref l) (upd H l (.tup (jX i (j-i).toNat)))):=by
 intro Z8 s σ H xs K Q I r h;obtain⟨p,i,j,rfl,E,⟨h1,h2,z,B⟩,n,q⟩:=h;obtain⟨u,rfl,C⟩:=gU r;cases C;obtain⟨t,u,v,e⟩:=I.hok p _ E;have D:(((j-i).toNat:Nat):Int)=Builtin.Range.rangeSize i j 1:=by rw[rangeSize_one];split<;>lia
 refine callType_new F.called_tuple (by decide) (F.typeCall_tuple_1 _) (F.newCall_tuple_1 _) (λg=>F.args_object_init_2 g _) F.entry_tuple_new
  (uX p i j 1 t u v (j-i).toNat (small_one h1 h2 z B) D.symm n) ⟨I.ok.hd hc,e,λh' tk a A hi=>⟨⟨_,hS1 _ O,O⟩,(?_:_)⟩⟩
 obtain⟨f,c⟩:=hi;have d:dR (jX i (j-i).toNat) a.toList:=qc (by rw[jo];simpa using f.symm) λk x u ag y=>by
  rw[nK _ _ _ _ ag];obtain⟨G,rfl⟩:=c k u (by simpa using y);exact⟨G,by rw[Int.mul_one]⟩
 have m:Inv X Z8 σ H {s with heap:=h',toks:=tk}:=I.kept (t':=tk) A;have w:Inv X Z8 σ (upd H h'.objs.size (.tup (jX i (j-i).toNat))) {s with heap:=h'.push {cls:=.type "tuple",data:=.seq a},toks:=tk}:=
  m.laid (t':=tk) (λb o e=>hP1 _ e) (nR1 _) (show eA X.prog X.w _ _ _ (.tup _)from⟨by rw[jo];exact av n (by decide),a.toList,d,by simpa using IsTup.new _ _⟩)
 exact⟨.ref h'.objs.size,_,w,O,q _ (m.hok.fresh (nR1 _))⟩
def Au(m:FA):FE:=λr S=>(m r S).bind λp=>match p.1 with
 |[.int j]=>if mm 0 j=M then Z (.tup (gy 0 j.toNat),p.2)else Y
 |_=>Y
theorem sy {a:Expr}{m:FA}{e p2 b c:Pos}(hc:X.calm=true)(hg:Gl X "range")(hm:X.mg "range"=none)(hg2:Gl X "tuple")(hm2:X.mg "tuple"=none)(ha:XA X [a] m)(hs:c9 [a] X.env=[(false,eval a X.env)]:=by rfl)
  (hs2:c9 [.Call (.Name "range" e) [a] [] b] X.env=[(J,eval (.Call (.Name "range" e) [a] [] b) X.env)]:=by rfl):XE X (.Call (.Name "tuple" p2) [.Call (.Name "range" e) [a] [] b] [] c) (Au m):=
 ⟨eg (jR (Hm hc) hg2 hm2 (by decide+kernel) (iR (pk hg hm ha.h hs) lQ hs2) (by decide) (by decide) hs2) <| by
  rintro σ H Q ⟨r,mu,S,d,x,q,hs,hm,f⟩;obtain⟨⟨ds,w⟩,n,hm⟩:=oB1.mp hm;dsimp only at hm;split at hm
  ·rename_i j;split at hm
   ·rename_i g;cases hm;refine⟨r,mu,S,_,_,q,hs,n,λvs H1 mu1 k o s=>?_⟩;obtain⟨v,rfl,t⟩:=kZ o;cases t;refine⟨j,O,λp i=>⟨p,0,j,O,dQ,(kX g).1,(kX g).2,λl h=>?_⟩⟩;have x2:=(k.trans (Ext.fresh (u:=.rng 0 j) i)).trans (Ext.fresh (u:=.tup (jX 0 (j-0).toNat)) h);exact f _ _ mu1 x2 (.tup (jJ.of dQ) (by rw[Int.sub_zero];exact nJ _ _)) ((s.fresh i).fresh h)
   ·cases hm
  ·cases hm⟩
end
section
variable{P:c5}{w:c7}{A:c6}{E:cY->cZ->Prop}{s:cZ}
set_option maxHeartbeats 3200000 in
theorem yi {l:c0}{its:Array cY}{Q:cY->cZ->Prop}(F:s.heap.IsTuple l its)
  (d:∀t:c6,t.handled=A.handled -> ∀R:Result->cZ->Prop,(∀s',Q (.ref s.heap.objs.size) s'->R (.ok (.ret .none)) s') ->
   codeAny (model P w) t (.builtin "set.update.loop" ⟨[.ref s.heap.objs.size,.ref (s.heap.objs.size+1)],[]⟩) R {s with heap:=(s.heap.push (stO #[] 0 (.fresh 0 0 (!jF w)))).push {cls:=.type "tuple_iterator",data:=.fields #[.ref l,.int 0 0]}}):
  db (model P w) A (call (.type "set") [.ref l]) Q E s:=by
 obtain⟨X,ag,p⟩:=PySem.F.called_set.mro;have g:=PySem.F.called_set.made;have o:=PySem.F.called_set.sub
 refine wpAny_call (codeAny_of_tree (?_:db _ _ (callAny (.type "set") _) _ _ _));refine wP1 ⟨Code.quiet_builtin _ (by decide+kernel),wD1 PySem.F.entry_type_call (?_:_)⟩;rw[Around.under_plain (weight_type_call_type "set" [.ref l] []) O];have U:=PySem.F.called_set.notType;have T:=PySem.F.called_set.canCreate;have K:=PySem.F.typeCall_set_1 (.ref l)
 repeat(any_goals (first|wp_step|assumption))
 refine codeAny_mono (wl (.ref l) (E:=E) (G:=λx k=>x = .ref s.heap.objs.size/\k={s with heap:=s.heap.push (stO #[] 0 (.fresh 0 0 (!jF w)))}) ⟨O,O⟩) λr k f=>?_;cases r with
 |error e=>exact f
 |ok I=>
  cases I with
  |ret x=>
   obtain⟨rfl,rfl⟩:=f;have m:(s.heap.push (stO #[] 0 (.fresh 0 0 (!jF w)))).get? s.heap.objs.size=Z (stO #[] 0 (.fresh 0 0 (!jF w))):=hS1 _ O;have y:Shared.TypeIs {s with heap:=s.heap.push (stO #[] 0 (.fresh 0 0 (!jF w)))} (.ref s.heap.objs.size) "set":=⟨_,m,O⟩;have aj:=PySem.F.called_set.init.lookup;have N:=PySem.F.called_set.init.bind (.ref s.heap.objs.size)
   repeat(any_goals (first|wp_step|assumption))
   refine codeAny_mono (codeAny_call_builtin (R:=wants (λr n=>r = .none/\Q (.ref s.heap.objs.size) n) E) PySem.F.called_set.init.plain PySem.F.entry_set_init (check_set_init_1 y (?_:_))) λr2 n a=>?_
   ·obtain⟨H,h,b,j,c⟩:=F;obtain⟨W,v,ah,u⟩:=H;simp only at b c;subst b;subst c;have D:(s.heap.push (stO #[] 0 (.fresh 0 0 (!jF w)))).get? l=Z {cls:=.type "tuple",dict:=v,data:=.seq its j,slots:=u}:=hP1 _ h;have V:=PySem.F.sub_tuple_set;have L:=PySem.F.sub_tuple_frozenset;have S:(Value.type "tuple" == Value.type "dict")=J:=by decide
    have B:(s.heap.push (stO #[] 0 (.fresh 0 0 (!jF w)))).IsTuple l its:=⟨_,D,O,j,O⟩;have C:(s.heap.push (stO #[] 0 (.fresh 0 0 (!jF w)))).get? s.heap.objs.size=Z {cls:=.type "set",dict:=Y,data:=.set #[] 0 (.fresh 0 0 (!jF w)),slots:= #[]}:=m;unfold Builtin.«set.__init__» noKeywords Builtin.Frozenset.updateFrom;generalize i:pyIter=PI
    wp_walk
    subst i;refine wpAny_pyIter_tuple B (wB1 (wpAny_runValue (?_:_)));dsimp only;rw[show(s.heap.push (stO #[] 0 (.fresh 0 0 (!jF w)))).objs.size=s.heap.objs.size+1 from by rw[hZ1]];refine d A.in1.in1 (by simp) _ λs' q=>?_;exact wP1 (wP1 ⟨O,q⟩)
   ·cases r2 with
    |error e=>exact a
    |ok z=>
     cases z with
     |ret r=>
      obtain⟨rfl,q⟩:=a
      repeat(any_goals (first|wp_step|assumption))
     |_=>exact a.elim
  |_=>exact f.elim
theorem vi{l:c0}{its:Array cY}{ns:List Int}{Q:cY->cZ->Prop}(y:A.handled=Y)(j:s.heap.IsTuple l its)(G:IntsAre its.toList ns)(hb:its.size+1<scanBound)(q:∀h' tk,(∀c o,s.heap.get? c=Z o->h'.get? c=Z o)->h'.SetOf (intKind P w) s.heap.objs.size (λB=>(firstMet (λi=>ns.getD i 0) its.size).any (· == B)) (firstMet (λi=>ns.getD i 0) its.size).length->Q (.ref s.heap.objs.size) {s with heap:=h',toks:=tk}):db (model P w) A (call (.type "set") [.ref l]) Q E s:=by
 have b:l<s.heap.objs.size:=by obtain⟨o,e,_⟩:=j;exact hL1 e
 refine yi j λag x R I=>?_;have H:(s.heap.push (stO #[] 0 (.fresh 0 0 (!jF w)))).objs.size=s.heap.objs.size+1:=by rw[hZ1]
 have F:(s.heap.push (stO #[] 0 (.fresh 0 0 (!jF w)))).get? s.heap.objs.size=Z (stO #[] 0 (.fresh 0 0 (!jF w))):=hS1 _ O;have a:∀(i:Nat) (v:cY),its[i]?=Z v -> ∃t,v = .int ((λi=>ns.getD i 0) i) t:=λi v z=>PyProof.Rows.IntsAre.int_at G i v (by rw[aT1];exact z);have f:s.heap.objs.size∉[s.heap.objs.size+1,l]:=by
  simp only[ay,cc,bE,or_false,not_or];exact⟨nN1 (bt _),nG1 b⟩
 have m:ag.in1.handled=Y:=by simpa using x.trans y
 refine PyProof.Rows.codeAny_set_update_loopS ((Walks.tuple m _ l (nN1 (cf b)) its).toS) s.heap.objs.size f (λi=>ns.getD i 0) a hb (its.size-0) 0 _ (by lia) (a0 _) ⟨?_,?_⟩ ?_ λs' d g=>?_
 ·refine⟨{cls:=.type "tuple_iterator",data:=.fields #[.ref l,.int 0 0]},?_,O,O⟩;have this:((s.heap.push (stO #[] 0 (.fresh 0 0 (!jF w)))).push {cls:=.type "tuple_iterator",data:=.fields #[.ref l,.int 0 0]}).get? (s.heap.push (stO #[] 0 (.fresh 0 0 (!jF w)))).objs.size=Z {cls:=.type "tuple_iterator",data:=.fields #[.ref l,.int 0 0]}:=hS1 _ O;rw[H]at this;exact this
 ·obtain⟨o,e,r⟩:=j;exact⟨o,hP1 _ (hP1 _ e),r⟩
 ·exact PyProof.Rows.SetOf_congr ((PyProof.Rows.setObjOf_fresh (knd:=intKind P w) (!jF w)).setOf (hP1 _ F) (by unfold scanBound;lia)) (λ_=>rfl) O
 ·obtain⟨h',n,D,k,h⟩:=s';have u:n=s.gens:=d.gens;have C:D=s.drawn:=d.drawn;have p:h=s.os:=d.os;subst u;subst C;subst p;refine I _ (q h' k (λc o e=>d.heap c o ?_ (hP1 _ (hP1 _ e))) g);have:=hL1 e;simp only[ay,cc,bE,or_false,not_or];exact⟨nN1 this,nN1 (cf this)⟩
end
section
variable{X:Cx}
def gP:G1:=λd S=>match dH S d with
 |some (_,xs)=>(jA xs).bind λns=>if ns.length+1<scanBound then Z (.ref S.length,S++[.iset (ddI ns)])else Y
 |_=>Y
theorem vk{k:Nat}(hr:fB k X.A):eh X (.type "set") (rN X.K (b1 gP)):=by
 intro Z8 s σ H xs v Q I r h;have F:=h;obtain⟨x,mu,S,d,o,E,rfl,m,i,c,hc⟩:=v7 h;unfold gP at c;split at c
 ·rename_i b ys l;cases b with
  |true=>exact JK hr Z8 s σ H _ v Q I r ⟨mu,S,[d],o,E,.cons m .nil,i,(by show rA d S=_;unfold rA;rw[l];exact c),hc⟩
  |false=>
  obtain⟨ns,e,c⟩:=oB1.mp c;split at c
  ·rename_i y;cases c;obtain⟨a,vs,rfl,q,t⟩:=dB m i l;cases r with
   |cons B rt=>
    cases rt;cases B;obtain⟨g,p,A,_⟩:=I.tuple q;obtain⟨hi,n⟩:=pG t p e;have f:g.toArray.size=ns.length:=by rw[sT1,hi.length]
    refine vi (its:=g.toArray) (ns:=ns) hr.hd A (by simpa using hi) (by rw[f];exact y) λh' tk C j=>?_;rw[f,t4]at j;have D:(ddI ns).Nodup:=oz ns [] bh;have w:=lE (ddI ns);rw[w]at j;refine⟨.ref s.heap.objs.size,upd H s.heap.objs.size (.set (λk=>(ddI ns).contains k) (ddI ns).length),I.laid (λb u z=>C b u z) (nR1 _) j,O,?_⟩;exact hc _ _ (mu++[s.heap.objs.size]) (Ext.new_ I.fresh) (.ref (gm i.len _)) (i.new I.fresh ⟨dQ,D⟩)
  ·cases c
 ·cases c
end
section
variable{X:Cx}{a b:Expr}{rest:List Expr}{pos:Pos}{ta tb:TE}{f g:FE}
theorem FR(ha:PE X a ta)(hb:PE X (.BoolOp .Or (b::rest) pos) tb):PE X (.BoolOp .Or (a::b::rest) pos) (fun σ H Q=>ta σ H λx H'=>∃k,BH X.K x H' k/\if k=M then Q x H' else tb σ H' Q):=by
 intro Z8 s σ H Q I h;refine BoolOp_or (eQ (ha Z8 s σ H _ I h) λv m ⟨x,H1,i,g,e⟩=>?_);obtain⟨k,tk,e⟩:=e;refine eQ (y3 Z8 m σ H1 x v (λl H'=>if l=M then Q x H' else tb σ H' Q) i g ⟨k,tk,e⟩) λc j ⟨H2,f,d⟩=>?_;cases c with
 |false=>rw[ab (by decide)]at d ⊢;exact hb Z8 j σ H2 Q f d
 |true=>rw[ae O]at d ⊢;exact⟨x,H2,f,g,d⟩
def Ax(a b:FE):FE:=λr S=>(a r S).bind λp=>(qf p.2 p.1).bind λk=>if k=M then Z p else b r p.2
theorem vG(ha:XE X a f)(hb:XE X (.BoolOp .Or (b::rest) pos) g):XE X (.BoolOp .Or (a::b::rest) pos) (Ax f g):=
 ⟨eg (FR ha.h hb.h) <| by
  rintro σ H Q ⟨r,mu,S,d,n,m,u,c,hc⟩;obtain⟨⟨t,j⟩,o,c⟩:=oB1.mp c;obtain⟨k,p,c⟩:=oB1.mp c;refine⟨r,mu,S,t,j,m,u,o,λv H1 mu1 e l h=>⟨k,y7 l h p,?_⟩⟩;cases k with
  |true=>rw[ae O]at c ⊢;cases c;exact hc _ H1 mu1 e l h
  |false=>rw[ab (by decide)]at c ⊢;exact⟨r,mu1,j,d,n,m.ext e,h,c,λq H2 i x2 r2 s=>hc q H2 i (e.trans x2) r2 s⟩⟩
end
section
variable{X:Cx}
theorem KR.len{K:Fg1}{H:Hp}{mu:List c0}{ks:List (Key×D)}{ws:List (Key×V)}(h:KR K H mu ks ws):ws.length=ks.length:=by
 induction h with
 |nil=>rfl
 |cons _ _ ih=>rw[lC1,lC1,ih]
def oi:G1:=λd S=>match d with
 | .ref n=>match S[n]? with
  |some (.dct kvs)=>Z (.int kvs.length,S)
  |_=>dN d S
 |_=>dN d S
theorem Hr:eh X (.builtin "len") (rN X.K (b1 oi)):=by
 intro Z8 s σ H xs i Q I r h;obtain⟨x,mu,S,d,j,g,c,f,b,a,hc⟩:=v7 h;have o:=a;unfold oi at a;split at a
 ·rename_i n;split at a
  ·rename_i ys e;cases a;subst c;cases f with
   |ref p=>
    obtain⟨ws,k,l⟩:=b.dct e p;cases r with
    |cons q rt=>
     cases rt;cases q;refine JE I (Rd.of k) λt s' m=>⟨.int ws.length,H,m,⟨_,O⟩,?_⟩;rw[l.len];exact hc.now (.int _) b
  ·exact d9 Z8 s σ H xs i Q I r (by subst c;exact⟨mu,S,[_],j,g,.cons f .nil,b,(show b1 dN [_] S=_ from a),hc⟩)
 ·exact d9 Z8 s σ H xs i Q I r (by subst c;exact⟨mu,S,[_],j,g,.cons f .nil,b,(show b1 dN [_] S=_ from a),hc⟩)
end
section
variable{P:c5}{w:c7}{A:c6}{E:cY->cZ->Prop}{b:Bool}
end
section
variable{X:Cx}
end
section
variable{prog:c5}{w:c7}{A:c6}{E:cY->cZ->Prop}{s:cZ}
theorem t7 {l:c0}{vs:List cY}{Q:List cY->cZ->Prop}(d:s.heap.IsTuple l vs.toArray)
  (h:Q vs {s with heap:=(s.heap.push (seqObj "list" #[] 0)).update s.heap.objs.size (Obj.mapSeq (· ++ vs.toArray))}) (hsz:vs.length<=da:=by size_fits):
  db (model prog w) A (collect (.ref l)) Q E s:=by
 obtain⟨o,c,hc,n,b⟩:=id d;unfold collect;refine wB1 (wpAny_runValue (wD1 entry_proto_collect' ?_));show db _ _ (do again (.builtin "list.__iadd__" ⟨[<- newList [],.ref l],[]⟩)) _ _ s;refine wB1 (wpAny_newList (wP1 ⟨Code.quiet_builtin _ (by decide+kernel),wD1 entry_list_iadd' ?_⟩));show db _ _ (Builtin.List.listExtendWith (.ref s.heap.objs.size) (.ref l) (.ref s.heap.objs.size)) _ _ {s with heap:=s.heap.push (seqObj "list" #[] 0)};unfold Builtin.List.listExtendWith;have a:(s.heap.push (seqObj "list" #[] 0)).get? l=Z o:=hP1 _ c;refine wB1 (wpAny_typeOf (T:="tuple") ⟨o,a,hc⟩ ?_);have e:(Value.type "tuple" == Value.type "tuple")=M:=by rfl
 rw [if_pos (by rw [e];simp)];refine wB1 (listItems_at a b ?_);refine wB1 (listItems_at (xs:= #[]) (n:=0) (hS1 _ rfl) rfl ?_);rw [if_neg (by simp)];refine wB1 (listUpdate_at (xs:= #[]) (n:=0) (hS1 _ rfl) rfl ?_ (a0 _) (by show (#[]++vs.toArray).size<=da+1;simp only [Array.size_append,sT1,aW];omega));refine wP1 ?_;show db (model prog w) A (do
   let o<-load s.heap.objs.size
   match o.data with
   | .seq xs _=>pure xs.toList
   |_=>unsupported "internal:collect") Q E {s with heap:=(s.heap.push (seqObj "list" #[] 0)).update s.heap.objs.size (Obj.mapSeq (· ++ vs.toArray))}
 refine wB1 (wpAny_load (get?_update_seq (hS1 _ O) _) ?_);show db _ _ (pure ((#[]:Array cY)++vs.toArray).toList) Q E _;rw[show((#[]:Array cY)++vs.toArray).toList=vs by simp];exact wP1 h
theorem ny {l:c0}{vs:List cY}{Q:cY->cZ->Prop}(c:s.heap.IsList l vs.toArray\/s.heap.IsTuple l vs.toArray)(g:vs.length<64)
  (h:∀P:PySem.Fin->cZ->Prop,(∀a:Array cY,Q (.ref (s.heap.objs.size+1)) {s with heap:=sortedAll s.heap vs a}->P (.done (.ret .none)) {s with heap:=sortedAll s.heap vs a}) ->
   ∀e (h':de),h'=(((s.heap.push (seqObj "list" #[] 0)).update s.heap.objs.size (Obj.mapSeq (· ++ vs.toArray))).push (seqObj "list" vs.toArray 0))->h'.get? (s.heap.objs.size+1)=Z (seqObj "list" vs.toArray 0) ->
   db (model prog w) A.in1.in1 (Builtin.«list.sort» ⟨[.ref (s.heap.objs.size+1)],[]⟩) P e {s with heap:=h'}):
  db (model prog w) A (call (.builtin "sorted") [.ref l]) Q E s:=by
 refine Calls.call_function_entry kind_sorted plain_sorted entry_sorted (args_sorted1 _) ?_;unfold Builtin.«sorted»;refine wB1 (m:=checkCount "sorted" 1 1 _) (wP1 ?_);have i:∀(e:cY->cZ->Prop) (Q:List cY->cZ->Prop),Q vs {s with heap:=(s.heap.push (seqObj "list" #[] 0)).update s.heap.objs.size (Obj.mapSeq (· ++ vs.toArray))}->db (model prog w) A.in1 (collect (.ref l)) Q e s:=λe Q f=>by
  rcases c with c|c
  ·exact collect_list c f (by rw[sizeLine_eq];omega)
  ·exact t7 c f (by rw[sizeLine_eq];omega)
 refine wB1 (i _ _ ?_);refine wB1 (wpAny_newList ?_ (by rw[sizeLine_eq];omega));have b:((s.heap.push (seqObj "list" #[] 0)).update s.heap.objs.size (Obj.mapSeq (· ++ vs.toArray))).objs.size=s.heap.objs.size+1:=by
  rw[Heap.size_update,size_push']
 have d:(((s.heap.push (seqObj "list" #[] 0)).update s.heap.objs.size (Obj.mapSeq (· ++ vs.toArray))).push (seqObj "list" vs.toArray 0)).get? (s.heap.objs.size+1)=Z (seqObj "list" vs.toArray 0):=by
  rw[<- b];exact hS1 _ O
 show db _ _ _ _ _ {s with heap:=((s.heap.push (seqObj "list" #[] 0)).update s.heap.objs.size (Obj.mapSeq (· ++ vs.toArray))).push (seqObj "list" vs.toArray 0)};rw[b];refine wB1 (wpAny_holding (wE1 slot_list_sort ⟨_,d,O⟩ entry_list_sort (h _ ?_ _ _ O d) (args_list_sort _)));intro a f;exact⟨_,O,wP1 ⟨_,O,f⟩⟩
theorem tJ{vs:List cY}{b:c0}{o:Obj}(q:s.heap.get? b=Z o):b≠s.heap.objs.size+1/\(((s.heap.push (seqObj "list" #[] 0)).update s.heap.objs.size (Obj.mapSeq (· ++ vs.toArray))).push (seqObj "list" vs.toArray 0)).get? b=Z o:=by
 have a:b<s.heap.objs.size:=hL1 q;have c:((s.heap.push (seqObj "list" #[] 0)).update s.heap.objs.size (Obj.mapSeq (· ++ vs.toArray))).objs.size=s.heap.objs.size+1:=by
  rw[Heap.size_update,size_push']
 refine⟨nN1 (cf a),?_⟩;rw[Heap.get?_push_ne _ _ _ (by rw[c];exact nN1 (cf a)),hU1 _ _ _ _ (nN1 a),Heap.get?_push_ne _ _ _ (nN1 a)];exact q
theorem GR{a b:c0}{k l:Int}{t u:Tok}{f zs:List cY}{Q:Bool->cZ->Prop}(ha:IsTup s.heap a (Value.int k t::f).toArray)(hb:IsTup s.heap b (Value.int l u::zs).toArray)(c:k≠l)(h:Q (decide (k<l)) s):
  db (model prog w) A (keyLt' (tuples' M) (.ref a) (.ref b)) Q E s:=by
 rw[ri];obtain⟨o,d,m,_,g⟩:=ha;obtain⟨n,e,j,_,i⟩:=hb;refine wB1 (listItems_at d g (wB1 (listItems_at e i ?_)));rw[bM,bD,bv];refine wB1 (wB1 ?_);dsimp only;refine wB1 (wpAny_eqBool_int ?_);rw[beq_false_of_ne c];simp only[cg,if_true];exact wB1 (oneLt_int (wP1 (wP1 (wP1 h))))
theorem GS{vs:List cY}{Q:SortKind->cZ->Prop}(g:vs≠[])(h:∀ v∈vs,∃ a k t ps,v = .ref a/\IsTup s.heap a (Value.int k t::ps).toArray)(q:Q (tuples' true) s):
  db (model prog w) A (keyKind' vs.toArray) Q E s:=by
 rw[keyKind'_eq,List.mapM_toArray,<- bind_pure_comp];refine wB1 (wB1 (rd (P:=λ_ r=>∃k t,r=Z (Value.int k t)) (λv f=>?_) λrs B i=>wP1 ?_))
 ·obtain⟨a,k,t,ps,rfl,⟨o,l,u,_,D⟩⟩:=h v f;refine⟨Z (.int k t),⟨k,t,O⟩,λQ q=>?_⟩;rw[A1];refine wB1 (wpAny_typeOf (T:="tuple") ⟨o,l,u⟩ ?_);rw[ab (by decide)];refine wB1 (listItems_at l D (wP1 ?_));simpa using q
 ·have F:rs.toArray.all (·.isSome)=true:=by
   rw[List.all_toArray,br];intro r j;obtain⟨v,_,k,t,e⟩:=i r j;rw[e];rfl
  rw[ae F];refine wB1 (wpAny_rule ?_);rw[oneTypeOnly'_eq];have y:rs.toArray.filterMap id=(rs.filterMap id).toArray:=by simp
  rw[y,List.mapM_toArray,<- bind_pure_comp];refine wB1 (wB1 (wB1 (rd (P:=λ_ t=>t=Value.type "int") (λv f=>?_) λc b C=>wP1 ?_)))
  ·obtain⟨r,j,e⟩:=aF.mp f;obtain⟨G,_,k,t,m⟩:=i r j;rw[m]at e;cases e;exact⟨_,O,λQ q=>wpAny_typeOf (T:="int") (typeIs_int s k t) q⟩
  ·cases c with
   |nil=>
    exfalso;cases rs with
    |nil=>exact g (List.length_eq_zero_iff.mp B.symm)
    |cons r rs=>
     obtain⟨_,_,k,t,e⟩:=i r mS1;rw[e]at b;simp at b
   |cons t c=>
    have all:∀x∈t::c,x=Value.type "int":=λx d=>by obtain⟨_,_,z⟩:=C x d;exact z
    have n:=all t mS1;subst n;have p:((Value.type "int"::c).toArray.all λx=>x == Value.type "int")=M:=by
     rw[List.all_toArray,br];intro x d;rw[all x d];rfl
    show db _ _ (pure (if((Value.type "int"::c).toArray.all λx=>x == Value.type "int")=M then Z (Value.type "int")else Y)) _ _ _;rw[ae p];exact wP1 (wP1 q)
end
def iW:D->Option Int
 | .tup (.int k::_)=>Z k
 |_=>Y
def mq:List D->Bool
 |[]=>M
 |x::l=>(match iW x with
  |some a=>l.all λy=>match iW y with
   |some b=>decide (a<b)
   |none=>J
  |none=>J)&&mq l
theorem sJ:∀{l:List D} {i:Nat} {x:D},mq l=M->l[i]?=Z x -> ∃k,iW x=Z k
 |[],i,x,_,h=>by simp at h
 |y::l,0,x,h,e=>by
  cases e;rw[mq,bA1]at h;cases hy:iW y with
  |some k=>exact⟨k,O⟩
  |none=>rw[hy]at h;cases h.1
 |y::l,i+1,x,h,e=>by
  rw[mq,bA1]at h;exact sJ h.2 (by simpa using e)
theorem kY:∀{l:List D} {i j:Nat} {x y:D} {a b:Int},mq l=M->l[i]?=Z x->l[j]?=Z y->i<j->iW x=Z a->iW y=Z b->a<b
 |[],i,j,x,y,_,_,_,h,_,_,_,_=>by simp at h
 |z::l,0,0,_,_,_,_,_,_,_,h,_,_=>by omega
 |z::l,0,j+1,x,y,a,b,h,e1,e2,_,f1,f2=>by
  cases e1;rw[mq,bA1,f1]at h;have:=br.mp h.1 y (gM1 (by simpa using e2));rw[f2]at this;exact of_decide_eq_true this
 |z::l,i+1,0,_,_,_,_,_,_,_,h,_,_=>by omega
 |z::l,i+1,j+1,x,y,a,b,h,e1,e2,hij,f1,f2=>by
  rw[mq,bA1]at h;exact kY h.2 (by simpa using e1) (by simpa using e2) (by omega) f1 f2
def jC:G1:=λd S=>match dH S d with
 |some (M,xs)=>match mD xs with
  |some ns=>if ns.length<64 then Z (.ref S.length,S++[.lst ((i5 ns).map D.int)])else Y
  |none=>if(mq xs&&decide (xs.length<64))=M then Z (.ref S.length,S++[.lst xs])else Y
 |some (J,xs)=>(mD xs).bind λns=>if ns.length<64 then Z (.ref S.length,S++[.lst ((i5 ns).map D.int)])else Y
 |none=>Y
section
variable{X:Cx}{Z8:List (c0×Obj)}{σ:L2.St}{H:Hp}{s:cZ}{mu:List c0}
theorem Fo(I:Inv X Z8 σ H s):∀{ds:List D} {vs:List V} {its:List cY} {i:Nat} {d:D} {k:Int},dD X.K H mu ds vs->dR vs its->ds[i]?=Z d->iW d=Z k -> ∃b t ps,its[i]?=Z (.ref b)/\IsTup s.heap b (Value.int k t::ps).toArray:=by
 intro ds
 induction ds with
 |nil=>intro vs its i d k _ _ h;simp at h
 |cons x ds ih=>
  intro vs its i d k t n h a;cases t with
  |cons f t=>
   cases n with
   |cons l j=>
    cases i with
    |zero=>
     have:x=d:=by simpa using h
     subst this;unfold iW at a;split at a
     ·rename_i p rest;cases a;cases f with
      |tup q m=>
       obtain⟨is,g,it,_⟩:=I.tuple q;cases m with
       |cons rk o=>
        cases rk;cases g with
        |cons c _=>
         obtain⟨tk,rfl⟩:=c;cases l;exact⟨_,tk,_,O,it⟩
     ·cases a
    |succ i=>
     obtain⟨b,tk,ps,e,h⟩:=ih t j (by simpa using h) a;exact⟨b,tk,ps,by simpa using e,h⟩
end
section
variable{X:Cx}
theorem DX:eh X (.builtin "sorted") (rN X.K (b1 jC)):=by
 intro Z8 s σ H xs us Q I r h;obtain⟨x,mu,S,d,r',S',rfl,r1,A,f,hc⟩:=v7 h;unfold jC at f;split at f
 ·rename_i ds en;obtain⟨a,vs,rfl,q,t⟩:=dB r1 A en;obtain⟨u,rfl,r2⟩:=gU r;cases r2;obtain⟨its,w,ht,hz⟩:=I.list q;split at f
  ·rename_i ns p;split at f
   ·rename_i hl;cases f;have hI:=pE t w p;have B:its.length=ns.length:=by rw[<- w.length,<- t.length,pH p]
    refine sorted_ints ht.isList hI (by lia) λout ag D hp K=>?_;have G:ag=i5 ns:=qq (hp.trans (gj ns).symm) K (nz ns);subst G;obtain⟨ep,n⟩:=sortedAll_at s.heap its out;have c:=I.hok.fresh (aR s.heap.objs.size);refine⟨.ref (s.heap.objs.size+1),_,I.laid (t':=s.toks) (o:=.lst ((i5 ns).map V.int)) (λb ob q=>sortedAll_old q) (aR _) ?_,O,hc _ _ (mu++[_]) (Ext.new_ c) (.ref (gm A.len _)) (A.newL (jQ _) c)⟩;refine⟨?_,out.toList,ep,pF D,by rw[cb];exact n⟩;rw[lM1,(gj ns).length_eq,sizeLine_eq];lia
   ·cases f
  ·split at f
   ·rename_i g;cases f;rw[bA1,af]at g;obtain⟨hr,hl⟩:=g;have B:its.length=ds.length:=by rw[<- w.length,<- t.length]
    have m:∀(i:Nat) (v:cY),its[i]?=Z v -> ∃b d k t ps,v = .ref b/\ds[i]?=Z d/\iW d=Z k/\IsTup s.heap b (Value.int k t::ps).toArray:=λi v hv=>by
     have hi:=(gE1.mp hv).1;have hd:ds[i]?=Z ds[i]:=gG1 (by omega);obtain⟨k,W⟩:=sJ hr hd;obtain⟨b,tk,ps,e,it⟩:=Fo I t w hd W;rw[hv]at e;cases e;exact⟨b,_,k,tk,ps,O,hd,W,it⟩
    have uq:∀{b:c0} {k l:Int} {t u:Tok} {ps qs:List cY},IsTup s.heap b (Value.int k t::ps).toArray->IsTup s.heap b (Value.int l u::qs).toArray->k=l:=λh1 h2=>by
     obtain⟨o,p,_,_,d1⟩:=h1;obtain⟨o2,e2,_,_,L⟩:=h2;rw[p]at e2;cases e2;rw[d1]at L;injection L with L _;have:=congrArg Array.toList L;injection this with h1 _;injection h1
    refine ny (.inl ht.isList) (by omega) λP hP E' h' ai F=>?_;refine Ca (s:={s with heap:=h'}) (κ:=tuples' M) (ws:=its) F (by omega) (List.Perm.refl _) (λN k2 h2=>?_) ?_
    ·have keep:∀ b o,s.heap.get? b=some o->N.get? b=some o:=fun b o e=>by
      have:=tJ (vs:=its) e;rw[<- ai]at this;exact k2 b o this.1 this.2
     have kt:∀{b:c0} {xs:Array cY},IsTup s.heap b xs->IsTup N b xs:=λh=>h.keeps keep;refine⟨⟨?_,?_,?_⟩,λQ q=>?_⟩
     ·refine List.pairwise_iff_getElem.mpr λi j hi hj U e=>?_;obtain⟨b,d1,aj,t1,C,p,ah,R,T⟩:=m i _ (gG1 hi);obtain⟨b2,L,k3,t2,ps2,e2,wq,g2,i2⟩:=m j _ (gG1 hj);rw[p,e2]at e;cases e;have:=kY hr ah wq U R g2;have:=uq T i2;omega
     ·rw[pairsOf_toList];have:(its.zip its).map (·.1)=its:=List.map_fst_zip (nR1 _);rw[this]
     ·intro x y i j hx hy U E Q q;obtain ⟨b,d1,aj,t1,C,rfl,ah,R,T⟩:=m i _ hx;obtain ⟨b2,L,k3,t2,ps2,rfl,wq,g2,i2⟩:=m j _ hy;have W:aj≠k3/\decide (aj<k3)=decide (i<j):=by
       by_cases z:i<j
       ·have:=kY hr ah wq z R g2;exact⟨by omega,by rw[Z9 z,Z9 this]⟩
       ·have:=kY hr wq ah (by omega) g2 R;exact⟨by omega,by rw[aa z,aa (by omega)]⟩
      exact GR (kt T) (kt i2) W.1 (by rw[W.2];exact q)
     ·refine GS (λz=>by rw[z]at h2;simp at h2) (λv hv=>?_) q;obtain⟨i,hi⟩:=bi hv;obtain⟨b,d1,aj,t1,C,rfl,ah,R,T⟩:=m i _ hi;exact⟨b,aj,t1,C,O,kt T⟩
    ·have e0:sortedHeap h' (s.heap.objs.size+1) its its.toArray=sortedAll s.heap its its.toArray:=by rw[ai];rfl
     show P _ {s with heap:=sortedHeap h' (s.heap.objs.size+1) its its.toArray};rw[e0];refine hP its.toArray ?_;obtain⟨ep,n⟩:=sortedAll_at s.heap its its.toArray;have c:=I.hok.fresh (aR s.heap.objs.size);refine⟨.ref (s.heap.objs.size+1),_,I.laid (t':=s.toks) (o:=.lst vs) (λb ob q=>sortedAll_old q) (aR _) ?_,O,hc _ _ (mu++[_]) (Ext.new_ c) (.ref (gm A.len _)) (A.newL t c)⟩;refine⟨?_,its,ep,w,n⟩;rw[w.length,sizeLine_eq];lia
   ·cases f
 ·rename_i ds en;obtain⟨ns,p,f⟩:=oB1.mp f;split at f
  ·rename_i hl;cases f;obtain⟨a,vs,rfl,q,t⟩:=dB r1 A en;obtain⟨u,rfl,r2⟩:=gU r;cases r2;obtain⟨its,w,ht,hz⟩:=I.tuple q;have hI:=pE t w p;have B:its.length=ns.length:=by rw[<- w.length,<- t.length,pH p]
   refine ny (.inr ht) (by omega) λP hP E' h' ai F=>?_;refine list_sort_tree (s:={s with heap:=h'}) F hI (by omega) λout ag D hp K=>?_;have e0:sortedHeap h' (s.heap.objs.size+1) its out=sortedAll s.heap its out:=by rw[ai];rfl
   show P _ {s with heap:=sortedHeap h' (s.heap.objs.size+1) its out};rw[e0];refine hP out ?_;have G:ag=i5 ns:=qq (hp.trans (gj ns).symm) K (nz ns);subst G;obtain⟨ep,n⟩:=sortedAll_at s.heap its out;have c:=I.hok.fresh (aR s.heap.objs.size);refine⟨.ref (s.heap.objs.size+1),_,I.laid (t':=s.toks) (o:=.lst ((i5 ns).map V.int)) (λb ob q=>sortedAll_old q) (aR _) ?_,O,hc _ _ (mu++[_]) (Ext.new_ c) (.ref (gm A.len _)) (A.newL (jQ _) c)⟩;refine⟨?_,out.toList,ep,pF D,by rw[cb];exact n⟩;rw[lM1,(gj ns).length_eq,sizeLine_eq];lia
  ·cases f
 ·cases f
end
theorem JF{K:Fg1}{x:Str}{f:c0}(h:wN1 K c8 x=Z (Z (.ref f))):CV K (.fn x) (.ref f):=⟨.ref f,O,λ_ _=>.fn h⟩
section
variable{X:Cx}{f:c0}{fd:df}{ps:List Str}{k n:Nat}{sp:Sp}{dvs:List V}{ds:List cY}{CX:yu}{E:XK}{t:TA}{e:Expr}{es:List Expr}{p pos:Pos}{i:Nat}{v x:Str}
theorem zQ (hN:X.N[i]? = some v)(hv:D8 X.env.scope v)(F:jK X.prog X.w X.K X.mg X.base CX k f fd ps sp)(hr:fB k X.A)(hm:X.mg x=some (.ref f))(hk:wK1 X.K (.ref f)=true)(hb:jd X.K fd ps ds)(hd:dR dvs ds)(hx:sm CX X E)
  (ha:PA X (e::es) t) (hdb:(v == ("__debug__":Str))=J:=by decide) (hcd:(v == ("__classdict__":Str))=J:=by decide) (he:c9 (e::es) X.env=(J,eval e X.env)::c9 es X.env:=by rfl) (hpl:(backTo pos (c9 es X.env)).any (·.1)=J:=by rfl):
  PE X (.Call (.Name v p) (e::es) [] pos) (fun σ H Q=>(∃a,σ[i]?=Z (Z (.ref a))/\wN1 X.K c8 x=Z (Z (.ref a)))/\Ei sp dvs E t σ H Q):=by
 rintro Z8 s σ H Q I ⟨⟨a,o,j⟩,h⟩;have g:=wM1 I.ok.mod.kin I.ok.mod.glob j;rw[hm]at g;cases g;obtain⟨m,y,w⟩:=I.loc;obtain⟨u,r,l⟩:=w i v _ hN o hv;cases r;have d:db (model X.prog X.w) X.A (callWith pos (.ref f) [] (backTo pos (c9 (e::es) X.env)) (backToKw pos (keywordEach [] X.env))) (EP X Z8 σ Q) X.xe s:=by
  refine PySem.W.callWith_K (h₀:=X.base) I.ok.mod.kin hk (eQ (ha pos Z8 s σ H _ I h) λz A ⟨vs,H1,n,r,q⟩=>⟨n.kIn,?_⟩) he hpl;exact zv F hr hb hd hx n r q
 refine wpAny_Call_Name_kw ?_;rcases l with⟨hk,hm⟩|⟨hk,c,hc,b⟩
 ·exact wpAny_Name (wpAny_loadName_local I.ok.kind hk y hm d) hdb
 ·rcases hk with hk|hk
  ·exact wpAny_Name (wpAny_loadName_cell I.ok.kind hk hc b d) hdb
  ·exact wpAny_Name (wpAny_loadName_free I.ok.kind hk hc b d hcd) hdb
def tE(i:Nat)(x:Str)(g:FN)(a:FA):FE:=λr S=>match r[i]? with
 |some (Z (.fn y))=>if y=x then mN g a r S else Y
 |_=>Y
theorem Aq {m:FN}{a:FA}{k':Nat}(i:Nat)(h:Own X.prog X.w X.K X.mg X.base k x n m)(hr:fB k' X.A)(hk:k<=k')(hN:X.N[i]? = some v)(hv:D8 X.env.scope v)(ha:MA X (e::es) a)(hdb:(v == ("__debug__":Str))=false:=by decide)(hcd:(v == ("__classdict__":Str))=false:=by decide)
  (he:c9 (e::es) X.env=(J,eval e X.env)::c9 es X.env:=by rfl) (hpl:(backTo pos (c9 es X.env)).any (·.1)=J:=by rfl):ME X (.Call (.Name v p) (e::es) [] pos) (tE i x (dn n m) a):=by
 obtain⟨f,fd,ps,F,b,B,l⟩:=h;refine eg (zQ (E:=E0) hN hv F (hr.mono hk) l B b .nil Eo ha hdb hcd he hpl) fun σ H Q h=>?_;obtain⟨r,mu,S,d,u,he,s,c,hc⟩:=h;unfold tE at c;split at c
 ·rename_i y z;split at c
  ·rename_i A;subst A;obtain⟨P,D,ah⟩:=he.val i _ z;cases ah with
   |fn j=>
    refine⟨⟨_,D,j⟩,?_⟩;obtain⟨r,mu,S,ds,u,he,s,c,hc⟩:=wr (K:=X.K) (f:=dn n m) ⟨r,mu,S,d,u,he,s,c,hc⟩;refine⟨r,mu,S,ds,u,he,s,c,λvs H' mu' w N C=>?_⟩;have q:=hc vs H' mu' w N C;show spM X.K n m (vs++[]) H' Q E0;rw[aG];obtain⟨t,aj,o,ag,I,h1,h2,g,L⟩:=q;unfold dn at g;split at g
    ·rename_i G;exact⟨by rw[<- h1.length];exact G,uf ⟨t,aj,o,ag,I,h1,h2,g,L⟩⟩
    ·cases g
  ·cases c
 ·cases c
theorem pc {m:FN}{a:FA}{k':Nat}(i:Nat)(h:Own X.prog X.w X.K X.mg X.base k x n m)(hr:fB k' X.A)(hk:k<=k')(hN:X.N[i]? = some v)(hv:D8 X.env.scope v)(ha:XA X (e::es) a)(hdb:(v == ("__debug__":Str))=false:=by decide)(hcd:(v == ("__classdict__":Str))=false:=by decide)
  (he:c9 (e::es) X.env=(J,eval e X.env)::c9 es X.env:=by rfl) (hpl:(backTo pos (c9 es X.env)).any (·.1)=J:=by rfl):XE X (.Call (.Name v p) (e::es) [] pos) (tE i x (dn n m) a):=⟨Aq i h hr hk hN hv ha.h hdb hcd he hpl⟩
end
section
variable{prog:c5}{w:c7}{K:Type} [DecidableEq K] {knd:HeapKind prog w K}{A:c6}{E:cY->cZ->Prop}{s:cZ}
theorem uY{d:c0}(hd:(d == sysModules)=false):
  MeetsIn prog w (Builtin.«dict.__len__» ⟨[.ref d],[]⟩) (λ_ R s=>∃xs,s.heap.DictOfH knd d xs/\R (.ok (.ret (.int xs.length s.toks))) {s with toks:=s.toks+1}):=
 .of_wp λA R s ⟨xs,b,h⟩=>by
  obtain⟨o,es,ep,c,hc,a,e,_⟩:=b;show db _ _ (dictSize d >>= _) _ _ s;unfold dictSize;refine wB1 (wB1 (wpAny_dictEntries c a (wP1 ?_)));show db _ _ (Builtin.Dict.pendingCount d >>= _) _ _ s;refine wB1 (wpAny_pendingCount_other hd ?_);refine wpAny_ret_mkInt ?_;rw[Nat.add_zero,size_of_entries e];exact h
theorem yo{d:c0}{xs:List (K×c0×cY)}{Q:cY->cZ->Prop}(hd:(d == sysModules)=J)(hm:s.heap.DictOfH knd d xs)(a:(xs.length:Int)<2^63)(h:Q (.int xs.length (s.toks+1)) {s with toks:=s.toks+1+1}):db (model prog w) A (call (.builtin "len") [.ref d]) Q E s:=by
 refine Calls.call_function_entry kind_len plain_len entry_len (args_len1 _) ?_;unfold Builtin.«len»;refine wB1 (m:=oneArg "len" _) (wP1 ?_);refine wB1 (m:=callSpecial? (.ref d) (Str.ofString "__len__")) (wpAny_callSpecial?_slot (name:=Str.ofString "__len__") hm.typeIs F.slot_dict_len
  (call_meetsIn F.slot_dict_len hm.typeIs F.entry_dict_len (F.args_dict_len_1 _) (uY (knd:=knd) hd) ⟨xs,hm,?_⟩))
 show db _ _ _ _ _ {s with toks:=s.toks+1};refine wB1 (wpAny_holding (wP1 ?_));refine wB1 (wpAny_letGo ?_);show db _ _ (if((xs.length:Nat):Int)<0 then _ else _) _ _ _;rw[ab (by omega)];show db _ _ (if((xs.length:Nat):Int)>=2^63 then _ else _) _ _ _;rw[ab (by omega)];exact wB1 (wpAny_mkInt (wP1 ⟨_,O,h⟩))
end
section
variable{X:Cx}
def pI:G1:=λd S=>match d with
 | .ref n=>match S[n]? with
  |some (.dcT kvs)=>Z (.int kvs.length,S)
  |_=>oi d S
 |_=>oi d S
theorem Hq:eh X (.builtin "len") (rN X.K (b1 pI)):=by
 intro Z8 s σ H xs j Q I r h;obtain⟨x,mu,S,d,k,f,c,i,b,a,hc⟩:=v7 h;have back:oi d S=Z (k,f)->db (model X.prog X.w) X.A (call (.builtin "len") j) (EP X Z8 σ Q) X.xe s:=λa=>Hr Z8 s σ H xs j Q I r (by subst c;exact⟨mu,S,[d],k,f,.cons i .nil,b,(show b1 oi [d] S=_ from a),hc⟩);unfold pI at a;split at a
 ·rename_i n;split at a
  ·rename_i ys e;cases a;subst c;cases i with
   |ref q=>
    obtain⟨ws,m,g,p⟩:=b.dcT e q;obtain⟨l,o⟩:=t3 I m g;cases r with
    |cons t rt=>
     cases rt;cases t;refine yo l o (by rw[sizeLine_eq]at p;lia) ?_;refine⟨.int ws.length,H,I.tok _,⟨_,O⟩,?_⟩;rw[<- g.length];exact hc.now (.int _) b
  ·exact back a
 ·exact back a
def jW:G2:=λd e S=>match e with
 | .ref n=>match S[n]? with
  |some (.dct [])=>match iG d with
   |some _=>Z (.bl M,S)
   |none=>ft d e S
  |_=>ft d e S
 |_=>ft d e S
theorem zZ(m:X.A.units+64<cLine):fY X (compareOp .NotIn) (r2 X.K (b2 jW)):=by
 intro Z8 s σ H x y u w Q I j p h;obtain⟨mu,S,d,e,r,l,o,c,i,a,hc⟩:=ut h;have back:ft d e S=Z (r,l)->db (model X.prog X.w) X.A (compareOp .NotIn u w) (EP X Z8 σ Q) X.xe s:=λa=>nU m Z8 s σ H x y u w Q I j p ⟨mu,S,[d,e],r,l,.cons o (.cons c .nil),i,a,hc⟩;unfold jW at a;split at a
 ·rename_i n;split at a
  ·rename_i v;split at a
   ·rename_i k D;cases a;cases c with
    |ref C=>
     cases p;obtain⟨ws,t,A⟩:=i.dct v C;cases A;obtain⟨z,q,vs,g,B⟩:=wS I.hok t;cases g;obtain⟨b,rfl,rfl,rk,E,hi⟩:=lX I o j D;have f:s.heap.DictOfH (iO X.prog X.w) _ []:=tX B;refine wpAny_notIn_heap (jP m) hi q f ?_;exact⟨.bl M,H,I.tok _,O,hc.now (.bl _) i⟩
   ·exact back a
  ·exact back a
 ·exact back a
end
theorem Fn(m i:Nat):SetTable.runEnd m i-i<=9:=by unfold SetTable.runEnd;split<;>lia
theorem zu(m i:Nat):i<=SetTable.runEnd m i:=by unfold SetTable.runEnd;split<;>lia
theorem Ir{m i:Nat}(h:i<=m):SetTable.runEnd m i<=m:=by unfold SetTable.runEnd;split<;>lia
theorem wy(m i b:Nat):(SetTable.leap m i b).1<=m:=by
 unfold SetTable.leap;have:=Nat.mod_lt (i*5+1+b/32) (bG m);dsimp only;lia
theorem sQ(m:Nat):∀n i b:Nat,(fW m n i b).length<=10*n
 |0,_,_=>by simp[fW]
 |n+1,i,b=>by
  rw[fW,lA1,List.length_range'];have:=sQ m n (SetTable.leap m i b).1 (SetTable.leap m i b).2;have:=Fn m i;lia
theorem wb(m:Nat):∀n i b:Nat,i<=m -> ∀x∈fW m n i b,x<=m
 |0,_,_,_,x,h=>by simp[fW]at h
 |n+1,i,b,hi,x,h=>by
  rw[fW,az]at h;rcases h with h|h
  ·rw[List.mem_range'_1]at h;have:=Ir hi;have:=zu m i
   lia
  ·exact wb m n _ _ (wy m i b) x h
def Cg(m:Nat):Nat->Nat->Nat->Nat×Nat
 |0,i,b=>(i,b)
 |n+1,i,b=>Cg m n (SetTable.leap m i b).1 (SetTable.leap m i b).2
theorem AC(m:Nat):∀n i b:Nat,(Cg m n i b).2=b/32^n
 |0,i,b=>by simp[Cg]
 |n+1,i,b=>by
  rw[Cg,AC m n];show b/32/32^n=_;rw[Nat.div_div_eq_div_mul,Nat.pow_succ,Nat.mul_comm]
theorem AD(m:Nat):∀n i b:Nat,i<=m->(Cg m n i b).1<=m
 |0,i,b,h=>h
 |n+1,i,b,h=>by rw[Cg];exact AD m n _ _ (wy m i b)
theorem pp(m:Nat):∀n k i b x:Nat,x∈fW m k (Cg m n i b).1 (Cg m n i b).2->x∈fW m (n+k) i b
 |0,k,i,b,x,h=>by rw[bH];exact h
 |n+1,k,i,b,x,h=>by
  rw[Cg]at h;rw[show n+1+k=(n+k)+1 by lia,fW];exact mA1 _ (pp m n k _ _ x h)
def vX(m:Nat):Nat->Nat->Nat
 |0,i=>i
 |n+1,i=>vX m n ((i*5+1)%(m+1))
def zt(m:Nat):Nat->Nat->List Nat
 |0,_=>[]
 |k+1,i=>i::zt m k ((i*5+1)%(m+1))
theorem wC{m j:Nat}:∀{k i:Nat},j∈zt m k i -> ∃n,n<k/\vX m n i=j
 |0,i,h=>by simp[zt]at h
 |k+1,i,h=>by
  rw[zt,ay]at h;rcases h with h|h
  ·exact⟨0,bG k,h.symm⟩
  ·obtain⟨n,a,e⟩:=wC h;exact⟨n+1,Nat.succ_lt_succ a,e⟩
theorem rn(m:Nat):∀a b i:Nat,vX m (a+b) i=vX m b (vX m a i)
 |0,b,i=>by rw[bH];rfl
 |a+1,b,i=>by rw[show a+1+b=(a+b)+1 by lia,vX,vX,rn m a b]
theorem rm(m:Nat):∀n k i:Nat,n<k->vX m n i∈fW m k i 0
 |0,k+1,i,_=>by rw[vX,fW];exact aA _ (List.mem_range'_1.mpr ⟨nR1 _,by lia⟩)
 |n+1,k+1,i,h=>by
  rw[vX,fW];refine mA1 _ ?_;have e:SetTable.leap m i 0=((i*5+1)%(m+1),0):=rfl;rw[e];exact rm m n k _ (Nat.lt_of_succ_lt_succ h)
def Iq(m:Nat):Bool:=((Z7 (m+1)).all λj=>(zt m (m+1) 0).contains j)&&vX m (m+1) 0 == 0
theorem xy.orb{m:Nat}(h:xy m):Iq m=M:=by
 rcases h with rfl|rfl|rfl
 ·decide+kernel
 ·decide+kernel
 ·decide+kernel
theorem xy.full{m:Nat}(h:xy m){i j:Nat}(hi:i<=m)(d:j<=m):j∈fW m (m+2) i 0:=by
 have f:=h.orb;unfold Iq at f;rw[bA1,br,beq_iff_eq]at f;have at_:∀x,x<=m -> ∃n,n<m+1/\vX m n 0=x:=λx g=>wC (by simpa using f.1 x (au.mpr (Nat.lt_succ_of_le g)));obtain⟨a,k,c⟩:=at_ i hi;obtain⟨b,l,eb⟩:=at_ j d;rcases bN b a with z|z
 ·have e:vX m (b+(m+1)-a) i=j:=by
   rw[<- c,<- rn,show a+(b+(m+1)-a)=(m+1)+b by lia,rn,f.2,eb]
  rw[<- e];exact rm m _ _ i (by lia)
 ·have e:vX m (b-a) i=j:=by rw[<- c,<- rn,show a+(b-a)=b by lia,eb]
  rw[<- e];exact rm m _ _ i (by lia)
theorem DZ(h:Int):SetTable.bits h<2^64:=by
 unfold SetTable.bits;have h1:=Int.emod_nonneg h (show(2^64:Int)≠0 by decide);have h2:=Int.emod_lt_of_pos h (show(0:Int)<2^64 by decide);have:((h%(2^64:Int)).toNat:Int)<2^64:=by rw[Int.toNat_of_nonneg h1];exact h2
 exact_mod_cast this
theorem vK{m:Nat}(hm:xy m)(h:Int){j:Nat}(a:j<=m):j∈mP m h:=by
 unfold mP SetTable.turns;rw[show m+15=13+(m+2) by lia];apply pp;rw[AC,Nat.div_eq_of_lt (aZ (DZ h) (by decide))];have hi:=AD m 13 (SetTable.bits h%(m+1)) (SetTable.bits h) (by have:=Nat.mod_lt (SetTable.bits h) (bG m);lia);exact hm.full hi a
theorem vJ(m:Nat)(h:Int):(mP m h).length<=10*SetTable.turns m:=sQ _ _ _ _
theorem yL{m:Nat}(h:Int):∀x∈mP m h,x<=m:=wb _ _ _ _ (by have:=Nat.mod_lt (SetTable.bits h) (bG m);lia)
def KF(m:Nat)(p:SetTable.Probe):SetTable.Probe:=SetTable.advance {SetTable.fresh 0 0 M with mask:=m} p
def jm(m:Nat):SetTable.Probe->List Nat->Prop
 |_,[]=>True
 |p,x::L=>p.j=x/\p.dummy=Y/\jm m (KF m p) L
theorem nv(m i b:Nat)(L:List Nat)(h:jm m {j:=(SetTable.leap m i b).1,more:=SetTable.runEnd m (SetTable.leap m i b).1-(SetTable.leap m i b).1,i:=(SetTable.leap m i b).1,perturb:=(SetTable.leap m i b).2,dummy:=none} L):
  ∀more j:Nat,jm m {j,more,i,perturb:=b,dummy:=Y} (bc j (more+1)++L)
 |0,j=>by
  refine⟨O,O,?_⟩;exact h
 |more+1,j=>by
  rw[List.range'_succ];refine⟨O,O,?_⟩;exact nv m i b L h more (j+1)
theorem nu(m:Nat):∀n i b:Nat,jm m {j:=i,more:=SetTable.runEnd m i-i,i,perturb:=b,dummy:=Y} (fW m n i b)
 |0,_,_=>trivial
 |n+1,i,b=>by
  rw[fW];exact nv m i b _ (nu m n _ _) _ _
theorem xm(t:SetTable)(h:Int):jm t.mask (t.probeStart h) (mP t.mask h):=nu _ _ _ _
theorem oD{xs:Array Nat}(hr:vw xs){j:Nat}(d:j∈xs.toList):xs[SetTable.below xs j]?=Z j:=by
 have b:=uh hr j;obtain⟨k,a⟩:=bi d;rw[aT1]at a;have f:¬ k<SetTable.below xs j:=λz=>by have:=b.lo _ _ a z;lia
 have c:SetTable.below xs j<xs.size:=by have:=(Array.getElem?_eq_some_iff.mp a).1;lia
 have e:=aG1 c;have h1:=b.hi _ _ e (nR1 _);rcases bN (SetTable.below xs j) k with z|z
 ·have:=hr.lt z e a;lia
 ·have:k=SetTable.below xs j:=by lia
  rw[<- this];exact a
theorem qi{t:SetTable}(hr:vw t.place){j:Nat}(a:j∈t.place.toList):t.slot j = .live (SetTable.below t.place j):=by
 unfold SetTable.slot;dsimp only;rw[oD hr a];simp
theorem zm{t:SetTable}(hd:t.dummies = #[]){j:Nat}(a:j∉t.place.toList):t.slot j = .empty:=by
 unfold SetTable.slot;have:(t.place[SetTable.below t.place j]? == Z j)=J:=by
  rw[beq_eq_false_iff_ne];intro z;rw[<- aT1]at z;exact a (gM1 z)
 dsimp only;rw[this,tm hd];simp
theorem wH{t:SetTable}{f:Nat->Int}{h:Int}(hr:vw t.place)(hd:t.dummies = #[]):∀ (L:List Nat) (p:SetTable.Probe) (n:Nat),jm t.mask p L->L.length<=n->(∃ x∈L,x∉t.place.toList) ->
  ∃b x a,L=b++x::a/\(∀y∈b,y∈t.place.toList/\f (SetTable.below t.place y)≠h) /\
   ((x∉t.place.toList/\SetTable.probe.go t f h n p=Z (.empty x Y))\/(∃q,x∈t.place.toList/\f (SetTable.below t.place x)=h/\SetTable.probe.go t f h n p=Z (.candidate x (SetTable.below t.place x) q)/\jm t.mask q a))
 |[],p,n,_,_,d=>by obtain⟨x,d,_⟩:=d;cases d
 |x::L,p,0,_,hl,_=>by simp at hl
 |x :: L,p,n+1,j,hl,d=>by
  obtain⟨rfl,r,j⟩:=j;rw[SetTable.probe.go];by_cases c:p.j∈t.place.toList
  ·rw[qi hr c];dsimp only;by_cases i:f (SetTable.below t.place p.j)=h
   ·refine⟨[],p.j,L,O,(λy g=>by cases g),.inr ⟨t.advance p,c,i,?_,j⟩⟩;rw[i];simp
   ·have m:(f (SetTable.below t.place p.j) == h)=false:=beq_eq_false_iff_ne.mpr i;rw [m];obtain ⟨y,g,l⟩:=d;have k:∃ x∈L,x∉t.place.toList:=by
     rcases ay.mp g with e|e
     ·subst e;exact absurd c l
     ·exact⟨y,e,l⟩
    obtain⟨b,x,a,e,h1,h2⟩:=wH hr hd L (t.advance p) n j (by simpa using hl) k;refine⟨p.j::b,x,a,by rw[e];rfl,λz o=>?_,?_⟩
    ·rcases ay.mp o with e|e
     ·subst e;exact⟨c,i⟩
     ·exact h1 z e
    ·simpa using h2
  ·rw[zm hd c];refine⟨[],p.j,L,O,(λy g=>by cases g),.inl ⟨c,?_⟩⟩;rw[r]
theorem wx{α:Type}[DecidableEq α]:∀(l l':List α),l.Nodup->(∀x∈l,x∈l')->l.length<=l'.length
 |[],_,_,_=>a0 _
 |x::l,l',hn,hs=>by
  obtain⟨h1,h2⟩:=aH.mp hn;have c:x∈l':=hs x (mS1);have:=wx l (l'.erase x) h2 λy b=>by
   have a:y≠x:=λz=>by subst z;exact h1 b
   exact(List.mem_erase_of_ne a).mpr (hs y (mC1 _ b))
  rw[List.length_erase_of_mem c]at this;have:=List.length_pos_of_mem c;rw[lC1];lia
theorem Cj{m:Nat}(occ:List Nat)(b:occ.length<=m):∃j,j<=m/\j∉occ:=by
 apply Classical.byContradiction;intro z;have:=wx (Z7 (m+1)) occ List.nodup_range λx a=>Classical.byContradiction λq=>z ⟨x,by have:=au.mp a;lia,q⟩;rw[ci]at this;lia
theorem xw.more{m:Nat}{occ a:List Nat}{h:Int}{j:Nat}(r:xw m occ h j)(k:∀x∈occ,x∈a):xw m a h j:=by
 obtain⟨c,b,e,f⟩:=r;exact⟨c,b,e,λy d=>k y (f y d)⟩
theorem sTT.fits{es:Array (Int×cY)}{t:SetTable}(h:sTT es t):t.fits es.size=M:=by
 unfold SetTable.fits SetTable.fill;rw[h.du,h.sz];have:=h.fl;simp;exact this
theorem BR{α β:Type}(a:Array α)(b:Array β)(p:Nat)(x:α)(y:β)(c:a.size=b.size):(SetTable.insertAt a p x).toList.zip (SetTable.insertAt b p y).toList=(a.toList.zip b.toList).take p++(x,y)::(a.toList.zip b.toList).drop p:=by
 rw[jB,jB,List.zip_append (by rw[aL,aL];simp[c]),bM];rw[show List.take p (a.toList.zip b.toList)=(a.toList.take p).zip (b.toList.take p) by simp only[List.zip_eq_zipWith,List.take_zipWith]];rw[show List.drop p (a.toList.zip b.toList)=(a.toList.drop p).zip (b.toList.drop p) by simp only[List.zip_eq_zipWith,List.drop_zipWith]]
theorem m8{α:Type}(a:Array α)(p:Nat)(x y:α):y∈(SetTable.insertAt a p x).toList↔y=x\/y∈a.toList:=by
 rw[jB,az,ay];have:=b8 p a.toList;constructor
 ·rintro(h|h|h)
  ·exact .inr (cj h)
  ·exact .inl h
  ·exact .inr (ck h)
 ·rintro(h|h)
  ·exact .inr (.inl h)
  ·rw[<- this,az]at h;rcases h with h|h
   ·exact .inl h
   ·exact .inr (.inr h)
theorem gZ{α:Type}(a:Array α)(p:Nat)(x:α):(SetTable.insertAt a p x).size=a.size+1:=by
 rw[<- aC,jB,lA1,lC1,<- bb,<- lA1,b8,aC]
theorem sTT.put{es:Array (Int×cY)}{t:SetTable}(h:sTT es t){j:Nat}{e:Int×cY}(g:j<=t.mask)(hn:j∉t.place.toList)(hr:xw t.mask t.place.toList e.1 j)(hs:es.size+1<=t.mask):sTT (SetTable.insertAt es (t.put j).2 e) (t.put j).1:=by
 have f:(t.put j).1.mask=t.mask:=rfl;have d:(t.put j).1.place=SetTable.insertAt t.place (SetTable.below t.place j) j:=rfl;refine⟨h.mks,?_,?_,?_,?_,?_,?_⟩
 ·rw[d];exact Ck h.up λz=>hn (by rw[<- aT1]at z;exact gM1 z)
 ·show(if SetTable.has t.dummies j=M then _ else t.dummies) = #[];rw[tm h.du,ab (by decide)];exact h.du
 ·rw[d,gZ,gZ,h.sz]
 ·intro x c;rw[d,m8]at c;rcases c with rfl|c
  ·exact g
  ·exact h.le x c
 ·rw[gZ,f];exact hs
 ·rw[d,f];show∀z∈(SetTable.insertAt t.place (SetTable.below t.place j) j).toList.zip (SetTable.insertAt es (SetTable.below t.place j) e).toList,_;rw[BR _ _ _ _ _ h.sz];have a:∀x∈t.place.toList,x∈(SetTable.insertAt t.place (SetTable.below t.place j) j).toList:=λx c=>(m8 _ _ _ _).mpr (.inr c);intro z b;rw[az,ay]at b;rcases b with b|rfl|b
  ·exact(h.rc z (cj b)).more a
  ·exact hr.more a
  ·exact(h.rc z (ck b)).more a
theorem sTT.fresh(l:Bool):sTT #[] (SetTable.fresh 0 0 l):=⟨.inl O,.nil,O,O,(λj h=>by simp[SetTable.fresh]at h),a0 _,λz h=>by simp[SetTable.fresh]at h⟩
theorem wM(m:Nat)(a:Array (Option Nat)):∀n i b:Nat,SetTable.layClean.free m a n i b=(fW m n i b).find? λj=>(a.getD j (Z 0)).isNone
 |0,i,b=>by rw[SetTable.layClean.free,fW];rfl
 |n+1,i,b=>by
  rw[SetTable.layClean.free,fW,List.find?_append,List.range'_eq_map_range,List.find?_map];rw[show SetTable.runEnd m i+1-i=SetTable.runEnd m i-i+1 by have:=zu m i;lia];show(match List.find? (λk=>(a.getD (i+k) (Z 0)).isNone) (Z7 (SetTable.runEnd m i-i+1))with
   |some k=>Z (i+k)
   |none=>_)=(Option.map (λk=>i+k) (List.find? (λk=>(a.getD (i+k) (Z 0)).isNone) (Z7 (SetTable.runEnd m i-i+1)))).or _
  cases List.find? (λk=>(a.getD (i+k) (Z 0)).isNone) (Z7 (SetTable.runEnd m i-i+1))with
  |some k=>rfl
  |none=>exact wM m a n _ _
structure sLO (m:Nat)(hs:List Int)(ow:Array (Option Nat)):Prop where
 sz:ow.size=m+1
 ct:ow.toList.countP (·.isSome)=hs.length
 all:∀q:Nat,q<hs.length -> ∃j:Nat,ow[j]?=some (some q)
 rc:∀j q:Nat,ow[j]?=some (some q) -> ∃h,hs[q]?=some h /\ ∃pre post,mP m h=pre++j::post /\ ∀y∈pre,∃q':Nat,ow[y]?=some (some q')
theorem pO(k:Nat):∀(l:List (Option Nat)) (j:Nat),l[j]?=Z Y->(l.set j (Z k)).countP (·.isSome)=l.countP (·.isSome)+1
 |[],j,h=>by simp at h
 |x::l,0,h=>by
  have:x=Y:=by simpa using h
  subst this;simp
 |x::l,j+1,h=>by
  rw[cm,List.countP_cons,List.countP_cons,pO k l j (by simpa using h)];lia
theorem De{m:Nat}{hs:List Int}{b:Array (Option Nat)}(hm:xy m)(h:sLO m hs b)(ag:hs.length<=m)(x:Int):
  ∃j,SetTable.layClean.free m b (SetTable.turns m) (SetTable.bits x%(m+1)) (SetTable.bits x)=Z j/\sLO m (hs++[x]) (b.setIfInBounds j (Z hs.length)):=by
 rw[wM];show∃j,(mP m x).find? _=Z j/\_;have G:∃j:Nat,b[j]?=Z Y:=by
  apply Classical.byContradiction;intro z;have:b.toList.countP (·.isSome)=b.toList.length:=List.countP_eq_length.mpr λa I=>by
   obtain⟨j,C⟩:=bi I;cases a with
   |some q=>rfl
   |none=>exact absurd ⟨j,by rw[<- aT1];exact C⟩ z
  rw[h.ct,show b.toList.length=b.size from rfl,h.sz]at this;lia
 obtain⟨w,t⟩:=G;have r:w<=m:=by have:=(Array.getElem?_eq_some_iff.mp t).1;rw[h.sz]at this;lia
 cases hf:(mP m x).find? λj=>(b.getD j (Z 0)).isNone with
 |none=>
  exfalso;have:=List.find?_eq_none.mp hf w (vK hm x r);rw[cq,t]at this;simp at this
 |some j=>
  obtain⟨p,o,n,e,E⟩:=List.find?_eq_some_iff_append.mp hf;have u:=yL (m:=m) x;have C:j<=m:=u j (by rw[e];simp);have f:j<b.size:=by rw[h.sz];lia
  have at_:∀y,y<=m->(b.getD y (Z 0)).isNone=J -> ∃q,b[y]?=Z (Z q):=λy g k=>by
   have i:y<b.size:=by rw[h.sz];lia
   rw[cq,aG1 i]at k;rw[aG1 i];cases hc:b[y]with
   |none=>rw[hc]at k;cases k
   |some q=>exact⟨q,O⟩
  have A:b[j]?=Z Y:=by
   rw[cq,aG1 f]at p;rw[aG1 f];cases hc:b[j]with
   |none=>rfl
   |some q=>rw[hc]at p;cases p
  have keep:∀y q,b[y]?=Z (Z q)->(b.setIfInBounds j (Z hs.length))[y]?=Z (Z q):=λy q c=>by
   have:j≠y:=λz=>by subst z;rw[A]at c;cases c
   rw[Array.getElem?_setIfInBounds_ne this];exact c
  have new:(b.setIfInBounds j (Z hs.length))[j]?=Z (Z hs.length):=by
   rw[Array.getElem?_setIfInBounds_self_of_lt f]
  refine⟨j,O,?_,?_,?_,?_⟩
  ·rw[Array.size_setIfInBounds];exact h.sz
  ·rw[Array.toList_setIfInBounds,pO _ _ _ (by rw[aT1];exact A),h.ct];simp
  ·intro q k;rw[lA1,aS]at k;rcases bN q hs.length with z|z
   ·obtain⟨y,c⟩:=h.all q z;exact⟨y,keep y q c⟩
   ·have:q=hs.length:=by lia
    subst this;exact⟨j,new⟩
  ·intro y q c;by_cases g:j=y
   ·subst g;rw[new]at c;cases c;refine⟨x,by simp,o,n,e,λy g=>?_⟩;obtain⟨q,eq⟩:=at_ y (u y (by rw[e];simp[g])) (by have:=E y g;simpa using this);exact⟨q,keep y q eq⟩
   ·rw[Array.getElem?_setIfInBounds_ne g]at c;obtain⟨h',v,l,d,D,H⟩:=h.rc y q c;refine⟨h',?_,l,d,D,λz F=>?_⟩
    ·rw[gL1 (gE1.mp v).1];exact v
    ·obtain⟨B,s⟩:=H z F;exact⟨B,keep z B s⟩
def vY(m:Nat)(acc:Option (Array (Option Nat)×Nat))(h:Int):Option (Array (Option Nat)×Nat):=do
 let (owner,k)<-acc
 let j<-SetTable.layClean.free m owner (SetTable.turns m) (SetTable.bits h%(m+1)) (SetTable.bits h)
 pure (owner.setIfInBounds j (Z k),k+1)
theorem wv{m:Nat}(hm:xy m):∀(rest hs:List Int) (b:Array (Option Nat)),sLO m hs b->hs.length+rest.length<=m+1 -> ∃a,rest.foldl (vY m) (Z (b,hs.length))=Z (a,hs.length+rest.length)/\sLO m (hs++rest) a
 |[],hs,b,h,_=>⟨b,O,by rw[aG];exact h⟩
 |x::rest,hs,b,h,hl=>by
  rw[lC1]at hl;obtain⟨j,e,h'⟩:=De hm h (by lia) x;obtain⟨a,d,c⟩:=wv hm rest (hs++[x]) _ h' (by rw[lA1,aS];lia);refine⟨a,?_,by rw[bx]at c;exact c⟩;rw[bX];have:vY m (Z (b,hs.length)) x=Z (b.setIfInBounds j (Z hs.length),(hs++[x]).length):=by
   show(SetTable.layClean.free m b (SetTable.turns m) (SetTable.bits x%(m+1)) (SetTable.bits x) >>= λj=>_)=_;rw[e,lA1,aS];rfl
  rw[this,d,lA1,aS,lC1]
  congr 2;lia
theorem GP{m:Nat}(hm:xy m)(hs:Array Int)(c:hs.size<=m+1):∃ow,SetTable.layClean m hs=Z ow/\sLO m hs.toList ow:=by
 have b:sLO m [] (Array.replicate (m+1) Y):=by
  refine⟨Array.size_replicate,?_,(λq h=>absurd h (bo _)),λj q h=>?_⟩
  ·rw[Array.toList_replicate,aW,List.countP_eq_zero];intro a d;rw[(bu.mp d).2];simp
  ·exfalso;rw[Array.getElem?_replicate]at h;split at h<;>simp at h
 obtain⟨ow,e,h⟩:=wv hm hs.toList [] _ b (by simpa using c);refine⟨ow,?_,by simpa using h⟩;unfold SetTable.layClean;rw[<- Array.foldl_toList];show Option.map _ (List.foldl (vY m) (Z (Array.replicate (m+1) Y,0)) hs.toList)=_;have e:List.foldl (vY m) (Z (Array.replicate (m+1) Y,0)) hs.toList=_:=e;rw[e];rfl
theorem tT{α β:Type}(f:α->Option β)(g:α->β):∀l:List α,(∀a∈l,f a=Z (g a))->l.filterMap f=l.map g
 |[],_=>rfl
 |a::l,h=>by
  rw[aw,h a mS1];dsimp only;rw[mP1,tT f g l λb c=>h b (mC1 _ c)]
theorem vD{α β γ:Type}(f:α->β)(g:α->γ):∀l:List α,(l.map f).zip (l.map g)=l.map λa=>(f a,g a)
 |[]=>rfl
 |a::l=>by rw[mP1,mP1,bM,vD f g l];rfl
theorem kw{α β:Type}{f g:α->Option β}:∀l:List α,(∀a∈l,f a=g a)->l.filterMap f=l.filterMap g
 |[],_=>rfl
 |a::l,h=>by rw[aw,aw,h a mS1,kw l λb c=>h b (mC1 _ c)]
theorem tG:∀(l:List (Option Nat)) (s:Nat),((bc s l.length).filterMap λj=>(l.getD (j-s) Y).map (j,·)).length=l.countP (·.isSome)
 |[],s=>rfl
 |x::l,s=>by
  rw[lC1,List.range'_succ,aw,List.countP_cons];have ih:=tG l (s+1);have e:(List.filterMap (λj=>Option.map (λx=>(j,x)) ((x::l).getD (j-s) Y)) (bc (s+1) l.length))=List.filterMap (λj=>(l.getD (j-(s+1)) Y).map (j,·)) (bc (s+1) l.length):=by
   refine kw _ λj a=>?_;rw[List.mem_range'_1]at a;rw[show j-s=(j-(s+1))+1 by lia];rfl
  rw[e,cr];cases x with
  |none=>simpa using ih
  |some q=>simpa using ih
theorem Dk{m fi mo:Nat}{l p:Bool}(hm:xy m){es:Array (Int×cY)}(H:es.size<=m):∃u b,SetTable.laid m fi mo l p (es.map (·.1))=Z (u,b)/\(b.filterMap (es[·]?)).size=es.size/\sTT (b.filterMap (es[·]?)) u/\(∀e,e∈(b.filterMap (es[·]?)).toList↔e∈es.toList)/\u.led=l/\u.mask=m:=by
 obtain⟨g,e,h⟩:=GP hm (es.map (·.1)) (by rw[b7];lia);have c:(es.map (·.1)).toList.length=es.size:=by simp
 generalize s:(Z7 (m+1)).filterMap (λj=>(g.getD j Y).map (j,·))=a;refine⟨{mask:=m,place:=(a.map (·.1)).toArray,dummies:= #[],finger:=fi,led:=l,moves:=mo,plain:=p},(a.map (·.2)).toArray,?_,?_⟩
 ·unfold SetTable.laid;rw[e,<- s];rfl
 have mem:∀j q,(j,q)∈a↔g[j]?=Z (Z q):=λj q=>by
  rw[<- s,aF];constructor
  ·rintro⟨ag,k,e⟩;obtain⟨C,eq,e⟩:=oM1.mp e;cases e;rw[au]at k;have o:j<g.size:=by rw[h.sz];exact k
   rw[cq,aG1 o]at eq;rw[aG1 o];have:g[j]=Z q:=by simpa using eq
   rw[this]
  ·intro e;have o:=(Array.getElem?_eq_some_iff.mp e).1;refine⟨j,au.mpr (by rw[h.sz]at o;exact o),?_⟩;rw[cq,e];rfl
 have lt:∀z∈a,z.2<es.size:=λz f=>by
  obtain⟨h',r,_⟩:=h.rc z.1 z.2 ((mem _ _).mp f);have:=(gE1.mp r).1;rw[c]at this;exact this
 have B:a.length=es.size:=by
  have:=tG g.toList 0;rw[show g.toList.length=g.size from rfl,h.sz,h.ct,c]at this;rw[<- this,<- s,List.range_eq_range']
  congr 1
  refine kw _ λj _=>?_;simp[cq]
 have i:((a.map (·.2)).toArray.filterMap (es[·]?)).toList=a.map λz=>(es[z.2]?).getD (0,.none):=by
  rw[Array.toList_filterMap];rw[aO];exact tT _ _ _ λz f=>by
   show es[z.2]?=_;rw[aG1 (lt z f)];rfl
 have sz:((a.map (·.2)).toArray.filterMap (es[·]?)).size=es.size:=by rw[<- aC,i,lM1,B]
 refine⟨sz,⟨hm,?_,O,?_,?_,?_,?_⟩,λe=>?_,O,O⟩
 ·unfold vw;rw[<- s];exact List.pairwise_lt_range.sublist (by simpa using rJ (λj=>g.getD j Y) (Z7 (m+1)))
 ·rw[sz,sT1,lM1,B]
 ·intro j t;simp only[b6]at t;obtain⟨z,f,rfl⟩:=t;have:=(Array.getElem?_eq_some_iff.mp ((mem z.1 z.2).mp f)).1;rw[h.sz]at this;show _<=m;lia
 ·rw[sz];exact H
 ·rw [i];show ∀ z∈(a.map (·.1)).zip _,xw m (a.map (·.1)) _ _;rw [vD];intro z f;obtain ⟨y,A,rfl⟩:=b6.mp f;obtain ⟨h',r,v,n,D,E⟩:=h.rc y.1 y.2 ((mem _ _).mp A);have:((es[y.2]?).getD (0,.none)).1=h':=by
   have d:=lt y A;rw[Array.toList_map,gP1,aT1,aG1 d]at r;rw[aG1 d];simpa using r
  rw[this];exact⟨v,n,D,λx I=>by obtain⟨C,G⟩:=E x I;exact b6.mpr ⟨(x,C),(mem _ _).mpr G,O⟩⟩
 ·rw[i,b6];constructor
  ·rintro⟨z,f,rfl⟩;rw[aG1 (lt z f)];simp
  ·intro F;obtain⟨q,w⟩:=bi F;rw[aT1]at w;have d:=(Array.getElem?_eq_some_iff.mp w).1;obtain⟨j,t⟩:=h.all q (by rw[c];exact d);exact⟨(j,q),(mem _ _).mpr t,by rw[w];rfl⟩
theorem G7{prog:c5}{w:c7}:∀(n:Nat) {k:TK} {A:c6} {E:cY->cZ->Prop} {s:cZ} {v:cY} {Q:Bool->cZ->Prop},k.dep<=n->eN s.heap k v->Q M s->db (model prog w) A (hashByValue n v) Q E s:=by
 intro n
 induction n with
 |zero=>
  intro k A E s v Q c r h;cases r with
  |non=>exact wP1 h
  |int i t=>exact wP1 h
  |tup _ _ _ _=>simp[TK.dep]at c
 |succ n ih=>
  intro k A E s v Q c r h;cases r with
  |non=>exact wP1 h
  |int i t=>exact wP1 h
  | @tup a o b m xs f y z x=>
   have q:s.TypeIs (.ref a) "tuple":=⟨o,f,y⟩;rw[TK.dep]at c;unfold hashByValue;refine wB1 (wpAny_specialOf q F.slot_tuple_hash.lookup ?_);show db _ _ (seqItems? (.ref a) >>= _) _ _ s;refine wB1 (wpAny_seqItems f z ?_);refine wB1 ?_;show db _ _ (forIn b _ _) _ _ s;rw[<- bQ];refine wpAny_forIn_list _ (λrest r s'=>r.1=Y/\s'=s /\ ∃ks,eW s.heap ks rest/\TK.depAll ks<=n) _ ?_ ?_ _ _ ⟨O,O,xs,x,by lia⟩
   ·rintro v rest r s' ⟨e,rfl,ks,j,p⟩;cases j with
    | @cons g _ d _ u l=>
     rw[TK.depAll]at p;refine wB1 (ih (k:=g) (by lia) u ?_);simp only[bU,bF1,if_false];exact wP1 ⟨O,O,d,l,by lia⟩
   ·rintro⟨B,r2⟩ s' ⟨e,rfl,_⟩;simp only at e;subst e;exact wP1 h
theorem Bi{prog:c5}{w:c7}:∀(n:Nat) {k:TK} {A:c6} {E:cY->cZ->Prop} {s:cZ} {v:cY} {Q:Bool->cZ->Prop},k.dep<=n->eN s.heap k v->Q J s->db (model prog w) A (ofAClassStatement n v) Q E s:=by
 intro n
 induction n with
 |zero=>
  intro k A E s v Q c r h;cases r with
  |non=>exact wP1 h
  |int i t=>exact wP1 h
  |tup _ _ _ _=>simp[TK.dep]at c
 |succ n ih=>
  intro k A E s v Q c r h;cases r with
  |non=>exact wP1 h
  |int i t=>exact wP1 h
  | @tup a o b m xs f y z x=>
   have q:s.TypeIs (.ref a) "tuple":=⟨o,f,y⟩;rw[TK.dep]at c;unfold ofAClassStatement;refine wB1 (wpAny_typeOf q ?_);show db _ _ (pure M >>= _) _ _ s;refine wB1 (wP1 ?_);simp only[bU,bF1,if_false];refine wB1 (wpAny_seqItems f z ?_);refine wB1 ?_;show db _ _ (forIn b _ _) _ _ s;rw[<- bQ];refine wpAny_forIn_list _ (λrest r s'=>r.1=Y/\s'=s /\ ∃ks,eW s.heap ks rest/\TK.depAll ks<=n) _ ?_ ?_ _ _ ⟨O,O,xs,x,by lia⟩
   ·rintro v rest r s' ⟨e,rfl,ks,j,p⟩;cases j with
    | @cons g _ d _ u l=>
     rw[TK.depAll]at p;refine wB1 (ih (k:=g) (by lia) u ?_);simp only[bF1,if_false];exact wP1 ⟨O,O,d,l,by lia⟩
   ·rintro⟨B,r2⟩ s' ⟨e,rfl,_⟩;simp only at e;subst e;exact wP1 h
def Ch(h:de)(k:TK)(e:Int×cY):Prop:=∃a,e=(k.hash,.ref a)/\eN h k (.ref a)/\k.dep<=8
section
variable{prog:c5}{w:c7}{A:c6}{E:cY->cZ->Prop}{s:cZ}
theorem Cf{k:TK}{x:c0}{Q:Bool->cZ->Prop}(hk:eN s.heap k (.ref x))(hd:k.dep<=8)(l:List cY)(he:∀v∈l,∃b a,v = .ref a/\eN s.heap b (.ref a)/\b.dep<=8)(h:Q J s):db (model prog w) A (searchCouldBeSeen (.ref x) l) Q E s:=by
 unfold searchCouldBeSeen;refine wB1 ?_;refine wpAny_forIn_list _ (λrest r s'=>r.1=Y/\s'=s /\ ∀v∈rest,∃b a,v = .ref a/\eN s.heap b (.ref a)/\b.dep<=8) _ ?_ ?_ _ _ ⟨O,O,he⟩
 ·rintro v rest r s' ⟨c,rfl,e⟩;obtain⟨b,a,rfl,h1,h2⟩:=e v mS1;have tl:∀v∈rest,∃b a,v=Value.ref a/\eN s'.heap b (.ref a)/\b.dep<=8:=λv h=>e v (mC1 _ h);dsimp only;by_cases d:(x == a)=M
  ·rw[d];exact wP1 ⟨O,O,tl⟩
  ·rw[cu]at d;rw[d];show db _ _ (eqIsQuiet 8 (.ref x) >>= _) _ _ _;refine wB1 (nL 8 hd hk ?_);refine wB1 (nL 8 h2 h1 ?_);refine wB1 (Bi 8 hd hk ?_);refine wB1 (Bi 8 h2 h1 ?_);exact wP1 ⟨O,O,tl⟩
 ·rintro⟨f,r2⟩ s' ⟨c,rfl,_⟩;simp only at c;subst c;exact wP1 h
theorem pL{α:Type}{occ:List α}{a c:α}(hc:c∉occ)(ha:a∈occ):∀{d b B D:List α},(∀y∈b,y∈occ)->b++a::B=d++c::D->a∈d
 |[],[],B,D,_,e=>by
  simp at e;obtain⟨rfl,_⟩:=e;exact absurd ha hc
 |[],z::b,B,D,h,e=>by
  simp at e;obtain⟨rfl,_⟩:=e;exact absurd (h z mS1) hc
 |z::d,[],B,D,_,e=>by
  simp at e;obtain⟨rfl,_⟩:=e;exact mS1
 |z::d,z'::b,B,D,h,e=>by
  simp at e;exact mC1 _ (pL hc ha (λy f=>h y (mC1 _ f)) e.2)
theorem Bp{xs:Array Nat}(hr:vw xs){i j:Nat}(h:xs[i]?=Z j):SetTable.below xs j=i:=by
 have e:=oD hr (gM1 (by rw[aT1];exact h));rcases cv (SetTable.below xs j) i with z|z|z
 ·have:=hr.lt z e h;lia
 ·exact z
 ·have:=hr.lt z h e;lia
theorem Gb{m:Nat}(h:xy m):(m%2 == 0)=J:=by rcases h with rfl|rfl|rfl<;>rfl
theorem KE(N:Bool){a:c0}{es:Array (Int×cY)}{ep:Nat}{t:SetTable}{k:TK}{x:c0}(hu:A.units+8<cLine)(ho:s.heap.get? a=some (stO es ep t))(ht:sTT es t)(he:∀ e∈es.toList,∃ k',Ch s.heap k' e)(hk:eN s.heap k (.ref x))(hd:k.dep<=8){Q:SetFound->cZ->Prop}(q1:(∃e∈es.toList,Ch s.heap k e) -> ∀i,Q (.there (if N=true then none else some i)) s)(q2:∀j o m,mP t.mask k.hash=o++j::m->(∀y∈o,y∈t.place.toList)->j∉t.place.toList->(∀e∈es.toList,¬ Ch s.heap k e)->Q (.free j false) s):
  ∀(n:Nat) (L c:List Nat) (b:Option SetTable.Probe),mP t.mask k.hash=c++L->jm t.mask (b.getD (t.probeStart k.hash)) L->L.length<n->(∀y∈c,y∈t.place.toList /\ ∀e,es[SetTable.below t.place y]?=Z e -> ¬ Ch s.heap k e)->db (model prog w) A (setSearchFrom a (.ref x) k.hash N n b) Q E s:=by
 have hf:=ht.fits;have U:t.place.toList.length<=t.mask:=by rw[aC,ht.sz];exact ht.fl
 intro n
 induction n with
 |zero=>intro L _ _ _ _ h;exact absurd h (bo _)
 |succ n ih=>
  intro L c b R hs hl wq;have hx:∃y∈L,y∉t.place.toList:=by
   obtain⟨j,hj,P⟩:=Cj t.place.toList U;have:=vK ht.mks k.hash hj;rw[R,az]at this;rcases this with z|z
   ·exact absurd (wq j z).1 P
   ·exact⟨j,z,P⟩
  have hL:L.length<=10*SetTable.turns t.mask:=by
   have:=vJ t.mask k.hash;rw[R,lA1]at this;lia
  obtain⟨o,y,m,e,h1,h2⟩:=wH (f:=λi=>(es[i]?.map (·.1)).getD 0) (h:=k.hash) ht.up ht.du L _ _ hs hL hx;unfold setSearchFrom;refine wB1 (wpAny_setState_of ho O hf ?_);dsimp only;rw[show t.gaveWay=J from Gb ht.mks];simp only[bF1,if_false];rcases h2 with⟨P,hg⟩|⟨q,W,hh,hg,hq⟩
  ·generalize ag:SetTable.probe t _ k.hash (b.getD (t.probeStart k.hash))=met;have ag:=ag.symm.trans hg;subst ag;refine wP1 (q2 y (c++o) m (by rw[R,e,bx]) (λz S=>?_) P λe' he' d=>?_)
   ·rcases az.mp S with u|u
    ·exact(wq z u).1
    ·exact(h1 z u).1
   ·obtain⟨i,hi⟩:=bi he';have I:es[i]?=Z e':=by rw[<- aT1];exact hi
    have H:=(Array.getElem?_eq_some_iff.mp I).1;have hpi:i<t.place.size:=by rw[ht.sz];exact H
    have K:=aG1 hpi;have S:(t.place[i],e')∈t.place.toList.zip es.toList:=by
     refine gM1 (i:=i) ?_;rw[List.getElem?_zip_eq_some];exact⟨by rw[aT1];exact K,hi⟩
    obtain⟨aj,T,_⟩:=id d;obtain⟨pre1,post1,C,f1⟩:=ht.rc _ S;dsimp only at C;rw[show e'.1=k.hash from by rw[T],R,e,<- bx]at C;have hm:=pL (occ:=t.place.toList) P (gM1 (by rw[aT1];exact K)) f1 C.symm;have V:=Bp ht.up K;rcases az.mp hm with u|u
    ·exact(wq _ u).2 e' (by rw[V];exact I) d
    ·refine(h1 _ u).2 ?_;rw[V,I,T];rfl
  ·generalize ag:SetTable.probe t _ k.hash (b.getD (t.probeStart k.hash))=met;have ag:=ag.symm.trans hg;subst ag;have V:=oD ht.up W;have H:SetTable.below t.place y<es.size:=by rw[<- ht.sz];exact(Array.getElem?_eq_some_iff.mp V).1
   have g:=aG1 H;generalize es[SetTable.below t.place y]=e0 at g;have G:e0∈es.toList:=gM1 (by rw [aT1];exact g);obtain ⟨k',aj,rfl,d,D⟩:=he e0 G;dsimp only;have B:db (model prog w) A (do
     let equal<-holding [Value.ref aj] (eqBool (Value.ref aj) (.ref x))
     let (es',_,t')<-setState a
     if(N&&equal)=M then return SetFound.there Y
     let Z same:=t'.sameMemory t.moves t.mask|unsupported "set.changed-during-lookup:is-the-new-block-at-the-old-address"
     let still<-match (if same=M then t'.slot y else .empty)with
      | .live ai=>match es'[ai]? with
       |some (_,y')=>do pure (if(<- isSame y' (.ref aj))=M then Z ai else Y)
       |none=>pure Y
      |_=>pure Y
     match still with
     |none=>do rule "set.search.anew";setSearchFrom a (.ref x) k.hash N n Y
     |some ai=>if equal=M then return .there (Z ai)else setSearchFrom a (.ref x) k.hash N n (Z q)) Q E s:=by
    refine wB1 (wpAny_holding (EF 8 D hu d hk _ _ _ _ ?_));refine wB1 (wpAny_setState_of ho O hf ?_);dsimp only;by_cases ah:k'=k
    ·subst ah;rw[Z9 O];cases N with
     |true=>exact wP1 (q1 ⟨_,G,aj,O,d,D⟩ 0)
     |false=>
      simp only[aE,bF1,if_false];rw[show t.sameMemory t.moves t.mask=Z M from by unfold SetTable.sameMemory;simp];dsimp only;rw[ae O,qi ht.up W];dsimp only;rw[g];dsimp only;refine wB1 ?_;refine wpAny_of_eq (a:=M) (by unfold isSame;simp) ?_;rw[ae O];refine wB1 (wP1 ?_);exact wP1 (q1 ⟨_,G,aj,O,d,D⟩ _)
    ·rw[aa ah];simp only[bT,bF1,if_false];rw[show t.sameMemory t.moves t.mask=Z M from by unfold SetTable.sameMemory;simp];dsimp only;rw[ae O,qi ht.up W];dsimp only;rw[g];dsimp only;refine wB1 ?_;refine wpAny_of_eq (a:=M) (by unfold isSame;simp) ?_;rw[ae O];refine wB1 (wP1 ?_);dsimp only;refine ih m (c++o++[y]) (Z q) ?_ hq ?_ λz S=>?_
     ·rw[R,e];simp
     ·rw[e]at hl;simp at hl;lia
     ·rcases az.mp S with u|u
      ·rcases az.mp u with X|X
       ·exact wq z X
       ·refine⟨(h1 z X).1,λC l F=>(h1 z X).2 ?_⟩;obtain⟨a1,rfl,_⟩:=F;rw[l];rfl
      ·have:z=y:=by simpa using u
       subst this;refine⟨W,λC l F=>ah ?_⟩;rw[g]at l;obtain⟨a1,r,hi1,_⟩:=F;cases l;injection r with _ r;injection r with r;subst r;exact d.inj hi1
   by_cases p:t.led=M
   ·rw[p];simp only[bU,bF1,if_false];rw[g];exact B
   ·rw[cu]at p;rw[p];simp only[cg,if_true];refine wB1 (Cf hk hd _ (λv hv=>?_) ?_)
    ·obtain⟨C,l,rfl⟩:=b6.mp hv;rw[Array.toList_filter]at l;obtain⟨k1,a1,rfl,g1,g2⟩:=he C ((ar.mp l).1);exact⟨k1,a1,O,g1,g2⟩
    ·simp only[bF1,if_false];rw[g];exact B
end
theorem eN.keepsS{h h':de}{p:c0}{es:Array (Int×cY)}{ep:Nat}{t:SetTable}(ho:h.get? p=some (stO es ep t))(hs:∀ a o,a≠p->h.get? a=some o->h'.get? a=some o):∀ {k:TK} {v:cY},eN h k v->eN h' k v:=fun e=>e.rec (motive_1:=fun k v _=>eN h' k v) (motive_2:=fun k v _=>eW h' k v) .non .int
  (λ{a} _ _ _ _ d f c _ ih=>.tup (hs a _ (λz=>by subst z;rw[d]at ho;cases ho;cases c) d) f c ih) .nil (λ_ _ a b=>.cons a b)
theorem eN.grows{h h':de}(hs:∀ a o,h.get? a=some o->h'.get? a=some o):∀ {k:TK} {v:cY},eN h k v->eN h' k v:=fun c=>c.rec (motive_1:=fun k v _=>eN h' k v) (motive_2:=fun k v _=>eW h' k v) .non .int
  (λ{a} _ _ _ _ f d e _ ih=>.tup (hs a _ f) d e ih) .nil (λ_ _ a b=>.cons a b)
def j3(ks:List TK)(k:TK):List TK:=if k∈ks then ks else ks++[k]
def ddK(ks:List TK):List TK:=ks.foldl j3 []
theorem Bb(ks:List TK)(k:TK):(j3 ks k).length<=ks.length+1:=by unfold j3;split<;>simp
theorem l5:∀(ns a:List TK),(ns.foldl j3 a).length<=a.length+ns.length
 |[],a=>by simp
 |n::ns,a=>by
  rw[bX];have h1:=l5 ns (j3 a n);have h2:=Bb a n;rw[lC1];lia
theorem Ch.keep{h h':de}{p:c0}{es:Array (Int×cY)}{ep:Nat}{t:SetTable}(ho:h.get? p=Z (stO es ep t))(hs:∀a o,a≠p->h.get? a=Z o->h'.get? a=Z o){k:TK}{e:Int×cY}(x:Ch h k e):Ch h' k e:=by
 obtain⟨a,c,b,d⟩:=x;exact⟨a,c,b.keepsS ho hs,d⟩
theorem rH{es:Array (Int×cY)}{t:SetTable}(h:sTT es t):t.tooFull=decide (es.size*5>=t.mask*3):=by
 unfold SetTable.tooFull SetTable.fill;rw[h.du,h.sz];rfl
def vy(h:de)(xs:List (TK×c0×cY)):Prop:=∀z∈xs,eN h z.1 (.ref z.2.1)/\z.1.dep<=8
theorem vy.el{h:de}{xs:List (TK×c0×cY)}{es:Array (Int×cY)}(b:vy h xs)(a:∀e∈es.toList,∃z∈xs,e=(z.1.hash,.ref z.2.1)):∀e∈es.toList,∃d,Ch h d e:=λe f=>by
 obtain⟨z,c,rfl⟩:=a e f;exact⟨z.1,z.2.1,O,(b z c).1,(b z c).2⟩
theorem vy.found{h:de}{xs:List (TK×c0×cY)}{es:Array (Int×cY)}{k:TK}(f:vy h xs)(g:∀e∈es.toList,∃z∈xs,e=(z.1.hash,.ref z.2.1))(d:∀z∈xs,(z.1.hash,Value.ref z.2.1)∈es.toList):(∃e∈es.toList,Ch h k e)↔k∈xs.map (·.1):=by
 constructor
 ·rintro⟨e,l,a,j,i,_⟩;obtain⟨z,b,c⟩:=g e l;rw[j]at c;injection c with _ c;injection c with c;refine b6.mpr ⟨z,b,?_⟩;have:=(f z b).1;rw[<- c]at this;exact this.inj i
 ·intro i;obtain⟨z,b,rfl⟩:=b6.mp i;exact⟨_,d z b,z.2.1,O,(f z b).1,(f z b).2⟩
section
variable{P:c5}{w:c7}{A:c6}{E:cY->cZ->Prop}{s:cZ}{p:c0}{xs:List (TK×c0×cY)}
theorem yW{m:Nat}(h:xy m):SetTable.turns m<=142:=by unfold SetTable.turns;rcases h with z|z|z<;>rw[z]<;>decide
def lF(xs:List (TK×c0×cY))(k:TK)(x:c0):List (TK×c0×cY):=if k∈xs.map (·.1)then xs else xs++[(k,x,.none)]
theorem Lf{k:TK}{x:c0}{Q:Bool->cZ->Prop}(hu:A.units+8<cLine)(hS:ul p xs s.heap)(wq:vy s.heap xs)(hb:xs.length<76)(hk:eN s.heap k (.ref x))(hd:k.dep<=8)(q:∀c h',Heap.SameBut p s.heap h'->ul p (lF xs k x) h'->Q c {s with heap:=h'}):db (model P w) A (setAddHashed p (.ref x) k.hash) Q E s:=by
 obtain⟨nd,es,ep,t,I,v,ag,g,B,aj⟩:=id hS;have hf:=v.fits;unfold setAddHashed setAddHashedIn;refine wpAny_holding (wB1 (wpAny_setState_of I O hf ?_));dsimp only;rw[show byScan (Value.ref x) es=J from rfl];simp only[bF1,if_false];unfold setSearch;refine wB1 (KE M hu I v (wq.el g) hk hd ?q1 ?q2 100000 (mP t.mask k.hash) [] Y O (xm t k.hash) ?ln (λy hy=>by cases hy))
 case q1=>
  intro h _;have V:=(wq.found g B).mp h;have G:lF xs k x=xs:=by unfold lF;rw[ae V]
  rw[G]at q;exact wP1 (q _ s.heap (Heap.SameBut.refl p s.heap) hS)
 case q2=>
  intro j U K ew hp hj W;dsimp only;have hn:k∉xs.map (·.1):=λz=>by obtain⟨e,o,h⟩:=(wq.found g B).mpr z;exact W e o h
  have G:lF xs k x=xs++[(k,x,.none)]:=by unfold lF;rw[ab hn]
  rw[G]at q;refine wB1 (wpAny_setState_of I O hf ?_);dsimp only;have S:j<=t.mask:=yL k.hash j (by rw[ew];simp);rw[rH v]at ag;have ag:¬ es.size*5>=t.mask*3:=by simpa using ag
  have F:es.size+1<=t.mask:=by rcases v.mks with z|z|z<;>rw[z]at ag ⊢ <;> lia
  have D:sTT (SetTable.insertAt es (t.put j).2 (k.hash,.ref x)) (t.put j).1:=v.put S hj ⟨U,K,ew,hp⟩ F;have z1:(SetTable.insertAt es (t.put j).2 (k.hash,Value.ref x)).size=(xs++[(k,x,Value.none)]).length:=by rw[gZ,aj,lA1];rfl
  have r:(SetTable.insertAt es (t.put j).2 (k.hash,Value.ref x)).size<=da:=by rw[z1,lA1,sizeLine_eq];simp;lia
  have sb:=Heap.SameBut.update s.heap p (Obj.putSet (SetTable.insertAt es (t.put j).2 (k.hash,.ref x)) (t.put j).1);have ah:=zA (fs:=SetTable.insertAt es (t.put j).2 (k.hash,.ref x)) (u:=(t.put j).1) I;have L:((xs++[(k,x,Value.none)]).map (·.1)).Nodup:=by
   rw[cx,bp];exact⟨nd,by simp,λa ha b hb e=>by simp at hb;subst hb;subst e;exact hn ha⟩
  have e1:∀e∈(SetTable.insertAt es (t.put j).2 (k.hash,Value.ref x)).toList,∃z∈xs++[(k,x,Value.none)],e=(z.1.hash,.ref z.2.1):=λe o=>by
   rw[m8]at o;rcases o with rfl|o
   ·exact⟨_,mA1 _ mS1,O⟩
   ·obtain⟨z,h1,h2⟩:=g e o;exact⟨z,aA _ h1,h2⟩
  have a1:∀z∈xs++[(k,x,Value.none)],(z.1.hash,Value.ref z.2.1)∈(SetTable.insertAt es (t.put j).2 (k.hash,Value.ref x)).toList:=λz X=>by
   rw[m8];rcases az.mp X with T|T
   ·exact .inr (B z T)
   ·rw[cc.mp T];exact .inl O
  have tail:db (model P w) A (do
    storeSet p (SetTable.insertAt es (t.put j).2 (k.hash,.ref x)) (t.put j).1
    if (!false&&(t.put j).1.tooFull)=true then do
      setRelay p (SetTable.grown (es.size+1))
      pure M
     else pure M) Q E s:=by
   refine wB1 (wpAny_storeSet_of I O ?_ r);by_cases f:(t.put j).1.tooFull=M
   ·rw [f];simp only [cg,bF,if_true];refine wB1 ?_;unfold setRelay;refine wB1 (wpAny_setState_of (s:={s with heap:=s.heap.update p _}) ah rfl D.fits ?_);dsimp only;have N:=f;rw [rH D,gZ] at N;have N:(es.size+1)*5>=t.mask*3:=of_decide_eq_true N;have e4:∃ m,xy m/\SetTable.sizeAbove (SetTable.grown (es.size+1))=m+1/\es.size+1<=m/\(es.size+1)*5<m*3:=by
     rcases v.mks with z|z|z<;>rw[z]at ag N
     ·have:es.size=4:=by lia
      rw[this];exact⟨31,.inr (.inl O),O,by decide,by decide⟩
     ·have:es.size=18:=by lia
      rw[this];exact⟨127,.inr (.inr O),O,by decide,by decide⟩
     ·lia
    obtain⟨m,hm,em,R,hm2⟩:=e4;rw[ab (by rw[em,sizeLine_eq];rcases hm with z|z|z<;>rw[z]<;>decide)];obtain⟨t2,d,er,i,H,n,_,ai⟩:=Dk (m:=m) (fi:=(t.put j).1.finger) (mo:=(t.put j).1.movedTo m) (l:=(t.put j).1.led) (p:=(t.put j).1.plain) hm (es:=SetTable.insertAt es (t.put j).2 (k.hash,.ref x)) (by rw[gZ];exact R);refine wB1 ?_;rw[show(t.put j).1.relaid ((SetTable.insertAt es (t.put j).2 (k.hash,Value.ref x)).map (·.1)) (SetTable.grown (es.size+1))=Z (t2,d)from by unfold SetTable.relaid;rw[em,Nat.add_sub_cancel];exact er];have z2:(d.filterMap ((SetTable.insertAt es (t.put j).2 (k.hash,Value.ref x))[·]?)).size=(xs++[(k,x,Value.none)]).length:=i.trans z1;show db _ _ (if((d.filterMap ((SetTable.insertAt es (t.put j).2 (k.hash,Value.ref x))[·]?)).size != (SetTable.insertAt es (t.put j).2 (k.hash,Value.ref x)).size)=M then _ else _) _ _ _;rw[i];simp only[bne_self_eq_false,bF1,if_false];refine wP1 ?_;dsimp only;refine wpAny_storeSet_of ah O ?_ (by rw[i];exact r);refine wP1 (q _ _ (sb.trans (Heap.SameBut.update _ p _)) ⟨L,_,_,_,zA ah,H,?_,λe o=>e1 e ((n e).mp o),λz X=>(n _).mpr (a1 z X),z2⟩);rw[rH H,ai,i,gZ];exact aa (by lia)
   ·rw[cu]at f;rw[f];simp only[bT,bF1,if_false];exact wP1 (q _ _ sb ⟨L,_,_,_,ah,D,f,e1,a1,z1⟩)
  by_cases C:(t.put j).1.plain=M
  ·rw[C];simp only[if_true];refine wB1 (G7 8 hd hk ?_);exact tail
  ·rw[cu]at C;rw[C];simp only[bF1,if_false];refine wB1 (wP1 ?_);exact tail
 case ln=>
  have:=vJ t.mask k.hash;have:=yW v.mks;lia
end
def uk(p:c0)(n:Nat)(h:de):Prop:=∃es ep t,h.get? p=Z (stO es ep t)/\t.fits es.size=M/\es.size=n/\n<=76
theorem eW.mem{h:de}:∀{ks:List TK} {vs:List cY},eW h ks vs -> ∀(i:Nat) (v:cY),vs[i]?=Z v -> ∃k,ks[i]?=Z k/\eN h k v
 |_,_,.nil,i,v,e=>by simp at e
 |_,_,.cons r t,0,v,e=>by simp at e;subst e;exact⟨_,O,r⟩
 |_,_,.cons r t,i+1,v,e=>eW.mem t i v (by simpa using e)
def uG(k:TK):Bool:=match k with
 | .tup _=>decide (k.dep<=8)
 |_=>J
theorem yZ{h:de}{k:TK}{v:cY}(hk:uG k=M)(h1:eN h k v):k.dep<=8 /\ ∃a,v = .ref a:=by
 cases h1 with
 |non=>cases hk
 |int=>cases hk
 | @tup a=>exact⟨by simpa[uG]using hk,a,O⟩
section
variable{P:c5}{w:c7}{A:c6}{E:cY->cZ->Prop}
theorem xr{p l it:c0}{its:Array cY}{ns:List TK}{R:Result->cZ->Prop}(hh:A.handled=none)(hu:A.units+20<cLine)(hT:∀ k∈ns,uG k=true)(hb:ns.length<=76)(n1:p≠l)(Q:p≠it)(n3:it≠l):
  ∀(k i:Nat) (s:cZ) (xs:List (TK×c0×cY)),its.size-i=k->i<=its.size->s.heap.IsListIter it l i->s.heap.IsList l its->eW s.heap ns its.toList->ul p xs s.heap->vy s.heap xs->xs.map (·.1)=(ns.take i).foldl j3 [] ->
  (∀h' tk,(∀c o,c≠p->c≠it->s.heap.get? c=Z o->h'.get? c=Z o)->uk p (ddK ns).length h'->R (.ok (.ret .none)) {s with heap:=h',toks:=tk})->codeAny (model P w) A (.builtin "set.update.loop" ⟨[.ref p,.ref it],[]⟩) R s:=by
 intro k
 induction k with
 |zero=>
  intro i s xs hk hi st aj ag N ai u q;have e:i=its.size:=by lia
  subst e;refine wD1 PyProof.Rows.F.entry_set_update_loop (?_:_);rw[Around.under_plainId PyProof.Rows.F.plain_set_update_loop _];show db _ A.in1 (pyNext (.ref it) >>= _) _ _ s;refine wB1 (wpAny_pyNext_list_end (by simpa using hh) st aj (by simp) λh' eb=>wP1 ?_);refine q h' s.toks (λc o _ hc e=>eb c o hc e) ?_;have D:its.size=ns.length:=by rw[<- aC];exact ag.split.symm
  obtain⟨_,es,ep,t,F,tt,_,_,_,y⟩:=N;rw[D,bP]at u;have hz2:xs.length=(ddK ns).length:=by have:=congrArg List.length u;rw[lM1]at this;exact this
  refine⟨es,ep,t,eb p _ Q F,tt.fits,y.trans hz2,?_⟩;have:=l5 ns [];unfold ddK;simp at this;lia
 |succ k ih=>
  intro i s xs hk hi st aj ag N ai u q;have I:i<its.size:=by lia
  have hx:=aG1 I;obtain⟨C,ek,n⟩:=ag.mem i _ (by rw[aT1];exact hx);have V:C∈ns:=gM1 ek;obtain⟨hd,S,ex⟩:=yZ (hT C V) n;refine wD1 PyProof.Rows.F.entry_set_update_loop (?_:_);rw[Around.under_plainId PyProof.Rows.F.plain_set_update_loop _];show db _ A.in1 (pyNext (.ref it) >>= _) _ _ s;refine wB1 (wpAny_pyNext_list_item st aj hx λh' st' T=>?_);rw[ex]at n ⊢;have d:∀{k:TK} {v:cY},eN s.heap k v->eN h' k v:=λK=>by
   refine K.rec (motive_1:=λk v _=>eN h' k v) (motive_2:=λk v _=>eW h' k v) .non .int (λ{a} _ _ _ _ e1 c1 d1 _ ih=>.tup ((T.2 a λz=>?_).trans e1) c1 d1 ih) .nil (λ_ _ a b=>.cons a b);subst z;obtain⟨o,e2,c2,_⟩:=st;rw[e1]at e2;cases e2;rw[c1]at c2;exact absurd c2 (by decide)
  show db _ A.in1 (holding [Value.ref S] (setAdd p (.ref S)) >>= _) _ _ _;refine wB1 (wpAny_holding ?_);unfold setAdd;have G:A.in1.units=A.units+1:=rfl;refine wpAny_holding (wB1 (rv C (by rw[G];lia) (d n) ?_));obtain⟨es,ep,t,B⟩:∃es ep t,h'.get? p=some (stO es ep t):=by
   obtain⟨_,es,ep,t,F,_⟩:=N;exact⟨es,ep,t,by rw[T.2 p Q];exact F⟩
  have W:ul p xs h':=by
   obtain⟨nd,es,ep,t,F,rr⟩:=N;exact⟨nd,es,ep,t,by rw[T.2 p Q];exact F,rr⟩
  have m:vy h' xs:=λz y=>⟨d (ai z y).1,(ai z y).2⟩;have hfl:=l5 (ns.take i) [];have X:xs.length=((ns.take i).foldl j3 []).length:=by have:=congrArg List.length u;rw[lM1]at this;exact this
  refine Lf (s:={s with heap:=h',toks:=s.toks+C.draws}) (by rw[G];lia) W m (by
   have D:its.size=ns.length:=by rw[<- aC];exact ag.split.symm
   rw[X];rw[aL,aW]at hfl;lia) (d n) hd λc h2 j U=>?_
  have ef:j3 ((ns.take i).foldl j3 []) C=(ns.take (i+1)).foldl j3 []:=by
   rw[cy,ek,List.foldl_append];rfl
  have H:(lF xs C S).map (·.1)=(ns.take (i+1)).foldl j3 []:=by
   rw[<- ef,<- u];unfold lF j3;by_cases ah:C∈xs.map (·.1)
   ·rw[ae ah,ae ah]
   ·rw[ab ah,ab ah,cx];rfl
  have kk:∀c o,c≠p->c≠it->s.heap.get? c=Z o->h2.get? c=Z o:=λc o h1 wq e=>by rw[j.2 c h1];show h'.get? c=_;rw[T.2 c wq];exact e
  have keepIt:∀o,h'.get? it=Z o->h2.get? it=Z o:=λo e=>by rw[j.2 it (Ne.symm Q)];exact e
  have tks:∀{h E:de} {a:List TK} {b:List cY},(∀{k v},eN h k v->eN E k v)->eW h a b->eW E a b:=λ{h E a b} f K=>by
   induction a generalizing b with
   |nil=>cases K;exact .nil
   |cons k a ih=>cases K with|cons r t=>exact .cons (f r) (ih t)
  refine wP1 ⟨plainId_quiet PyProof.Rows.F.plain_set_update_loop _,ih (i+1) {s with heap:=h2,toks:=s.toks+C.draws} (lF xs C S) (by lia) I (st'.at keepIt) ?_ ?_ U ?_ H λwq tk k3 x3=>?_⟩
  ·obtain⟨o,e,r⟩:=aj;exact⟨o,kk l o (Ne.symm n1) (Ne.symm n3) e,r⟩
  ·exact tks (λx=>(d x).keepsS B λa o g e=>by rw[j.2 a g];exact e) ag
  ·intro z y;unfold lF at y;split at y
   ·exact⟨(m z y).1.keepsS B λa o g e=>by rw[j.2 a g];exact e,(m z y).2⟩
   ·rcases az.mp y with L|L
    ·exact⟨(m z L).1.keepsS B λa o g e=>by rw[j.2 a g];exact e,(m z L).2⟩
    ·rw[cc.mp L];exact⟨(d n).keepsS B λa o g e=>by rw[j.2 a g];exact e,hd⟩
  ·exact q wq tk (λc o h1 h4 e=>k3 c o h1 h4 (kk c o h1 h4 e)) x3
theorem yj{s:cZ}{l:c0}{its:Array cY}{ns:List TK}{Q:cY->cZ->Prop}(y:A.handled=Y)(ag:A.units+24<cLine)(i:s.heap.IsList l its)(n:eW s.heap ns its.toList)(F:∀ k∈ns,uG k=M)(hb:ns.length<=76)(q:∀h' tk,(∀c o,s.heap.get? c=Z o->h'.get? c=Z o)->uk s.heap.objs.size (ddK ns).length h'->Q (.ref s.heap.objs.size) {s with heap:=h',toks:=tk}):db (model P w) A (call (.type "set") [.ref l]) Q E s:=by
 have g:l<s.heap.objs.size:=by obtain⟨o,e,_⟩:=i;exact hL1 e
 refine vj i λK u I R C=>?_;have p:(s.heap.push (stO #[] 0 (.fresh 0 0 (!jF w)))).objs.size=s.heap.objs.size+1:=by rw[hZ1]
 have H:(s.heap.push (stO #[] 0 (.fresh 0 0 (!jF w)))).get? s.heap.objs.size=Z (stO #[] 0 (.fresh 0 0 (!jF w))):=hS1 _ O;have j:∀{h d:de} {a:List TK} {b:List cY},(∀{k v},eN h k v->eN d k v)->eW h a b->eW d a b:=λ{h d a b} f m=>by
  induction a generalizing b with
  |nil=>cases m;exact .nil
  |cons k a ih=>cases m with|cons r t=>exact .cons (f r) (ih t)
 refine xr (its:=its) (ns:=ns) (u.trans y) (by lia) F hb (nG1 g) (nN1 (bt _)) (nG1 (cf g)) _ 0 _ [] rfl (a0 _) ?_ ?_ ?_ ?_ (λz D=>by cases D) O λh' tk k x=>C _ (q h' tk (λc o e=>k c o (nN1 (hL1 e)) (nN1 (cf (hL1 e))) (hP1 _ (hP1 _ e))) x)
 ·refine⟨{cls:=.type "list_iterator",data:=.fields #[.ref l,.int 0 0]},?_,O,O⟩;have this:((s.heap.push (stO #[] 0 (.fresh 0 0 (!jF w)))).push {cls:=.type "list_iterator",data:=.fields #[.ref l,.int 0 0]}).get? (s.heap.push (stO #[] 0 (.fresh 0 0 (!jF w)))).objs.size=Z {cls:=.type "list_iterator",data:=.fields #[.ref l,.int 0 0]}:=hS1 _ O;rw[p]at this;exact this
 ·obtain⟨o,e,r⟩:=i;exact⟨o,hP1 _ (hP1 _ e),r⟩
 ·exact j (λx=>x.grows λa o e=>hP1 _ (hP1 _ e)) n
 ·exact⟨bh,#[],0,_,hP1 _ H,sTT.fresh _,O,(λe G=>by simp at G),(λk B=>by cases B),O⟩
end
def py:List D->Option (List TK)
 |[]=>Z []
 |d::ds=>(iG d).bind λk=>(py ds).map (k :: ·)
theorem tI:∀{ds:List D} {ks:List TK},py ds=Z ks->kn ks=ds/\(∀k∈ks,uG k=M)/\ks.length=ds.length
 |[],ks,h=>by cases h;exact⟨O,(λk e=>by cases e),O⟩
 |d::ds,ks,h=>by
  rw[py]at h;obtain⟨k,c,h⟩:=oB1.mp h;obtain⟨m,g,h⟩:=oM1.mp h;subst h;obtain⟨h1,h2,xs,b⟩:=na c;obtain⟨l,f,i⟩:=tI g;refine⟨by rw[kn,h1,l],λj a=>?_,by simp[i]⟩;rcases ay.mp a with z|z
  ·subst z;subst b;simpa[uG]using h2
  ·exact f j z
def jD:G1:=λd S=>match dH S d with
 |some (M,xs)=>(py xs).bind λks=>if ks.length<=76 then Z (.int (ddK ks).length,S)else Y
 |_=>Y
section
variable{X:Cx}
def Ix(X:Cx)(vs:List V)(H:Hp)(Q:VK):Prop:=∃a xs ks mu,vs=[.ref a]/\lI X.K H a xs/\dD X.K H mu (kn ks) xs/\(∀k∈ks,uG k=M)/\ks.length<=76 /\ ∀p,H p=Y->Q (.ref p) (upd H p (.ext (uk p (ddK ks).length)))
def Iy(X:Cx)(vs:List V)(H:Hp)(Q:VK):Prop:=∃a n,vs=[.ref a]/\H a=Z (.ext (uk a n))/\Q (.int n) H
theorem Hn(hc:X.calm=M)(n:X.A.units+64<cLine):eh X (.type "set") (Ix X):=by
 intro Z8 s σ H xs v Q I r h;obtain⟨a,vs,ks,mu,rfl,l,f,j,i,q⟩:=h;obtain⟨u,rfl,r2⟩:=gU r;cases r2;obtain⟨g,m,p,w⟩:=I.list l;have d:=uH I ks f m;refine yj (I.ok.hd hc) (by lia) p.isList (by simpa using d) j i λh' tk keep c=>?_;have b:=I.hok.fresh (nR1 s.heap.objs.size);refine⟨.ref s.heap.objs.size,_,I.laid (t':=tk) (o:=.ext (uk s.heap.objs.size (ddK ks).length)) keep (nR1 _) ⟨c,?_,λh1 h2 ⟨es,ep,t,e,r⟩ k=>⟨es,ep,t,k _ e,r⟩⟩,O,q _ b⟩;obtain⟨es,ep,t,e,_⟩:=c;exact⟨_,e⟩
theorem Ho:eh X (.builtin "len") (Iy X):=by
 intro Z8 s σ H xs g Q I r h;obtain⟨a,n,rfl,b,q⟩:=h;obtain⟨u,rfl,r2⟩:=gU r;cases r2;obtain⟨⟨es,ep,t,e,c,d,f⟩,_⟩:=(show eA X.prog X.w H s.heap a (.ext (uk a n))from I.hok a _ b);refine PySem.call_len_set e (by first|exact rfl|exact⟨rfl,rfl,rfl⟩|exact⟨rfl,rfl⟩) rfl c (by lia) ?_;refine⟨.int es.size,H,I.tok _,⟨_,O⟩,?_⟩;rw[d];exact q
theorem yE (hc:X.calm=true)(k:X.A.units+64<cLine){o:Expr}{m:FE}{p p2 pos b:Pos}(hg:Gl X "len")(hm:X.mg "len"=none)(hg2:Gl X "set")(hm2:X.mg "set"=none)(ho:XE X o m)
  (he:c9 [.Call (.Name "set" p2) [o] [] b] X.env=[(J,eval (.Call (.Name "set" p2) [o] [] b) X.env)]:=by rfl) (c:c9 [o] X.env=[(J,eval o X.env)]:=by rfl):XE X (.Call (.Name "len" p) [.Call (.Name "set" p2) [o] [] b] [] pos) (mN (b1 jD) (di m dj)):=
 ⟨eg (nO Ho hg hm (by decide+kernel) (iR (jR (Hn hc k) hg2 hm2 (by decide+kernel) (iR ho.h lQ c) (he:=c)) lQ he) (he:=he)) <| by
  rintro σ H Q ⟨r,mu,S,d,E,he,y,hm,f⟩;obtain⟨⟨ds,D⟩,e,hm⟩:=oB1.mp hm;obtain⟨⟨C,F⟩,n,e⟩:=oB1.mp e;cases e;dsimp only[b1,jD]at hm;split at hm
  ·rename_i xs l;obtain⟨ns,A,hm⟩:=oB1.mp hm;split at hm
   ·rename_i w;cases hm;refine⟨r,mu,S,C,_,he,y,n,λv H1 mu1 i B g=>?_⟩;obtain⟨a,vs,rfl,q,t⟩:=dB B g l;obtain⟨s,z,_⟩:=tI A;refine⟨a,vs,ns,mu1,O,q,by rw[s];exact t,z,w,λp h=>?_⟩;refine⟨p,(ddK ns).length,O,dQ,?_⟩;have j:Ext mu1 mu1 H1 (upd H1 p (.ext (uk p (ddK ns).length))):=Ext.fresh h;have x:=g.fresh (u:=.ext (uk p (ddK ns).length)) h;exact f _ _ mu1 (i.trans j) (.int _) x
   ·cases hm
  ·cases hm⟩
end
section
variable{X:Cx}{pos:Pos}
theorem gn(i:Nat){x:Str}(hN:X.N.Nodup)(hi:X.N[i]?=Z x:=by rfl)(hx:yq X.env.scope x:=by first|exact Or.inl rfl|exact Or.inr rfl)(hf:X.fn x=M\/X.env.scope.names.lookup x=Z .local:=by first|exact .inl rfl|exact .inr rfl|assumption):XG X (.Name x pos) (gN i):=qO i hN hi hx hf
theorem ce{op:CmpOp}{x y:Expr}{f:FN}{a b:FE}(ho:fY X (compareOp op) (r2 X.K f))(hx:XE X x a)(hy:XE X y b)(hm:behindInMarks op y=J:=by exact Ab _):XE X (.Compare x [op] [y] pos) (m2 f a b):=BW ho hx hy hm
theorem ct{op:CmpOp}{x y:Expr}{f:FN}{a b:FE}(ho:fY X (compareOp op) (r2 X.K f))(hx:XE X x a)(hy:XE X y b)(hm:behindInMarks op y=J:=by exact Ab _):XT X (.Compare x [op] [y] pos) (mB (m2 f a b)):=qX ho hx hy hm
theorem kc{a:dh}{i:Nat}{l:List Nat}(x:Str)(r:∀i∈l,∃x,X.N[i]?=Z x/\a.names.lookup x=Z .free/\(X.env.kindOf x=Z .cell\/X.env.kindOf x=Z .free)/\(x,NameKind.cell)∉a.names)(h1:X.N[i]?=Z x:=by rfl)(h2:a.names.lookup x=Z .free:=by rfl)(c:X.env.kindOf x=Z .cell\/X.env.kindOf x=Z .free:=by first|exact Or.inl rfl|exact Or.inr rfl)(b:(x,NameKind.cell)∉a.names:=by decide+kernel):∀j∈i::l,∃x,X.N[j]?=Z x/\a.names.lookup x=Z .free/\(X.env.kindOf x=Z .cell\/X.env.kindOf x=Z .free)/\(x,NameKind.cell)∉a.names:=List.forall_mem_cons.mpr ⟨⟨x,h1,h2,c,b⟩,r⟩
end
structure dY (K:Fg1)(x:Str)(st:dg)(f:c0):Prop where
 ns:wN1 K c8 x=some (some (.ref f))
 fn:∃fd,xa K x x st f fd
theorem JB{K:Fg1}{x:Str}{st:dg}{f:c0}{i:cY}{j g:Option c0}{d:Array (Option cY)}{kV e h b ct:cY}(a:wN1 K c8 x=Z (Z (.ref f)))(l:K.lookup f=Z ⟨i,j,.func (wF1 x x (im st) (fe st) (dI st) .none kV e h g b ct),d⟩)(c:wC1 K b x=M)(k:wK1 K (.ref f)=M):dY K x st f:=⟨a,_,AY l c k⟩
theorem xo{P:c5}{w:c7}{K:Fg1}{mg:Str->Option cY}{base h:de}{x:Str}{st:dg}{f:c0}{N ps:List Str}{k n:Nat}{b:FS}(X:K.In h)(G:h.Ns c8 mg)(F:dY K x st f)(S:gv N ps (dI st))(hb:∀(kV e l:cY) (j:Option c0) (a ct:cY) (g:List cY),g.length=ps.length->bindArgs (wF1 x x (im st) (fe st) (dI st) .none kV e l j a ct) ⟨g,[]⟩=pure (ps.zip g))(d:∀(f:c0) (a:cY) (A:c6) (c:List Env) (s:cZ) (H:Hp) (E:XK),fB k (A.deeper (envOfC x (dI st) s.heap.objs.size f a)) ->
   vr (mW um P w K mg base N x (dI st) f a A c s H E).nox (fe st) b)(hn:ps.length=n:=by rfl):Own P w K mg base (k+1) x n (hU N.length b):=by
 obtain⟨fd,i⟩:=F.fn;exact vE i (i.binds hb) (wM1 X G F.ns) S hn (d f)
section
variable{X:Cx}{Z8:List (c0×Obj)}{σ:L2.St}{H:Hp}{s:cZ}{mu:List c0}
end
section
variable{P:c5}{w:c7}{A:c6}{E:cY->cZ->Prop}{s:cZ}{a x:c0}{xs:List (TK×c0×cY)}{k:TK}
end
section
variable{X:Cx}
end
section
variable{X:Cx}{o e:Expr}{es:List Expr}{to:TE}{t:TA}{name:Str}{apos cpos:Pos}{id:String}{r:V->List V->Hp->VK->Prop}
end
section
variable{X:Cx}
end
def xN(f g k:FN)(a b c d:FE):FE:=λr S=>(a r S).bind λp=>(b r p.2).bind λq=>(f [p.1,q.1] q.2).bind λt=>match t.1 with
 | .bl j=>if j=true then (c r t.2).bind fun z=>(g [q.1,z.1] z.2).bind fun t2=>match t2.1 with
   | .bl j2=>if j2=M then(d r t2.2).bind λy=>k [z.1,y.1] y.2 else Z (.bl J,t2.2)
   |_=>Y
  else Z (.bl J,t.2)
 |_=>Y
def vR(r r' r'':R2)(ta tb tc td:TE):TE:=fun σ H Q=>ta σ H λx H1=>tb σ H1 λy H2=>r x y H2 λz H3=>∃k,z = .bl k /\
 (if k=M then tc σ H3 λw' H4=>r' y w' H4 λz2 H5=>∃k2,z2 = .bl k2/\(if k2=M then td σ H5 λw2 H6=>r'' w' w2 H6 Q else Q (.bl J) H5)else Q (.bl J) H3)
section
variable{X:Cx}{x y z u:Expr}{pos:Pos}{f g k:FN}{a b c d:FE}{op op' op'':CmpOp}{ta tb tc td:TE}
theorem xA{r i b:R2}(ho:fY X (compareOp op) r)(ho':fY X (compareOp op') i)(a:fY X (compareOp op'') b)(ha:PE X x ta)(hb:PE X y tb)(hc:PE X z tc)(hd:PE X u td)(hm:lastMarks [op,op',op''] [y,z,u]=J:=by with_unfolding_all rfl):PT X (.Compare x [op,op',op''] [y,z,u] pos) (Eg (vR r i b ta tb tc td)):=by
 intro Z8 s σ H Q I h;refine isTrue_chain (eQ (ha Z8 s σ H _ I h) λv L ⟨x,H1,wq,r1,K⟩=>test_link (eQ (hb Z8 L σ H1 _ wq K) λu S ⟨y,H2,w,r2,E⟩=>
  eQ (ho Z8 S σ H2 x y v u _ w r1 r2 E) λd s3 ⟨z,g,n,r3,k,e,m⟩=>?_)) hm
 subst e;cases r3;refine wpAny_truthy_bool ?_;cases k with
 |false=>
  obtain⟨ag,c,f⟩:=m;cases c;exact ite_ff ⟨g,n,f⟩
 |true=>
  refine ite_tt (test_link (eQ (hc Z8 s3 σ g _ n m) λt V ⟨j,F,ah,o,T⟩=>eQ (ho' Z8 V σ F y j u t _ ah r2 o T) λd' B ⟨z2,q,p,W,ai,G,l⟩=>?_));subst G;cases W;refine wpAny_truthy_bool ?_;cases ai with
  |false=>
   obtain⟨ag,c,f⟩:=l;cases c;exact ite_ff ⟨q,p,f⟩
  |true=>
   refine ite_tt (test_last (eQ (hd Z8 B σ q _ p l) λR s6 ⟨U,N,C,r6,P⟩=>eQ (a Z8 s6 σ N j U t R _ C o r6 P) λd2 s7 ⟨z4,D,A,r7,k3,aj,q7⟩=>?_));subst aj;cases r7;exact wpAny_truthy_bool ⟨D,A,q7⟩
theorem Dc{K:Fg1}{σ:L2.St}{H:Hp}{Q:VK}(h:tM K (xN f g k a b c d) σ H Q):vR (r2 K f) (r2 K g) (r2 K k) (tM K a) (tM K b) (tM K c) (tM K d) σ H Q:=by
 obtain⟨r,mu,S,d0,S',p,hs,e,hc⟩:=h;obtain⟨⟨N,L⟩,P,e⟩:=oB1.mp e;obtain⟨⟨v,E⟩,W,e⟩:=oB1.mp e;obtain⟨⟨C,G⟩,wq,e⟩:=oB1.mp e;refine⟨r,mu,S,N,L,p,hs,P,λv1 H1 mu1 i r1 ai=>?_⟩;refine⟨r,mu1,L,v,E,p.ext i,ai,W,λv2 H2 x x2 r2 s2=>?_⟩;refine⟨x,E,[N,v],C,G,.cons (r1.ext x2) (.cons r2 .nil),s2,wq,λv3 aj m l r3 ag=>?_⟩;cases C with
 |bl j=>
  cases r3;refine⟨j,O,?_⟩;cases j with
  |false=>cases e;exact hc _ aj m ((i.trans x2).trans l) (.bl J) ag
  |true=>
   obtain⟨⟨w,ah⟩,e4,e⟩:=oB1.mp e;obtain⟨⟨D,A⟩,e5,e⟩:=oB1.mp e;refine⟨r,m,G,w,ah,p.ext ((i.trans x2).trans l),ag,e4,λv4 H4 s q B s4=>?_⟩;refine⟨s,ah,[v,w],D,A,.cons ((r2.ext l).ext q) (.cons B .nil),s4,e5,λv5 H5 n o r5 y=>?_⟩;cases D with
   |bl z=>
    cases r5;refine⟨z,O,?_⟩;cases z with
    |false=>cases e;exact hc _ H5 n ((((i.trans x2).trans l).trans q).trans o) (.bl J) y
    |true=>
     obtain⟨⟨I,F⟩,R,e⟩:=oB1.mp e;refine⟨r,n,A,I,F,p.ext ((((i.trans x2).trans l).trans q).trans o),y,R,λv6 H6 u x6 r6 s6=>?_⟩;exact⟨u,F,[w,I],d0,S',.cons ((B.ext o).ext x6) (.cons r6 .nil),s6,e,λT V t X r7 U=>hc T V t ((((((i.trans x2).trans l).trans q).trans o).trans x6).trans X) r7 U⟩
   |_=>cases e
 |_=>cases e
theorem uy(ho:fY X (compareOp op) (r2 X.K f))(ho':fY X (compareOp op') (r2 X.K g))(e:fY X (compareOp op'') (r2 X.K k))(hx:XE X x a)(hy:XE X y b)(hz:XE X z c)(j:XE X u d)(hm:lastMarks [op,op',op''] [y,z,u]=false:=by with_unfolding_all rfl):
  XT X (.Compare x [op,op',op''] [y,z,u] pos) (mB (xN f g k a b c d)):=
 ⟨qt (xA ho ho' e hx.h hy.h hz.h j.h hm) fun σ H Q h=>by
  obtain⟨r,mu,S,d,o,m,p,hm,hc⟩:=Et h;exact Dc ⟨r,mu,S,d,o,m,p,hm,λv H' mu' i l n=>hc v H' mu' i l n⟩⟩
end
structure Blt (L:List Str)(mg:Str->Option cY):Prop where
 h:∀x∈L,mg x=none
theorem bz{L:List Str}{mg:Str->Option cY}{x:Str}(B:Blt L mg)(h:x∈L:=by decide):mg x=Y:=B.h x h
theorem sk{N P:List Str}{sc:dh}(h1:sc.kind = .function:=by rfl)(h2:sc.isCoroutine=J:=by rfl)(c:sc.isGenerator=J:=by rfl)(d:N.Nodup:=by decide+kernel)(a:N.take P.length=P:=by rfl)(e:∀x∈P,sc.names.lookup x=Z .local\/sc.names.lookup x=Z .cell:=by decide+kernel)(b:∀y∈sc.names,y.2 ≠ .free:=by decide+kernel):gv N P sc:=⟨h1,h2,c,d,a,e,b⟩
def JY(K:Fg1):List Str->Prop
 |[]=>True
 |x::l=>wN1 K c8 x=Z Y/\JY K l
theorem JY.blt{K:Fg1}{mg:Str->Option cY}{h:de}(X:K.In h)(G:h.Ns c8 mg):∀{L:List Str},JY K L->Blt L mg
 |[],_=>⟨λ_ m=>nomatch m⟩
 |_::_,z=>⟨λ_ m=>match m with
  | .head _=>PySem.W.mg_none_of X G z.1
  | .tail _ m=>(JY.blt X G z.2).h _ m⟩
def Kh:List Str->Bool
 |[]=>M
 |x::l=> !l.contains x&&Kh l
theorem kd:∀{l:List Str},Kh l=M->l.Nodup
 |[],_=>bh
 |x::l,h=>by
  obtain⟨a,b⟩:=(bA1 _ _).mp h;exact aH.mpr ⟨λm=>(by rw[List.contains_iff_mem.mpr m]at a;cases a),kd b⟩
section
variable{X:Cx}{pos:Pos}{k:Nat}{x:Str}{i:Nat}{e y:Expr}{es:List Expr}{m b:FE}{a:FA}{p:Pos}
theorem xv (hN:X.N[i]?=Z x:=by rfl)(hv:D8 X.env.scope x:=by first|exact Or.inl rfl|exact Or.inr (Or.inl rfl)|exact Or.inr (Or.inr rfl))(hd:(x == ("__debug__":Str))=J:=by decide)(hcd:(x == ("__classdict__":Str))=J:=by decide):XE X (.Name x pos) (mV i):=LQ i hN hv hd hcd
theorem gq(hN:Kh X.N=M:=by rfl)(hi:X.N[i]?=Z x:=by rfl)(hx:yq X.env.scope x:=by first|exact Or.inl rfl|exact Or.inr rfl)(hf:X.fn x=M\/X.env.scope.names.lookup x=Z .local:=by first|exact .inl rfl|exact .inr rfl|assumption):XG X (.Name x pos) (gN i):=qO i (kd hN) hi hx hf
theorem sq(he:XE X e m)(hN:Kh X.N=M:=by rfl)(hi:X.N[i]?=Z x:=by rfl)(hx:yq X.env.scope x:=by first|exact Or.inl rfl|exact Or.inr rfl)(hs:swapsWith e (Z (.Name x p)) pos.line X.env=pure J:=by rfl)(hf:X.fn x=M\/X.env.scope.names.lookup x=Z .local:=by first|exact .inl rfl|exact .inr rfl|assumption):XS X (.Assign [.Name x p] e pos) (dE m (gN i)):=qY i (kd hN) hi hx he hs hf
theorem jq(hx:XE X e m)(hy:XE X y b)(hr:fB k X.A:=by assumption)(hs:ni y:=by intro _ _;rfl):XE X (.Subscript e y pos) (m2 (b2 dv) m b):=qJ (qP hr.units) hx hy hs
theorem oq{aj:Prop}(o:X.A.units+64<cLine->aj)(hr:fB k X.A:=by assumption):aj:=o hr.units
theorem wn {k' n:Nat}{f:FN}(h:Own X.prog X.w X.K X.mg X.base k x n f)(ha:XA X (e::es) a)(hr:fB k' X.A:=by assumption)(hk:k<=k':=by first|decide|omega)(hg:Gl X x:=by rfl)(hdb:(x == ("__debug__":Str))=J:=by decide)(he:c9 (e::es) X.env=(J,eval e X.env)::c9 es X.env:=by rfl)(hpl:(backTo pos (c9 es X.env)).any (·.1)=J:=by rfl):XE X (.Call (.Name x p) (e::es) [] pos) (mN (dn n f) a):=qH h hr hk hg ha hdb he hpl
theorem cn {id:String}{f:FN}(hc:eh X (.builtin id) (rN X.K f))(ha:XA X (e::es) a)(hm:X.mg x=Y:=by exact bz (by assumption))(hg:Gl X x:=by rfl)(hv:bootBuiltins x=Z (.builtin id):=by decide+kernel)(hn:x≠"__name__":=by decide)(hdb:(x == ("__debug__":Str))=J:=by decide)(he:c9 (e::es) X.env=(J,eval e X.env)::c9 es X.env:=by rfl)(hpl:(backTo pos (c9 es X.env)).any (·.1)=J:=by rfl):XE X (.Call (.Name x p) (e::es) [] pos) (mN f a):=qD hc hg hm hv ha hn hdb he hpl
theorem cz {T:String}{f:FN}(hc:eh X (.type T) (rN X.K f))(ha:XA X (e::es) a)(hm:X.mg x=Y:=by exact bz (by assumption))(hg:Gl X x:=by rfl)(hv:bootBuiltins x=Z (.type T):=by decide+kernel)(hn:x≠"__name__":=by decide)(hdb:(x == ("__debug__":Str))=J:=by decide)(he:c9 (e::es) X.env=(J,eval e X.env)::c9 es X.env:=by rfl)(hpl:(backTo pos (c9 es X.env)).any (·.1)=J:=by rfl):XE X (.Call (.Name x p) (e::es) [] pos) (mN f a):=qE hc hg hm hv ha hn hdb he hpl
theorem a1(h:XE X e m)(hs:c9 [e] X.env=(J,eval e X.env)::c9 [] X.env:=by rfl):XA X [e] (di m dj):=qA h qN hs
theorem a2(h:XE X e m)(g:XE X y b)(hs:c9 [e,y] X.env=(J,eval e X.env)::c9 [y] X.env:=by rfl)(hs2:c9 [y] X.env=(J,eval y X.env)::c9 [] X.env:=by rfl):XA X [e,y] (di m (di b dj)):=qA h (a1 g hs2) hs
theorem a3{z:Expr}{c:FE}(h:XE X e m)(g:XE X y b)(l:XE X z c)(hs:c9 [e,y,z] X.env=(J,eval e X.env)::c9 [y,z] X.env:=by rfl)(hs2:c9 [y,z] X.env=(J,eval y X.env)::c9 [z] X.env:=by rfl)(a:c9 [z] X.env=(J,eval z X.env)::c9 [] X.env:=by rfl):XA X [e,y,z] (di m (di b (di c dj))):=qA h (a2 g l hs2 a) hs
theorem ir (ha:XA X [e] a)(hm:X.mg "range"=Y:=by exact bz (by assumption))(hg:Gl X "range":=by rfl)(hs:c9 [e] X.env=[(J,eval e X.env)]:=by rfl):XI X y (.Call (.Name "range" p) [e] [] pos) (ss a):=uz hg hm ha hs
theorem ie {elts:List Expr}{b:Nat}{tpos:Pos}(ha:XA X [e] a)(hm:X.mg "enumerate"=Y:=by exact bz (by assumption))(hg:Gl X "enumerate":=by rfl)(hs:c9 [e] X.env=[(J,eval e X.env)]:=by rfl):XI X (.Tuple elts b tpos) (.Call (.Name "enumerate" p) [e] [] pos) (oa a):=yD hg hm ha hs
theorem ii {T:Ty}{p2:Pos}(h:XE X e m)(hm:X.mg "isinstance"=Y:=by exact bz (by assumption))(hm2:X.mg x=Y:=by exact bz (by assumption))(hg:Gl X "isinstance":=by rfl)(hg2:Gl X x:=by rfl)(hv2:bootBuiltins x=Z (.type T.nm):=by decide+kernel)(hn:x≠"__name__":=by decide)(hd:(x == ("__debug__":Str))=J:=by decide)(hs1:c9 [e,.Name x p2] X.env=(J,eval e X.env)::c9 [.Name x p2] X.env:=by rfl)(hs2:c9 [.Name x p2] X.env=(J,eval (.Name x p2) X.env)::c9 [] X.env:=by rfl)(hpl:(backTo pos (c9 [.Name x p2] X.env)).any (·.1)=J:=by rfl):XE X (.Call (.Name "isinstance" p) [e,.Name x p2] [] pos) (iE T m):=uA T hg hm hg2 hm2 hv2 h hn hd hs1 hs2 hpl
structure Lm (X:Cx)(name:Str)(id:String)(f:FN):Prop where
 s:Slot "list" name id
 t:typeOf (.builtin id)=pure (.type "method_descriptor")
 m:HI X id (λx xs H Q=>rN X.K f (x::xs) H Q)
theorem ap{X:Cx}:Lm X "append" "list.append" (b2 gB):=⟨PySem.F.slot_list_append,PySem.F.type_list_append,HX⟩
theorem lq{f:FN}{name:Str}{apos:Pos}{id:String}(s:Lm X name id f)(ho:XE X y m)(ha:XA X (e::es) a)(hbase:attributeBase y name X.env (eval y X.env)=eval y X.env:=by rfl)(hfew:((backTo pos (c9 (e::es) X.env)).all (λx=> !x.1)&&(backToKw pos (keywordEach [] X.env)).all (λx=>x.1.isSome)&&decide ((e::es).length+([]:List Keyword).length+(if([]:List Keyword).isEmpty then 0 else 1)<30))=M:=by rfl)(hline:(apos.endLine == pos.line)=M:=by rfl)(hs:c9 (e::es) X.env=(J,eval e X.env)::c9 es X.env:=by rfl)(hplain:(backTo pos (c9 es X.env)).any (·.1)=J:=by rfl):XS X (.Expr (.Call (.Attribute y name apos) (e::es) [] pos) p) (eK (my f m a)):=yC (qe s.s s.t s.m ho ha hbase hfew hline hs hplain)
theorem fo{tg iter:Expr}{a:List dg}{m:FI}{g:FG}{b:FS}(hi:XI X tg iter m)(hg:XG X tg g)(hb:vr X a b)(hp:PassesOwn (model X.prog X.w) X.A X.env X.xe:=by exact PassesOwn.never)(hc:X.calm=M:=by rfl)(hs:∀x,foldedSetIterable iter X.env x=pure x:=by intro _;rfl):XS X (.For tg iter a [] pos) (eR m g b):=qW hp hc hi hg hb hs
theorem tg2{d:Expr}{g h:FG}{a:Nat}(h1:XG X e g)(h2:XG X d h)(hc:X.calm=M:=by rfl)(hs:(assignEach [e,d] X.env).map (·.2)=assign e X.env::(assignEach [d] X.env).map (·.2):=by rfl)(hs2:(assignEach [d] X.env).map (·.2)=assign d X.env::(assignEach [] X.env).map (·.2):=by rfl)(hn:(assignEach [e,d] X.env).length=2:=by rfl)(hst:(assignEach [e,d] X.env).findIdx? (·.1)=Y:=by rfl):XG X (.Tuple [e,d] a pos) (gT 2 (fu g (fu h jf))):=vF hc (gQ h1 (gQ h2 sx hs2) hs) hn hst
def Ki(x:Str):List (Str×NameKind)->Bool
 |[]=>M
 |(y,.cell)::l=> !(y == x)&&Ki x l
 |_::l=>Ki x l
omit k i in
theorem Af:∀{l:List (Str×NameKind)},Ki x l=M->(x,NameKind.cell)∉l
 |[],_,m=>nomatch m
 |(y,c)::l,h,m=>by
  rcases ay.mp m with e|a
  ·cases e;have h:=((bA1 _ _).mp h).1;rw[beq_self_eq_true]at h;cases h
  ·cases c with
   |cell=>exact Af ((bA1 _ _).mp h).2 a
   |_=>exact Af (l:=l) h a
theorem kz{a:dh}{l:List Nat}(r:∀i∈l,∃x,X.N[i]?=Z x/\a.names.lookup x=Z .free/\(X.env.kindOf x=Z .cell\/X.env.kindOf x=Z .free)/\(x,NameKind.cell)∉a.names)(h1:X.N[i]?=Z x:=by rfl)(h2:a.names.lookup x=Z .free:=by rfl)(c:X.env.kindOf x=Z .cell\/X.env.kindOf x=Z .free:=by first|exact Or.inl rfl|exact Or.inr rfl)(b:Ki x a.names=M:=by rfl):∀j∈i::l,∃x,X.N[j]?=Z x/\a.names.lookup x=Z .free/\(X.env.kindOf x=Z .cell\/X.env.kindOf x=Z .free)/\(x,NameKind.cell)∉a.names:=kc x r h1 h2 c (Af b)
def LH(X:Cx)(sc:dh):List (Str×c0):=(j4 X.env.cells sc.names []).getD []
theorem fk{elt tg iter:Expr}{ifs:List Expr}{scope:dh}(T:List Str){keep:List Nat}{m:FI}{g:FG}{t:FT}{e:FE}(hi:XI X tg iter m)(hb:∀ {s H d},Li (cxC X scope (LH X scope) T keep s H d) X.K tg ifs elt g t e)(free:∀i∈keep,∃x,X.N[i]?=Z x/\scope.names.lookup x=Z .free/\(X.env.kindOf x=Z .cell\/X.env.kindOf x=Z .free)/\(x,NameKind.cell)∉scope.names:=by first|exact cA _|exact kz (cA _)|exact kz (kz (cA _))|exact kz (kz (kz (cA _)))|exact kz (kz (kz (kz (cA _)))))(hc:X.calm=M:=by rfl)(b:scope.kind = .function:=by rfl)(a:∀x∈scope.names,x.2 = .local->scope.names.lookup x.1=Z .local:=by decide+kernel)(c:j4 X.env.cells scope.names []=Z (LH X scope):=by rfl)(hs:∀x,foldedSetIterable iter X.env x=pure x:=by intro _;rfl):XE X (.ListComp elt [⟨tg,iter,ifs,0⟩] scope pos) (eF T.length keep m g t (ea e)):=qZ hc ⟨b,a,free⟩ c hi (λ_ _ _=>hb) hs
end
theorem xq{P:c5}{w:c7}{K:Fg1}{mg:Str->Option cY}{base h:de}{x:Str}{st:dg}{f:c0}{k n:Nat}{b:FS}(N:List Str)(X:K.In h)(G:h.Ns c8 mg)(F:dY K x st f)(d:∀{f:c0} {a:cY} {A:c6} {c:List Env} {s:cZ} {H:Hp} {E:XK},fB k (A.deeper (envOfC x (dI st) s.heap.objs.size f a)) ->
   vr (mW um P w K mg base N x (dI st) f a A c s H E).nox (fe st) b)(S:gv N (N.take n) (dI st):=by exact sk)(hb:∀(kV i l:cY) (j:Option c0) (a ct:cY) (g:List cY),g.length=(N.take n).length->bindArgs (wF1 x x (im st) (fe st) (dI st) .none kV i l j a ct) ⟨g,[]⟩=pure ((N.take n).zip g):=by
   intro _ _ _ _ _ _ g e;first|exact LD e λ_=>rfl|exact LC e λ_ _=>rfl|exact KX e λ_ _ _=>rfl|exact Ml e λ_ _ _ _=>rfl)(hn:(N.take n).length=n:=by rfl):Own P w K mg base (k+1) x n (hU N.length b):=xo X G F S hb (λ_ _ _ _ _ _ _ m=>d m) hn
def W{α:Type}(o:Option α)(Q:α->Prop):Prop:=∃x,o=Z x/\Q x
section
variable{α β:Type}{Q:α->Prop}
theorem dt{x:α}:W (Z x) Q↔Q x:=⟨λ⟨_,e,h⟩=>(by cases e;exact h),λh=>⟨x,O,h⟩⟩
theorem kB:W (Y:Option α) Q↔False:=⟨λ⟨_,e,_⟩=>(by cases e),False.elim⟩
theorem dk{o:Option β}{f:β->Option α}:W (o.bind f) Q↔W o λx=>W (f x) Q:=by
 cases o with
 |none=>exact⟨λ⟨_,e,_⟩=>(by cases e),λ⟨_,e,_⟩=>(by cases e)⟩
 |some x=>exact⟨λh=>⟨x,O,h⟩,λ⟨_,e,h⟩=>by cases e;exact h⟩
theorem kl{o:Option β}{f:β->α}:W (o.map f) Q↔W o λx=>Q (f x):=by
 cases o with
 |none=>exact⟨λ⟨_,e,_⟩=>(by cases e),λ⟨_,e,_⟩=>(by cases e)⟩
 |some x=>exact⟨λ⟨_,e,h⟩=>(by cases e;exact⟨x,O,h⟩),λ⟨_,e,h⟩=>(by cases e;exact⟨_,O,h⟩)⟩
theorem pY{c:Prop}[Decidable c]{a b:Option α}:W (if c then a else b) Q↔if c then W a Q else W b Q:=by split<;>exact Iff.rfl
theorem W.mono{o:Option α}{Q':α->Prop}(h:W o Q)(k:∀x,Q x->Q' x):W o Q':=let ⟨x,e,q⟩:=h;⟨x,e,k x q⟩
theorem W.of{o:Option α}{x:α}(e:o=Z x)(h:Q x):W o Q:=⟨x,e,h⟩
end
theorem dL{a b:FS}{r:Ev}{S:Sto}{Q:Fl×Ev×Sto->Prop}(R:Ev->Sto->Prop)(h1:W (a r S) λp=>p.1 = .nx/\R p.2.1 p.2.2)(h2:∀r S,R r S->W (b r S) Q):W (dw a b r S) Q:=by
 obtain⟨⟨f,g,h⟩,e,c,d⟩:=h1;dsimp only at c d;subst c;unfold dw;rw[e];exact h2 g h d
theorem jg{n:Nat}{b:FS}{ds:List D}{S:Sto}{Q:D×Sto->Prop}(h:W (b (e6 n ds) S) fun p=>match p.1 with
  | .rt d=>Q (d,p.2.2)
  | .nx=>Q (.non,p.2.2)
  |_=>False):W (hU n b ds S) Q:=by
 obtain⟨⟨f,a,c⟩,e,q⟩:=h;unfold hU;rw[e];cases f with
 |rt d=>exact⟨_,O,q⟩
 |nx=>exact⟨_,O,q⟩
 |bk=>exact q.elim
 |ct=>exact q.elim
theorem oC{n:Nat}{f:FN}{ds:List D}{S:Sto}{Q:D×Sto->Prop}(hn:ds.length=n)(a:D.unds 0 ds=J)(h:W (f ds S) λp=>Q (gc S.length p)):W (dn n f ds S) Q:=by
 obtain⟨⟨d,b⟩,e,q⟩:=h;exact⟨_,pQ e hn a,q⟩
theorem iJ{n:Nat}{f:FN}{ds:List D}{S:Sto}{Q:D×Sto->Prop}(hn:ds.length=n)(b:D.unds 0 ds=M)(h:W (f ds []) λp=>p.1.und 0=M/\Q (p.1,S)):W (dn n f ds S) Q:=by
 obtain⟨⟨d,g⟩,e,c,a⟩:=h;exact⟨_,yh e hn b c,a⟩
mutual
theorem kJ{n:Nat}:∀{d:D},d.und 0=M->d.und n=M
 | .non,_=>rfl
 | .bl _,_=>rfl
 | .int _,_=>rfl
 | .str _,_=>rfl
 | .tup xs,h=>by rw[D.und]at h ⊢;exact jN h
 | .rol xs,h=>by rw[D.und]at h ⊢;exact jN h
 | .fn _,_=>rfl
 | .ref k,h=>by simp[D.und]at h
theorem jN{n:Nat}:∀{ds:List D},D.unds 0 ds=M->D.unds n ds=M
 |[],_=>rfl
 |d::ds,h=>by
  rw[D.unds,bA1]at h ⊢;exact⟨kJ h.1,jN h.2⟩
end
theorem ue{n:Nat}{f:FN}{ds:List D}{o:Ob}{T:Sto}{Q:D×Sto->Prop}(hn:ds.length=n)(c:D.unds 0 ds=J)(g:T.all (Ob.und (T.length+1))=M)(h:W (f ds (o::T)) λp=>∃d o' G,p=(d,o'::(T++G))/\d.und 0=M/\o'.und (T.length+1)=M/\Q (d,o'::T)):W (dn n f ds (o::T)) Q:=by
 refine oC hn c (h.mono ?_);rintro p ⟨d,o',G,rfl,a,b,q⟩;have e:(o'::(T++G)).take (T.length+1)=o'::T:=by simp
 unfold gc;dsimp only[lC1];rw[ae (by rw[e,kJ a,bI,b,g];rfl),e];exact q
theorem ez{c:List (Nat×List D)}{g:FG}{b:FS}{Q:Fl×Ev×Sto->Prop}(I:Nat->Ev->Sto->Prop):∀ (items:List D) (k:Nat) (r:Ev) (S:Sto),I k r S ->
  (∀i r S,I i r S->oW S c=M) ->
  (∀i d,items[i]?=Z d -> ∀r S,I (k+i) r S->W (g d r S) λp=>W (b p.1 p.2) λq=>q.1 = .nx/\I (k+i+1) q.2.1 q.2.2) ->
  (∀r S,I (k+items.length) r S->Q (.nx,r,S))->W (i9 c g b items r S) Q
 |[],k,r,S,hi,hok,_,hq=>by rw[i9];dsimp only;rw[ae (hok _ _ _ hi),dt];exact hq r S (by simpa using hi)
 |d::ds,k,r,S,hi,hok,hs,hq=>by
  rw[i9];dsimp only;rw[ae (hok _ _ _ hi),dk];obtain⟨p,j,h1⟩:=hs 0 d O r S (by simpa using hi);refine⟨p,j,?_⟩;dsimp only;rw[dk];obtain⟨⟨f,m,l⟩,n,h2,e⟩:=h1;refine⟨_,n,?_⟩;dsimp only at h2 e ⊢;subst h2;refine ez I ds (k+1) m l (by simpa using e) hok (λi o h r S a=>?_) λr S a=>hq r S (by rw[lC1,show k+(ds.length+1)=k+1+ds.length by lia];exact a);have:=hs (i+1) o (by simpa using h) r S (by rw[show k+(i+1)=k+1+i by lia];exact a);rw[show k+(i+1)+1=k+1+i+1 by lia]at this;exact this
theorem il{c:List (Nat×List D)}{g:FG}{t:FT}{e:FE}{Q:List D×Ev×Sto->Prop}(I:Nat->List D->Ev->Sto->Prop):∀ (items:List D) (k:Nat) (a:List D) (r:Ev) (S:Sto),I k a r S ->
  (∀i a r S,I i a r S->oW S c=M) ->
  (∀i d,items[i]?=Z d -> ∀a r S,I (k+i) a r S->W (g d r S) λp=>W (t p.1 p.2) λb=>if b.1=M then W (e p.1 b.2) λx=>I (k+i+1) (a++[x.1]) p.1 x.2 else I (k+i+1) a p.1 b.2) ->
  (∀xs r S,I (k+items.length) (a++xs) r S->Q (xs,r,S))->W (gg c g t (ea e) items r S) Q
 |[],k,a,r,S,hi,hok,_,hq=>by rw[gg];dsimp only;rw[ae (hok _ _ _ _ hi),dt];exact hq [] r S (by simpa using hi)
 |d::ds,k,a,r,S,hi,hok,hs,hq=>by
  rw[gg];dsimp only;rw[ae (hok _ _ _ _ hi),dk];obtain⟨p,m,h1⟩:=hs 0 d O a r S (by simpa using hi);refine⟨p,m,?_⟩;dsimp only;rw[dk];obtain⟨⟨b,o⟩,q,h2⟩:=h1;refine⟨_,q,?_⟩;have step:∀i h,ds[i]?=Z h -> ∀a r S,I (k+1+i) a r S->W (g h r S) λp=>W (t p.1 p.2) λb=>if b.1=M then W (e p.1 b.2) λx=>I (k+1+i+1) (a++[x.1]) p.1 x.2 else I (k+1+i+1) a p.1 b.2:=λi h l a r S f=>by
   have:=hs (i+1) h (by simpa using l) a r S (by rw[show k+(i+1)=k+1+i by lia];exact f);rw[show k+(i+1)+1=k+1+i+1 by lia]at this;exact this
  dsimp only at h2 ⊢;cases b with
  |true=>
   rw[ae O]at h2 ⊢;rw[dk,ea,kl];obtain⟨⟨x,s⟩,n,j⟩:=h2;refine⟨_,n,?_⟩;dsimp only at j ⊢;rw[kl];refine il I ds (k+1) (a++[x]) p.1 s (by simpa using j) hok step λxs r S f=>?_;refine hq _ r S ?_;rw[lC1,show k+(ds.length+1)=k+1+ds.length by lia];simpa using f
  |false=>
   rw[ab (by decide)]at h2 ⊢;refine il I ds (k+1) a p.1 o (by simpa using h2) hok step λxs r S f=>?_;refine hq _ r S ?_;rw[lC1,show k+(ds.length+1)=k+1+ds.length by lia];exact f
theorem E7{S:Sto}{b:Bool}:qf S (.bl b)=Z b:=rfl
theorem Ka{S:Sto}:qf S .non=Z J:=rfl
theorem Kb{S:Sto}{i:Int}:qf S (.int i)=Z (i != 0):=rfl
theorem DL{x y:Int}{S:Sto}:gEq (.int x) (.int y) S=Z (.bl (x == y),S):=rfl
theorem DE{x y:Int}{S:Sto}:gNe (.int x) (.int y) S=Z (.bl (!(x == y)),S):=rfl
theorem DG{x y:Int}{S:Sto}:gLt (.int x) (.int y) S=Z (.bl (decide (x<y)),S):=rfl
theorem DH{x y:Str}{S:Sto}:gEq (.str x) (.str y) S=Z (.bl (x == y),S):=rfl
theorem DC{x y:Str}{S:Sto}:gNe (.str x) (.str y) S=Z (.bl (!(x == y)),S):=rfl
theorem ite_and'{c p:Prop}[Decidable c]:(if c then p else False)↔c/\p:=by split<;>simp[*]
def yv(j:Int):Bool:=decide (-(2^62)<=j)&&decide (j<2^62)
theorem fQ{n:Nat}(h:n<2^60):yv n=M:=by
 unfold yv;rw[bA1,af,af];lia
theorem rZ{j:Int}(h: -(2^60)<=j)(h':j<2^60):yv j=M:=by
 unfold yv;rw[bA1,af,af];lia
def Iv(p:List D×Sto)(Q:yr×Sto->Prop):Prop:=match p.1 with
 |[.int j]=>yv j=M/\Q (⟨gy 0 j.toNat,[]⟩,p.2)
 |_=>False
def Kf(p:List D×Sto)(Q:yr×Sto->Prop):Prop:=match p.1 with
 |[.int i,.int j]=>yv i=M/\yv j=M/\Q (⟨gy i (j-i).toNat,[]⟩,p.2)
 |_=>False
theorem w5{m:FA}{r:Ev}{S:Sto}{Q:yr×Sto->Prop}:W (ss m r S) Q↔W (m r S) λp=>Iv p Q:=by
 unfold ss;rw[dk];constructor
 ·refine λh=>h.mono λp q=>?_;unfold Iv;split at q
  ·rename_i j e
   try rw[e]
   rw[pY]at q;split at q
   ·rename_i hc;exact⟨by unfold yv;rw[bA1,af,af];exact hc,dt.mp q⟩
   ·exact(kB.mp q).elim
  ·exact(kB.mp q).elim
 ·refine λh=>h.mono λp q=>?_;unfold Iv at q;split at q
  ·rename_i j e;obtain⟨a,b⟩:=q;unfold yv at a;rw[bA1,af,af]at a
   try rw[e]
   try dsimp only
   rw[ae a];exact dt.mpr b
  ·exact q.elim
theorem JT{m:FA}{r:Ev}{S:Sto}{Q:yr×Sto->Prop}:W (HM m r S) Q↔W (m r S) λp=>Kf p Q:=by
 unfold HM;rw[dk];constructor
 ·refine λh=>h.mono λp q=>?_;unfold Kf;split at q
  ·rename_i i j e
   try rw[e]
   rw[pY]at q;split at q
   ·rename_i hc;refine⟨?_,?_,dt.mp q⟩
    ·unfold yv;rw[bA1,af,af];exact⟨hc.1,hc.2.1⟩
    ·unfold yv;rw[bA1,af,af];exact hc.2.2
   ·exact(kB.mp q).elim
  ·exact(kB.mp q).elim
 ·refine λh=>h.mono λp q=>?_;unfold Kf at q;split at q
  ·rename_i i j e;obtain⟨a,b,c⟩:=q;unfold yv at a b;rw[bA1,af,af]at a b
   try rw[e]
   try dsimp only
   rw[ae ⟨a.1,a.2,b⟩];exact dt.mpr c
  ·exact q.elim
def fits(n:Nat):Bool:=decide (n<=da)
theorem dA{n:Nat}(h:n<=100000):fits n=M:=by unfold fits;rw[af];exact av h (by decide)
theorem tV{n:Nat}:fits n=M↔n<=da:=by unfold fits;rw[af]
theorem Mv:fits 0=M:=dA (by decide)
theorem Mu:fits 1=M:=dA (by decide)
theorem LG:fits 2=M:=dA (by decide)
theorem Mt:fits 3=M:=dA (by decide)
theorem Ms:fits 4=M:=dA (by decide)
theorem Mr:fits 5=M:=dA (by decide)
theorem Mq:fits 6=M:=dA (by decide)
theorem MC:fits 7=M:=dA (by decide)
theorem MB:fits 8=M:=dA (by decide)
theorem iu{α:Type}{n:Nat}{o:Option α}{Q:α->Prop}:W (if n<=da then o else Y) Q↔fits n=M/\W o Q:=by
 rw[tV,pY];split
 ·rename_i h;exact⟨λq=>⟨h,q⟩,λq=>q.2⟩
 ·rename_i h;exact⟨λq=>(kB.mp q).elim,λq=>absurd q.1 h⟩
theorem sf{a:FA}{r:Ev}{S:Sto}{Q:D×Sto->Prop}:W (dJ a r S) Q↔W (a r S) λp=>fits p.1.length=M/\Q (.tup p.1,p.2):=by
 unfold dJ;rw[dk];exact⟨λh=>h.mono λp q=>(iu.mp q).imp_right dt.mp,λh=>h.mono λp q=>iu.mpr (q.imp_right dt.mpr)⟩
theorem BA{a:FA}{r:Ev}{S:Sto}{Q:D×Sto->Prop}:W (eG a r S) Q↔W (a r S) λp=>fits p.1.length=M/\Q (.ref p.2.length,p.2++[.lst p.1]):=by
 unfold eG;rw[dk];exact⟨λh=>h.mono λp q=>(iu.mp q).imp_right dt.mp,λh=>h.mono λp q=>iu.mpr (q.imp_right dt.mpr)⟩
theorem lH{k:Nat}{keep:List Nat}{m:FI}{g:FG}{t:FT}{b:FV}{r:Ev}{S:Sto}{Q:D×Sto->Prop}:W (eF k keep m g t b r S) Q↔W (m r S) λp=>W (gg p.1.chk g t b p.1.items (lZ k keep r) p.2) λq=>fits q.1.length=M/\Q (.ref q.2.2.length,q.2.2++[.lst q.1]):=by
 unfold eF;rw[dk];refine⟨λh=>h.mono λp q=>?_,λh=>h.mono λp q=>?_⟩
 ·rw[dk]at q;exact q.mono λz w=>(iu.mp w).imp_right dt.mp
 ·rw[dk];exact q.mono λz w=>iu.mpr (w.imp_right dt.mpr)
theorem HD{xs ys:List D}{S:Sto}{Q:D×Sto->Prop}:W (ee (.tup xs) (.tup ys) S) Q↔fits (xs.length+ys.length)=M/\Q (.tup (xs++ys),S):=
 ⟨λq=>(iu.mp q).imp_right dt.mp,λq=>iu.mpr (q.imp_right dt.mpr)⟩
theorem BG{x y:Int}{S:Sto}{Q:D×Sto->Prop}:W (ee (.int x) (.int y) S) Q↔Q (.int (x+y),S):=dt
theorem BF{a b:Nat}{xs ys:List D}{S:Sto}{Q:D×Sto->Prop}(h1:S[a]?=Z (.lst xs))(h2:S[b]?=Z (.lst ys)):W (ee (.ref a) (.ref b) S) Q↔fits (xs.length+ys.length)=M/\Q (.ref S.length,S++[.lst (xs++ys)]):=by
 rw[ee];simp only[h1,h2];exact⟨λq=>(iu.mp q).imp_right dt.mp,λq=>iu.mpr (q.imp_right dt.mpr)⟩
theorem jc{n:Nat}{v:D}{xs:List D}{S:Sto}{Q:D×Sto->Prop}(h:S[n]?=Z (.lst xs)):W (gB (.ref n) v S) Q↔fits (xs.length+1)=M/\Q (.non,S.set n (.lst (xs++[v]))):=by
 rw[gB];simp only[h];rw[pY,tV];split
 ·rename_i a;exact⟨λq=>⟨a,dt.mp q⟩,λq=>dt.mpr q.2⟩
 ·rename_i a;exact⟨λq=>(kB.mp q).elim,λq=>absurd q.1 a⟩
theorem iL{n:Nat}{i:Nat}{xs:List D}{x:D}{S:Sto}{Q:D×Sto->Prop}(h:S[n]?=Z (.lst xs))(hx:xs[i]?=Z x)(q:Q (x,S)):W (dv (.ref n) (.int i) S) Q:=by
 refine W.of (x:=(x,S)) ?_ q;have a:=(gE1.mp hx).1;simp only[dv,mT,BN,h,dH,vo,xT,oS1,ae (show(0:Int)<=i by lia)];rw[ae (by lia)];simp[hx]
theorem lG{i:Nat}{xs:List D}{x:D}{S:Sto}{Q:D×Sto->Prop}(hx:xs[i]?=Z x)(q:Q (x,S)):W (dv (.tup xs) (.int i) S) Q:=by
 refine W.of (x:=(x,S)) ?_ q;have a:=(gE1.mp hx).1;simp only[dv,mT,BN,dH,vo,xT,oS1,ae (show(0:Int)<=i by lia)];rw[ae (by lia)];simp[hx]
theorem Mh:aJ 0 (Y:Option D)=[]:=rfl
theorem Mg:aJ 1 (Y:Option D)=[Y]:=rfl
theorem L7:aJ 2 (Y:Option D)=[Y,Y]:=rfl
theorem L5:aJ 3 (Y:Option D)=[Y,Y,Y]:=rfl
theorem L3:aJ 4 (Y:Option D)=[Y,Y,Y,Y]:=rfl
theorem L1:aJ 5 (Y:Option D)=[Y,Y,Y,Y,Y]:=rfl
theorem L0:aJ 6 (Y:Option D)=[Y,Y,Y,Y,Y,Y]:=rfl
theorem Mz:aJ 7 (Y:Option D)=[Y,Y,Y,Y,Y,Y,Y]:=rfl
theorem LZ:aJ 8 (Y:Option D)=[Y,Y,Y,Y,Y,Y,Y,Y]:=rfl
theorem My:aJ 9 (Y:Option D)=[Y,Y,Y,Y,Y,Y,Y,Y,Y]:=rfl
theorem Mf:aJ 10 (Y:Option D)=[Y,Y,Y,Y,Y,Y,Y,Y,Y,Y]:=rfl
theorem Me:aJ 11 (Y:Option D)=[Y,Y,Y,Y,Y,Y,Y,Y,Y,Y,Y]:=rfl
theorem KG:aJ 12 (Y:Option D)=[Y,Y,Y,Y,Y,Y,Y,Y,Y,Y,Y,Y]:=rfl
theorem Is:aJ 13 (Y:Option D)=[Y,Y,Y,Y,Y,Y,Y,Y,Y,Y,Y,Y,Y]:=rfl
theorem Md:aJ 14 (Y:Option D)=[Y,Y,Y,Y,Y,Y,Y,Y,Y,Y,Y,Y,Y,Y]:=rfl
theorem Mc:aJ 15 (Y:Option D)=[Y,Y,Y,Y,Y,Y,Y,Y,Y,Y,Y,Y,Y,Y,Y]:=rfl
theorem Mb:aJ 16 (Y:Option D)=[Y,Y,Y,Y,Y,Y,Y,Y,Y,Y,Y,Y,Y,Y,Y,Y]:=rfl
theorem Ma:aJ 17 (Y:Option D)=[Y,Y,Y,Y,Y,Y,Y,Y,Y,Y,Y,Y,Y,Y,Y,Y,Y]:=rfl
theorem L9:aJ 18 (Y:Option D)=[Y,Y,Y,Y,Y,Y,Y,Y,Y,Y,Y,Y,Y,Y,Y,Y,Y,Y]:=rfl
theorem L8:aJ 19 (Y:Option D)=[Y,Y,Y,Y,Y,Y,Y,Y,Y,Y,Y,Y,Y,Y,Y,Y,Y,Y,Y]:=rfl
theorem L6:aJ 20 (Y:Option D)=[Y,Y,Y,Y,Y,Y,Y,Y,Y,Y,Y,Y,Y,Y,Y,Y,Y,Y,Y,Y]:=rfl
theorem ej{α:Type}{T G:List α}{k:Nat}:(T++G)[T.length+k]?=G[k]?:=by rw[gR1 (by lia)];congr 1;lia
theorem dz{α:Type}{T G:List α}:(T++G)[T.length]?=G[0]?:=by rw[gR1 (by lia)];congr 1;lia
theorem DD{S:Sto}{i j:Nat}{xs:List D}(h:S[i]?=Z (.lst xs))(h':S[j]?=Z (.lst [])):gNe (.ref i) (.ref j) S=Z (.bl (!xs.isEmpty),S):=by
 unfold gNe dV;rw[show(60:Nat)=59+1 from rfl,kx];simp only[dH,h,h'];cases xs with
 |nil=>simp[A4]
 |cons x xs=>simp
theorem m6:∀(n:Nat) (lo:Int),gy lo n=(Z7 n).map λi:Nat=>D.int (lo+i)
 |0,lo=>rfl
 |n+1,lo=>by
  rw[gy,m6 n (lo+1),List.range_succ_eq_map,mP1,bm]
  congr 1
  ·simp
  ·apply cB;intro i _;simp only[Function.comp_apply,cC]
   congr 1
   push_cast
   lia
theorem la(n:Nat):gy 0 n=(Z7 n).map λi:Nat=>D.int i:=by
 rw[m6];apply cB;intro i _;simp
theorem jZ{α:Type}{c:List (Nat×List D)}{g:FG}{t:FT}{e:FE}{S:Sto}{f:α->D}{Q:List D×Ev×Sto->Prop}(F:α->D)(P:Ev->Prop)(d:oW S c=true):∀ (xs:List α) (r:Ev),P r ->
  (∀a∈xs,∀r,P r->W (g (f a) r S) λp=>W (t p.1 p.2) λb=>b.1=M/\W (e p.1 b.2) λx=>x.1=F a/\x.2=S/\P p.1) ->
  (∀i,P i->Q (xs.map F,i,S))->W (gg c g t (ea e) (xs.map f) r S) Q
 |[],r,hr,_,h=>by rw[aT,gg];dsimp only;rw[ae d,dt];exact h r hr
 |a::xs,r,hr,hs,h=>by
  rw[mP1,gg];dsimp only;rw[ae d,dk];obtain⟨p,k,⟨b,q,n,⟨x,l,u,o,s⟩⟩⟩:=hs a mS1 r hr;refine⟨p,k,?_⟩;dsimp only;rw[dk];refine⟨b,q,?_⟩;dsimp only;rw[ae n,dk,ea,kl];refine⟨x,l,?_⟩;dsimp only;rw[o,kl];refine jZ F P d xs p.1 s (λa m=>hs a (mC1 _ m)) λi j=>?_;have:=h i j;rw[mP1,<- u]at this;exact this
theorem rL{α:Type}{c:List (Nat×List D)}{g:FG}{t:FT}{e:FE}{S:Sto}{f:α->D}{Q:List D×Ev×Sto->Prop}(k:α->Bool)(F:α->D)(P:Ev->Prop)(d:oW S c=true):∀ (xs:List α) (r:Ev),P r ->
  (∀a∈xs,∀r,P r->W (g (f a) r S) λp=>W (t p.1 p.2) λb=>b.1=k a/\b.2=S/\P p.1/\(k a=M->W (e p.1 S) λx=>x.1=F a/\x.2=S)) ->
  (∀j,P j->Q ((xs.filter k).map F,j,S))->W (gg c g t (ea e) (xs.map f) r S) Q
 |[],r,hr,_,h=>by rw[aT,gg];dsimp only;rw[ae d,dt];exact h r hr
 |a::xs,r,hr,hs,h=>by
  rw[mP1,gg];dsimp only;rw[ae d,dk];obtain⟨p,u,⟨b,w,o,q,s,n⟩⟩:=hs a mS1 r hr;refine⟨p,u,?_⟩;dsimp only;rw[dk];refine⟨b,w,?_⟩;dsimp only;cases hk:k a with
  |true=>
   rw[o,hk,ae O,dk,ea,kl,q];obtain⟨x,v,n,m⟩:=n hk;refine⟨x,v,?_⟩;dsimp only;rw[m,kl];refine rL k F P d xs p.1 s (λa l=>hs a (mC1 _ l)) λj i=>?_;have:=h j i;rw[aX,hk,ae O,mP1,<- n]at this;exact this
  |false=>
   rw[o,hk,ab (by decide),q];refine rL k F P d xs p.1 s (λa l=>hs a (mC1 _ l)) λj i=>?_;have:=h j i;rw[aX,hk,ab (by decide)]at this;exact this
theorem oJ{α:Type}{f:α->Bool}:∀xs:List α,Mi.Bx (xs.map λx=>D.bl (f x))=Z (xs.all f)
 |[]=>rfl
 |x::xs=>by rw[mP1,Mi.Bx,oJ xs];rfl
mutual
theorem yS{n m:Nat}(h:n<=m):∀{d:D},d.und n=M->d.und m=M
 | .non,_=>rfl
 | .bl _,_=>rfl
 | .int _,_=>rfl
 | .str _,_=>rfl
 | .tup xs,q=>by rw[D.und]at q ⊢;exact ia h q
 | .rol xs,q=>by rw[D.und]at q ⊢;exact ia h q
 | .fn _,_=>rfl
 | .ref k,q=>by simp[D.und]at q ⊢;lia
theorem ia{n m:Nat}(h:n<=m):∀{ds:List D},D.unds n ds=M->D.unds m ds=M
 |[],_=>rfl
 |d::ds,q=>by
  rw[D.unds,bA1]at q ⊢;exact⟨yS h q.1,ia h q.2⟩
end
theorem fI{n m:Nat}(h:n<=m):∀{o:Ob},o.und n=M->o.und m=M
 | .lst xs,q=>by rw[Ob.und]at q ⊢;exact ia h q
 | .dct xs,q=>by rw[Ob.und]at q ⊢;exact ia h q
 | .dcT xs,q=>by rw[Ob.und]at q ⊢;exact ia h q
 | .dcF xs,q=>by rw[Ob.und]at q ⊢;exact ia h q
 | .iset _,_=>rfl
 | .tst _,_=>rfl
theorem Ld{k:Nat}{T G:Sto}(h:T.all (Ob.und (T.length+k))=M)(hg:G.all (Ob.und 0)=M):(T++G).all (Ob.und ((T++G).length+k))=M:=by
 rw[cD,bA1];rw[br]at h hg;refine⟨br.mpr λo a=>fI (by rw[lA1];lia) (h o a),br.mpr λo a=>fI (a0 _) (hg o a)⟩
theorem si{n:Nat}{xs:List Int}{S:Sto}{Q:D×Sto->Prop}(h:S[n]?=Z (.iset xs))(q:Q (.int xs.length,S)):W (oh (.ref n) S) Q:=by
 refine W.of ?_ q;unfold oh;simp only[h]
theorem eI{α:Type}{n:Nat}{f:α->D}:∀{xs:List α},(∀x∈xs,(f x).und n=M)->D.unds n (xs.map f)=M
 |[],_=>rfl
 |x::xs,h=>by rw[mP1,D.unds,h x mS1,eI λy a=>h y (mC1 _ a)];rfl
theorem LI{x:Nat}:x+1+1=x+2:=rfl
theorem ML{x:Nat}:x+2+1=x+3:=rfl
theorem MK{x:Nat}:x+3+1=x+4:=rfl
theorem MJ{x:Nat}:x+4+1=x+5:=rfl
theorem MH{x:Nat}:x+5+1=x+6:=rfl
theorem MF{x:Nat}:x+6+1=x+7:=rfl
theorem Mw{x:Nat}:x+1+2=x+3:=rfl
theorem fr{xs:List D}{S:Sto}:dN (.tup xs) S=Z (.int xs.length,S):=rfl
theorem Kj{xs:List D}{S:Sto}:dN (.rol xs) S=Z (.int xs.length,S):=rfl
theorem Jj{S:Sto}:dN (.str "") S=Z (.int 0,S):=rfl
theorem jO{xs:List D}{S:Sto}:dH S (.tup xs)=Z (J,xs):=rfl
theorem Kd{xs:List D}{S:Sto}:dH S (.rol xs)=Z (M,xs):=rfl
theorem DU{xs:List D}{S:Sto}:jE S (.tup xs)=[]:=rfl
theorem Km{xs:List D}{S:Sto}:jE S (.rol xs)=[]:=rfl
theorem ga{n:Nat}{xs:List D}{S:Sto}(h:S[n]?=Z (.lst xs)):dH S (.ref n)=Z (M,xs):=by simp only[dH,h]
theorem rS{n:Nat}{xs:List D}{S:Sto}(h:S[n]?=Z (.lst xs)):jE S (.ref n)=[(n,xs)]:=by simp only[jE,h]
def sW(S:Sto)(d:D)(Q:List D×List (Nat×List D)->Prop):Prop:=W (dH S d) λq=>Q (q.2,jE S d)
theorem kq{xs:List D}{S:Sto}{Q:List D×List (Nat×List D)->Prop}:sW S (.tup xs) Q↔Q (xs,[]):=dt
theorem dW{n:Nat}{xs:List D}{S:Sto}{Q:List D×List (Nat×List D)->Prop}(h:S[n]?=Z (.lst xs))(q:Q (xs,[(n,xs)])):sW S (.ref n) Q:=by
 unfold sW;rw[ga h,rS h,dt];exact q
theorem ma{m:FE}{r:Ev}{S:Sto}{Q:yr×Sto->Prop}:W (gJ m r S) Q↔W (m r S) λp=>sW p.2 p.1 λq=>Q (⟨q.1,q.2⟩,p.2):=by
 unfold gJ;rw[dk];refine⟨λh=>h.mono λp q=>?_,λh=>h.mono λp q=>?_⟩
 ·rw[dk]at q;exact q.mono λz w=>dt.mp w
 ·rw[dk];exact W.mono (show W (dH p.2 p.1) _ from q) λz w=>dt.mpr w
theorem HB{d:D}{S:Sto}{Q:D×Sto->Prop}:W (Mi.gTup d S) Q↔sW S d λq=>Q (.tup q.1,S):=by
 unfold Mi.gTup;rw[kl];exact Iff.rfl
theorem JR{n:Nat}{S:Sto}{Q:D×Sto->Prop}:W (dN (.ref n) S) Q↔sW S (.ref n) λq=>Q (.int q.1.length,S):=by
 unfold dN sW;rw[kl]
def pD(e:Nat×Nat):D:=.tup [.int e.1,.int e.2]
theorem vb{S:Sto}{n:Nat}{a b:Nat×Nat}:kx S (n+2) (pD a) (pD b)=Z (a == b):=by
 obtain⟨a1,a2⟩:=a;obtain⟨b1,b2⟩:=b;rw[kx];have d:∀x y:Nat,kx S (n+1) (.int x) (.int y)=Z ((x:Int) == (y:Int)):=λx y=>rfl;have c:∀x y:Nat,((x:Int) == (y:Int))=(x == y):=λx y=>by
  rw[bJ,beq_iff_eq,beq_iff_eq];lia
 simp[pD,dH,A4,d,c];rfl
theorem wQ{S:Sto}{n:Nat}{e:Nat×Nat}:∀b:List (Nat×Nat),xZ (kx S (n+2)) (pD e) (b.map pD)=Z (b.map λa=>a == e)
 |[]=>rfl
 |a::b=>by rw[mP1,xZ,vb,wQ b];rfl
theorem HA{S:Sto}{n j:Nat}{row:List (Nat×Nat)}{e:Nat×Nat}{Q:D×Sto->Prop}(h:S[n]?=Z (.lst (row.map pD)))(b:row.length<1000)(a:row.findIdx? (· == e)=Z j)(q:Q (.int j,S)):W (AX (.ref n) (pD e) S) Q:=by
 refine W.of ?_ q;unfold AX dV;simp only[h,show(60:Nat)=58+2 from rfl,wQ,oS1,lM1];rw[ae (by lia),List.findIdx?_map];simp[Function.comp_def,a]
theorem gK{f:FN}{o:FE}{a:FA}{r:Ev}{S:Sto}{Q:D×Sto->Prop}(h:W (o r S) λp=>∃n xs,p.1 = .ref n/\p.2[n]?=Z (.lst xs)/\W (a r p.2) λq=>W (f (.ref n::q.1) q.2) Q):W (my f o a r S) Q:=by
 unfold my;rw[dk];refine h.mono ?_;rintro⟨d,b⟩ ⟨n,xs,rfl,e,q⟩;dsimp only at e q ⊢;rw[e];dsimp only;rw[dk];exact q
theorem qp:∀{k n i:Nat},i<k->(jY n k)[i]?=Z (.ref (n+i))
 |k+1,n,0,_=>rfl
 |k+1,n,i+1,h=>by rw[jY,gC1,qp (Nat.lt_of_succ_lt_succ h),show n+1+i=n+(i+1) by lia]
theorem k0:∀k n:Nat,(jY n k).length=k
 |0,_=>rfl
 |k+1,n=>by rw[jY,lC1,k0]
def tot(E:List (List (Nat×Nat))):Nat:=(E.map List.length).sum
def nmD(rs:List Nat):List D:=rs.map λi:Nat=>D.int i
theorem d4(rs:List Nat):(nmD rs).length=rs.length:=by simp[nmD]
theorem fq(rs:List Nat):D.unds 0 (nmD rs)=M:=eI λ_ _=>rfl
theorem rp{S:Sto}{n:Nat}{x:Nat}:∀cs:List Nat,BK (kx S (n+1)) (.int x) (nmD cs)=Z (cs.contains x)
 |[]=>rfl
 |c::cs=>by
  have b:kx S (n+1) (.int c) (.int x)=Z ((c:Int) == (x:Int)):=rfl;have a:((c:Int) == (x:Int))=(x == c):=by
   rw[bJ,beq_iff_eq,beq_iff_eq];lia
  have ih:=rp (S:=S) (n:=n) (x:=x) cs;rw[nmD,mP1,BK,b,a];rw[nmD]at ih;rw[ih,bY];rfl
theorem wF{S:Sto}{x:Nat}{cs:List Nat}:mU (.int x) (.tup (nmD cs)) S=Z (.bl (cs.contains x),S):=by
 simp only[mU,u7,HN,dH,oS1,dV,show(60:Nat)=59+1 from rfl,rp,oP1]
theorem AG{κ:Type}[DecidableEq κ]{k:κ}:dF ([]:List (κ×D)) k=Y:=rfl
theorem fF{κ:Type}[DecidableEq κ]{k a:κ}{d:D}{r:List (κ×D)}:dF ((a,d)::r) k=if a=k then Z d else dF r k:=by
 unfold dF;rw[aU];by_cases h:a=k
 ·simp[h]
 ·simp[h]
theorem nY{κ:Type}[DecidableEq κ]{k:κ}{b:List (κ×D)}:∀{a:List (κ×D)},dF (a++b) k=(dF a k).or (dF b k)
 |[]=>rfl
 |(x,d)::a=>by
  rw[ba,fF,fF,nY (a:=a)];split<;>rfl
theorem jU{κ:Type}[DecidableEq κ]{k:κ}:∀{a:List (κ×D)},(a.any λp=>decide (p.1=k))=J->dF a k=Y
 |[],_=>rfl
 |(x,d)::a,h=>by
  simp only[aV,Bool.or_eq_false_iff,decide_eq_false_iff_not]at h;rw[fF,ab h.1];exact jU h.2
theorem lV{κ:Type}[DecidableEq κ]{k k':κ}{v:D}:∀{a:List (κ×D)},(a.any λp=>decide (p.1=k))=M->dF (a.map λp=>if p.1=k then(p.1,v)else p) k'=if k'=k then Z v else dF a k'
 |[],h=>by simp at h
 |(x,d)::a,h=>by
  rw[mP1];by_cases f:x=k
  ·subst f;rw[ae (show(x,d).1=x from rfl)];rw[fF,fF];by_cases b:k'=x
   ·subst b;simp
   ·rw[ab (Ne.symm b),ab (Ne.symm b),ab b];by_cases g:(a.any λp=>decide (p.1=x))=M
    ·rw[lV g,ab b]
    ·have:(a.map fun p=>if p.1=x then (p.1,v) else p)=a:=by
      have e:(a.any λp=>decide (p.1=x))=J:=cE.mpr g;rw[List.any_eq_false]at e
      conv=>rhs;rw[<- List.map_id a]
      apply cB;intro p i;have:=e p i;simp at this;simp[this]
     rw[this]
  ·simp only[aV,aa f,Bool.false_or]at h;rw[ab (show¬ (x,d).1=k from f)];rw[fF,fF,lV h];by_cases c:x=k'
   ·subst c;simp[f]
   ·simp[c]
theorem jv{κ:Type}[DecidableEq κ]{k k':κ}{v:D}{a:List (κ×D)}:dF (gO a k v) k'=if k'=k then Z v else dF a k':=by
 unfold gO;split
 ·rename_i h;exact lV h
 ·rename_i h;have h':(a.any λp=>decide (p.1=k))=J:=cE.mpr h;rw[nY,fF,AG];by_cases b:k'=k
  ·subst b;rw[jU h',ae O];rfl
  ·rw[ab (Ne.symm b),ab b];cases dF a k'<;>rfl
theorem qr{κ:Type}[DecidableEq κ]{k:κ}{v:D}{a:List (κ×D)}:(gO a k v).length<=a.length+1:=by
 unfold gO;split
 ·rw[lM1];lia
 ·rw[lA1];simp
theorem Fu{κ:Type}[DecidableEq κ]{k:κ}{v:D}{a:List (κ×D)}:gO a k v≠[]:=by
 unfold gO;split
 ·rename_i h;intro z;cases a with
  |nil=>simp at h
  |cons x xs=>simp at z
 ·simp
def dO(F:List (TK×D)):Ob:=if F=[]then .dct []else .dcT F
theorem vt{U:Sto}{n:Nat}{F:List (TK×D)}{key v:D}{k:TK}{Q:D×Sto->Prop}(h:U[n]?=Z (dO F))(hk:iG key=Z k)(b:F.length<1000)(q:Q (.non,U.set n (dO (gO F k v)))):W (ja (.ref n) key v U) Q:=by
 refine W.of ?_ q;unfold dO at h ⊢;rw[ab Fu];by_cases a:F=[]
 ·subst a;rw[ae O]at h;simp only[ja,h,hk];rfl
 ·rw[ab a]at h;simp only[ja,h,hk,oS1];rw[ae (nL1 b (by decide))]
theorem BB{U:Sto}{n:Nat}{F:List (TK×D)}{key v:D}{k:TK}{Q:D×Sto->Prop}(h:U[n]?=Z (dO F))(hk:iG key=Z k)(hv:dF F k=Z v)(q:Q (v,U)):W (dv (.ref n) key U) Q:=by
 refine W.of ?_ q;unfold dO at h;by_cases a:F=[]
 ·subst a;cases hv
 ·rw[ab a]at h;simp only[dv,h,hk,oS1,hv,oP1]
def HK(e:Nat×Nat):TK:=.tup [.int e.1,.int e.2]
theorem Bz{U:Sto}{n i:Nat}{xs:List D}{x:D}{Q:D×Sto->Prop}(h:U[n]?=Z (.lst xs))(hx:xs[i]?=Z x)(hb:i<1000)(q:Q (x,U.set n (.lst (xs.eraseIdx i)))):W (xX (.ref n) (.int i) U) Q:=by
 have a:=(gE1.mp hx).1;refine W.of ?_ q;simp only[xX,h];rw[ae ⟨by lia,by lia⟩];simp only[xT,ae (show(0:Int)<=i by lia)];rw[ae (by lia)];simp[hx]
theorem rz{d:D}{S G:Sto}(hd:d.und 0=M)(a:S.all (Ob.und S.length)=M):gc S.length (d,S++G)=(d,S):=by
 unfold gc;dsimp only;rw[List.take_left,ae (by rw[kJ hd,a];rfl)]
theorem zp_map{α:Type}{f g:α->D}:∀l:List α,ux (l.map f) (l.map g)=l.map λx=>D.tup [f x,g x]
 |[]=>rfl
 |a::l=>by rw[mP1,mP1,ux,zp_map l];rfl
theorem oK{m:FA}{r:Ev}{S:Sto}{xs:List D}{Q:yr×Sto->Prop}(hm:m r S=Z ([.tup xs],S))(q:Q (⟨sv 0 xs,[]⟩,S)):W (oa m r S) Q:=by
 refine W.of (x:=(⟨sv 0 xs,[]⟩,S)) ?_ q;simp only[oa,hm,oS1,jO,DU]
theorem A7{α:Type}{f:α->D}:∀(l:List α) (k:Nat),sv k (l.map f)=(l.zipIdx k).map λp=>D.tup [.int (p.2:Nat),f p.1]
 |[],_=>rfl
 |a::l,k=>by rw[mP1,sv,A7 l (k+1),bD];rfl
theorem xb{α:Type}{l:List α}{p:α×Nat}(h:p∈l.zipIdx):l[p.2]?=Z p.1:=by
 have:=cF.mp h;exact this
mutual
theorem zp{n:Nat}:∀{d:D},d.und 0=M->d.sh n=d
 | .non,_=>rfl
 | .bl _,_=>rfl
 | .int _,_=>rfl
 | .str _,_=>rfl
 | .tup xs,h=>by rw[D.und]at h;rw[D.sh,kN h]
 | .rol xs,h=>by rw[D.und]at h;rw[D.sh,kN h]
 | .fn _,_=>rfl
 | .ref k,h=>by simp[D.und]at h
theorem kN{n:Nat}:∀{ds:List D},D.unds 0 ds=M->D.shs n ds=ds
 |[],_=>rfl
 |d::ds,h=>by
  rw[D.unds,bA1]at h;rw[D.shs,zp h.1,kN h.2]
end
theorem JI{n:Nat}{f:FN}{ds:List D}{S:Sto}{Q:D×Sto->Prop}(hn:ds.length=n)(b:D.unds 0 ds=M)(h:W (f ds []) λp=>∃xs,p=(.ref 0,[.lst xs])/\D.unds 0 xs=M/\Q (.ref S.length,S++[.lst xs])):W (dn n f ds S) Q:=by
 obtain⟨p,e,xs,rfl,d,q⟩:=h;refine⟨_,oB e hn b O,?_⟩;have c:(D.ref 0).sh S.length = .ref S.length:=rfl;have a:[Ob.lst xs].map (Ob.sh S.length)=[Ob.lst xs]:=by rw[mP1,aT,Ob.sh,kN d]
 rw[c,a];exact q
theorem Dv(xs:List Nat):jA (nmD xs)=Z (xs.map λ(r:Nat)=>(r:Int)):=by
 induction xs with
 |nil=>rfl
 |cons x xs ih=>
  show(jA (nmD xs)).map _=_;rw[ih];rfl
end Mi
end
local macro_rules | `(tactic| walk_at"w") => `(tactic| simp only[Mi.dt, Mi.kB, Mi.ite_and', Mi.dk, Mi.kl, Mi.pY, Mi.dw, Mi.dE, Mi.eB, Mi.dX, Mi.eK, Mi.je, Mi.mN, Mi.di, Mi.dj, Mi.m2, Mi.m1, Mi.mV, Mi.mC, Mi.sf, Mi.BA, Mi.mB, Mi.rf, Mi.mOr, Mi.gz, Mi.iF, Mi.pw, Mi.HL, Mi.fj, Mi.mTr, Mi.E7, Mi.gN, Mi.gT, Mi.fu, Mi.jf, Mi.gS, Mi.b1, Mi.b2, Mi.b3, Mi.hU, Mi.e6, Mi.lH, Mi.w5, Mi.JT, Mi.Iv, Mi.Kf, Mi.eR, Mi.lZ, Mi.HD, Mi.BG, Mi.gSub, Mi.iV, Mi.oY, Mi.DL, Mi.DE, Mi.DG, Mi.DH, Mi.DC, Mi.Mv, Mi.Mu, Mi.LG, Mi.Mt, Mi.Ms, Mi.Mr, Mi.Mq, true_and, Mi.ej, Mi.dz, bx, lA1, cG, gC1, List.getElem?_nil, cH, cm, lC1, aW, mP1, aT, Mi.Mh, Mi.Mg, Mi.L7, Mi.L5, Mi.L3, Mi.L1, Mi.L0, Mi.LZ, Mi.KG, Mi.Is, cI, ba, aG, cJ, Nat.reduceSub, cK, Option.join_none, oP1, Option.map_none, oS1, Option.bind_none, if_true, if_false, bF1, bU, cg, ite_true, ite_false, reduceIte, decide_true, decide_false, Mi.LI, Mi.Mw, Mi.fr, Mi.jO, Mi.ma, Mi.HB, Mi.JR])
noncomputable section
namespace Law
open PySem PySem.Spec PyProof.Rows L2 Mi
def top (i:Nat):dg:=PySem.Challenge.pw_ringmeet_k37_papers_of_anything.main.body.getD i (.Pass ⟨0,0,0,0⟩)
abbrev BL:List Str:=["all","any","bool","enumerate","int","isinstance","len","list","max","min","range","set","sorted","str","tuple","zip"]
section
variable{P:c5}{w:c7}{K:Fg1}{mg:Str->Option cY}{base h:de}(X:K.In h) (G:h.Ns c8 mg) (B:Blt BL mg)
include X G B
abbrev nD:dg:=top 1
def kA:FS:=(dX (iF (iE .int (mV 0)) (pw (iE .bool (mV 0)))))
def eU:FN:=hU 1 kA
theorem sS {f:c0}(F:dY K "is_whole" nD f):
  Own P w K mg base 1 "is_whole" 1 eU:=xq ["thing"] X G F λa=>
 (qG (qU (gr (ii xv) (fZ (pZ (ii xv))))))
abbrev j8:dg:=top 3
def iq:FS:=(dX (iF (iE .tuple (mV 0)) (m2 (b2 gEq) (mN (b1 dN) (di (mV 0) dj)) (mV 1))))
def d5:FN:=hU 2 iq
theorem nR {f:c0}(F:dY K "is_tuple_of" j8 f):
  Own P w K mg base 1 "is_tuple_of" 2 d5:=xq ["thing","many"] X G F λa=>
 (qG (qU (gr (ii xv) (fZ (ce (oq iC) (cn d9 (a1 xv)) xv)))))
abbrev vU:dg:=top 7
def lR:FS:=(dw (dE (mN (b1 gTup) (di (eF 2 [2] (gJ (mV 5)) (gT 2 (fu (gN 0) (fu (gN 1) jf))) fj (ea (dJ (di (m2 (b2 dv) (mV 2) (mV 0)) (di (mV 1) dj))))) dj)) (gN 6))
  (eK (my (b2 gB) (mV 3) (di (dJ (di (m2 (b2 dv) (mV 2) (mV 4)) (di (m2 (b2 dv) (mV 1) (mV 4)) (di (mV 6) dj)))) dj))))
def sd:FS:=(dw (dE (eG dj) (gN 3))
  (dw (eR (oa (di (mV 0) dj)) (gT 2 (fu (gN 4) (fu (gN 5) jf))) lR)
  (dX (mV 3))))
def ge:FN:=hU 7 sd
theorem zW {f:c0}(F:dY K "looks" vU f):
  Own P w K mg base 1 "looks" 3 ge:=xq ["web","signs","colours","found","room","doors","led_to"] X G F λa=>
 (qF (sq (dS qN)) (qF (fo (ie (a1 xv)) (tg2 gq gq) (qF (sq (cz fP (a1 (fk ["there","back"] (qd xv) ⟨(tg2 gq gq),eo,(dy (a2 (jq xv xv) xv))⟩)))) (qG (lq ap xv (a1 (dy (a3 (jq xv xv) (jq xv xv) xv))))))) (qG (qU xv))))
abbrev nC:dg:=top 10
def k6:FS:=(eB (mB (m2 (b2 jW) (mV 2) (mV 1))) (dE (mN (b1 pI) (di (mV 1) dj)) (gS (b3 ja) (mV 1) (mV 2))) je)
def oE:FS:=(dw (dE ik (gN 1))
  (dw (eR (gJ (mV 0)) (gN 2) k6)
  (dX (mN (b1 gTup) (di (eF 1 [1] (gJ (mV 0)) (gN 0) fj (ea (m2 (b2 dv) (mV 1) (mV 0)))) dj)))))
def fU:FN:=hU 3 oE
theorem sR {f:c0}(F:dY K "numbered" nC f):
  Own P w K mg base 1 "numbered" 1 fU:=xq ["things","numbers","thing"] X G F λa=>
 (qF (sq ix) (qF (fo (qd xv) gq (qG (qV (ct (oq zZ) xv xv (by with_unfolding_all rfl)) (qG (qR (cn Hq (a1 xv)) (kI xv xv (nB a.units)))) qQ))) (qG (qU (cz fP (a1 (fk ["thing"] (qd xv) ⟨gq,eo,(jq xv xv)⟩)))))))
abbrev kQ:dg:=top 11
def i3:FS:=(dX (m2 (b2 gEq) (mN (b1 oh) (di (mN (b1 gP) (di (mV 0) dj)) dj)) (mN (b1 dN) (di (mV 0) dj))))
def eE:FN:=hU 1 i3
theorem oR {f:c0}(F:dY K "all_unlike" kQ f):
  Own P w K mg base 1 "all_unlike" 1 eE:=xq ["colours"] X G F λa=>
 (qG (qU (ce (oq iC) (cn vn (a1 (cz (vk a) (a1 xv)))) (cn d9 (a1 xv)))))
abbrev j9:dg:=top 13
def kh:FS:=(dX (mN (b1 gTup) (di (eF 1 [1] (ss (di (mN (b1 dN) (di (mV 0) dj)) dj)) (gN 0) fj (ea (HL (mB (m2 (b2 mU) (mV 0) (mV 1))) (mC (D.int 1)) (mC (D.int 0))))) dj)))
def ei:FN:=hU 2 kh
theorem nS {f:c0}(F:dY K "chalk_signs" j9 f):
  Own P w K mg base 1 "chalk_signs" 2 ei:=xq ["web","chalk"] X G F λa=>
 (qG (qU (cz fP (a1 (fk ["room"] (ir (a1 (cn d9 (a1 xv)))) ⟨gq,eo,(uB (ct (oq sZ) xv xv (by with_unfolding_all rfl)) qK qK)⟩)))))
abbrev mj:dg:=top 21
def jH:FS:=(dw (dE (mC (D.int 0)) (gN 2))
  (dw (eB (mB (m2 (b2 gLt) (mV 1) (mN (b1 dN) (di (mV 0) dj)))) (dE (m2 (b2 dv) (mV 0) (mV 1)) (gN 2)) je)
  (dw (dE (m2 (b2 j1) (m2 (b2 oe) (mC (D.int 10)) (mC (D.int 60))) (m2 (b2 oe) (mC (D.int 10)) (mC (D.int 30)))) (gN 3))
  (dX (eG (di (m2 (b2 j1) (m2 (b2 ls) (mV 2) (mV 3)) (mN (b1 oY) (di (m2 (b2 (iV λi j=>decide (j<=i))) (mV 2) (m2 (b2 oe) (mC (D.int 10)) (mC (D.int 18)))) dj))) (di (m2 (b2 ls) (m2 (b2 ee) (m2 (b2 ee) (m2 (b2 ls) (mV 2) (mC (D.int 2305843009213693951))) (m2 (b2 j1) (mC (D.int 7919)) (mV 1))) (mC (D.int 5))) (mC (D.int 2305843009213693951))) (di (mC (D.int 0)) dj))))))))
def fy:FN:=hU 4 jH
theorem qL {f:c0}(F:dY K "_law_hand" mj f):
  Own P w K mg base 1 "_law_hand" 2 fy:=xq ["_law_script","_law_k","_law_cell","_law_far"] X G F λa=>
 (qF (sq qK) (qF (qV (ct (oq i8) xv (cn d9 (a1 xv))) (qG (sq (jq xv xv))) qQ) (qF (sq (qI k9 (qI wh qK qK) (qI wh qK qK))) (qG (qU (dS (a3 (qI k9 (qI mw xv xv) (cz ug (a1 (ce KQ xv (qI wh qK qK))))) (qI mw (qI eu (qI eu (qI mw xv qK) (qI k9 qK xv)) qK) qK) qK)))))))
abbrev mh:dg:=top 22
def jG:FS:=(dw (eB (mB (m2 (b2 (iV fun i j=>decide (j<i))) (m2 (b2 dv) (mV 0) (mC (D.int 0))) (mC (D.int 0)))) (dw (dE (m2 (b2 ls) (m2 (b2 dv) (mV 0) (mC (D.int 0))) (mV 1)) (gN 2))
  (dw (dE (m2 (b2 rE) (m2 (b2 dv) (mV 0) (mC (D.int 0))) (mV 1)) (gS (b3 ja) (mV 0) (mC (D.int 0))))
  (dX (mV 2)))) je)
  (dw (dE (m2 (b2 ee) (m2 (b2 dv) (mV 0) (mC (D.int 2))) (mC (D.int 1))) (gS (b3 ja) (mV 0) (mC (D.int 2))))
  (dw (dE (m2 (b2 ls) (m2 (b2 j1) (m2 (b2 ee) (m2 (b2 ee) (m2 (b2 dv) (mV 0) (mC (D.int 1))) (m2 (b2 j1) (m2 (b2 j1) (mC (D.int 9973)) (m2 (b2 dv) (mV 0) (mC (D.int 2)))) (m2 (b2 dv) (mV 0) (mC (D.int 2))))) (mC (D.int 17))) (mC (D.int 69621))) (mC (D.int 2305843009213693921))) (gN 3))
  (dw (dE (m2 (b2 ls) (m2 (b2 j1) (mV 3) (m2 (b2 ee) (m2 (b2 ls) (mV 3) (mC (D.int 999983))) (m2 (b2 j1) (mC (D.int 7919)) (m2 (b2 dv) (mV 0) (mC (D.int 2)))))) (mC (D.int 2305843009213693907))) (gN 3))
  (dX (m2 (b2 ls) (m2 (b2 ee) (m2 (b2 rE) (mV 3) (mC (D.int 101))) (m2 (b2 rE) (mV 3) (mC (D.int 1000003)))) (mV 1)))))))
def dq:FN:=hU 4 jG
theorem qC {f:c0}(F:dY K "_law_take" mh f):
  Own P w K mg base 1 "_law_take" 2 dq:=xq ["_law_hand_here","_law_many","_law_digit","_law_mixed"] X G F λa=>
 (qF (qV (ct KP (jq xv qK) qK) (qF (sq (qI mw (jq xv qK) xv)) (qF (qR (qI wj (jq xv qK) xv) (kI xv qK (nB a.units))) (qG (qU xv)))) qQ) (qF (qR (qI eu (jq xv qK) qK) (kI xv qK (nB a.units))) (qF (sq (qI mw (qI k9 (qI eu (qI eu (jq xv qK) (qI k9 (qI k9 qK (jq xv qK)) (jq xv qK))) qK) qK) qK)) (qF (sq (qI mw (qI k9 xv (qI eu (qI mw xv qK) (qI k9 qK (jq xv qK)))) qK)) (qG (qU (qI mw (qI eu (qI wj xv qK) (qI wj xv qK)) xv)))))))
abbrev kS:dg:=top 28
def i4:FS:=(dX (iF (iE .int (mV 0)) (pw (iE .bool (mV 0)))))
def dP:FN:=hU 1 i4
theorem oS {f:c0}(F:dY K "_law_whole" kS f):
  Own P w K mg base 1 "_law_whole" 1 dP:=xq ["_law_thing"] X G F λa=>
 (qG (qU (gr (ii xv) (fZ (pZ (ii xv))))))
abbrev kT:dg:=top 31
def lB:FS:=(dX (eF 1 [1,2] (ss (di (mN (b1 dN) (di (mV 0) dj)) dj)) (gN 0) fj (ea (m2 (b2 ee) (mN (b1 oY) (di (m2 (b2 mU) (mV 0) (m2 (b2 dv) (mV 1) (mC (D.int 1)))) dj)) (m2 (b2 j1) (mC (D.int 2)) (mN (b1 oY) (di (iF (mV 2) (m2 (b2 mU) (mV 0) (m2 (b2 dv) (mV 1) (mC (D.int 0))))) dj)))))))
def fc:FN:=hU 3 lB
theorem oT {f:c0}(F:dY K "_law_signs" kT f):
  Own P w K mg base 1 "_law_signs" 3 fc:=xq ["_law_web_here","_law_standing_here","_law_walkers"] X G F λa=>
 (qG (qU (fk ["_law_room"] (ir (a1 (cn d9 (a1 xv)))) ⟨gq,eo,(qI eu (cz ug (a1 (ce (oq sZ) xv (jq xv qK) (by with_unfolding_all rfl)))) (qI k9 qK (cz ug (a1 (gr xv (fZ (ce (oq sZ) xv (jq xv qK) (by with_unfolding_all rfl))))))))⟩)))
abbrev nE:dg:=top 2
def oF:FS:=(dX (iF (mN (dn 1 eU) (di (mV 0) dj)) (GL (b2 (iV λi j=>decide (i<=j))) (b2 gLt) (mC (D.int 0)) (mV 0) (mV 1))))
def gp:FN:=hU 2 oF
theorem sT {f:c0}(F:dY K "is_below" nE f)(a:Own P w K mg base 1 "is_whole" 1 eU):
  Own P w K mg base 2 "is_below" 2 gp:=xq ["thing","bound"] X G F λb=>
 (qG (qU (gr (wn a (a1 xv)) (fZ (xf IR (oq i8) qK xv xv)))))
abbrev md:dg:=top 4
def mJ:FS:=(dX (iF (mN (dn 2 d5) (di (mV 0) (di (mV 2) dj))) (iF (iE .str (m2 (b2 dv) (mV 0) (mC (D.int 0)))) (m2 (b2 gEq) (m2 (b2 dv) (mV 0) (mC (D.int 0))) (mV 1)))))
def fX:FN:=hU 3 mJ
theorem qy {f:c0}(F:dY K "is_headed" md f)(a:Own P w K mg base 1 "is_tuple_of" 2 d5):
  Own P w K mg base 2 "is_headed" 3 fX:=xq ["thing","word","many"] X G F λb=>
 (qG (qU (gr (wn a (a2 xv xv)) (gr (ii (jq xv qK)) (fZ (ce (oq iC) (jq xv qK) xv))))))
abbrev jk:dg:=top 6
def hR:FS:=(dw (eB (mOr (gz (mTr (mN (dn 2 d5) (di (mV 2) (di (mN (b1 dN) (di (mV 0) dj)) dj))))) (gz (mTr (mN (b1 rG) (di (eF 1 [] (gJ (mV 2)) (gN 0) fj (ea (mN (dn 1 eU) (di (mV 0) dj)))) dj))))) (dX (mC (D.bl false))) je)
  (dX (m2 (b2 gEq) (mN (b1 jD) (di (mN (dn 3 ge) (di (mV 0) (di (mV 1) (di (mV 2) dj)))) dj)) (mN (b1 oh) (di (mN (b1 gP) (di (mV 2) dj)) dj)))))
def d7:FN:=hU 3 hR
theorem mQ {f:c0}(F:dY K "is_colouring" jk f)(d:Own P w K mg base 1 "is_tuple_of" 2 d5)(c:Own P w K mg base 1 "is_whole" 1 eU)(b:Own P w K mg base 1 "looks" 3 ge):
  Own P w K mg base 2 "is_colouring" 3 d7:=xq ["web","signs","thing"] X G F λa=>
 (qF (qV (iw (gi (eX (ed (wn d (a2 xv (cn d9 (a1 xv)))))) (gM (eX (ed (cn (EN O) (a1 (fk ["number"] (qd xv) ⟨gq,eo,(wn c (a1 xv))⟩)))))))) (qG (qU eH)) qQ) (qG (qU (ce (oq iC) (yE O a.units O (bz B) O (bz B) (wn b (a3 xv xv xv))) (cn vn (a1 (cz (vk a) (a1 xv))))))))
abbrev pe:dg:=top 9
def ms:FT:=(mB (m2 (b2 gNe) (mV 4) (mV 3)))
def mr:FS:=(dw (dE (mV 4) (gN 3))
  (dE (tE 2 "numbered" (dn 1 fU) (di (mN (dn 3 ge) (di (mV 0) (di (mV 1) (di (mV 3) dj)))) dj)) (gN 4)))
def pX:FS:=(dw (dE (mN (b1 gTup) (di (eF 1 [] (gJ (mV 0)) (gN 0) fj (ea (mC (D.int 0)))) dj)) (gN 3))
  (dw (dE (tE 2 "numbered" (dn 1 fU) (di (mN (dn 3 ge) (di (mV 0) (di (mV 1) (di (mV 3) dj)))) dj)) (gN 4))
  (dw (uo ms mr 100000)
  (dX (mV 3)))))
def iD:FN:=hU 5 pX
theorem uT {f:c0}(F:dY K "refined" pe f)(b:Own P w K mg base 1 "looks" 3 ge)(a:Own P w K mg base 1 "numbered" 1 fU):
  Own P w K mg base 2 "refined" 3 iD:=xq ["web","signs","numbering","colours","finer"] X G F λc=>
 (qF (sq (cz fP (a1 (fk ["room"] (qd xv) ⟨gq,eo,qK⟩)))) (qF (sq (pc 2 a c (by first|decide|omega) rfl (by first|exact Or.inl rfl|exact Or.inr rfl) (a1 (wn b (a3 xv xv xv))))) (qF (lK 100000 PassesOwn.never (ct (oq oX) xv xv) (qF (sq xv) (qG (sq (pc 2 a c (by first|decide|omega) rfl (by first|exact Or.inl rfl|exact Or.inr rfl) (a1 (wn b (a3 xv xv xv)))))))) (qG (qU xv)))))
abbrev mf:dg:=top 14
def mL:FS:=(dw (dE (mV 1) (gT 2 (fu (gN 2) (fu (gN 3) jf))))
  (dw (dE (mN (dn 2 ei) (di (mV 0) (di (mV 3) dj))) (gN 4))
  (dX (mN (b1 gTup) (di (eF 2 [2] (oa (di (mV 4) dj)) (gT 2 (fu (gN 0) (fu (gN 1) jf))) fj (ea (HL (mB (m2 (b2 mU) (mV 0) (mV 2))) (m2 (b2 ee) (mV 1) (mC (D.int 2))) (mV 1)))) dj)))))
def fx:FN:=hU 5 mL
theorem qB {f:c0}(F:dY K "all_signs" mf f)(a:Own P w K mg base 1 "chalk_signs" 2 ei):
  Own P w K mg base 2 "all_signs" 2 fx:=xq ["web","standing","rooms","chalk","signs"] X G F λb=>
 (qF (qR xv (tg2 gq gq)) (qF (sq (wn a (a2 xv xv))) (qG (qU (cz fP (a1 (fk ["room","sign"] (ie (a1 xv)) ⟨(tg2 gq gq),eo,(uB (ct (oq sZ) xv xv (by with_unfolding_all rfl)) (qI eu xv qK) xv)⟩)))))))
abbrev ka:dg:=top 23
def gI:FT:=(mB (m2 (b2 gNe) (mV 4) (eG dj)))
def gH:FS:=(eK (my (b2 gB) (mV 5) (di (my (b2 xX) (mV 4) (di (mN (dn 2 dq) (di (mV 0) (di (mN (b1 dN) (di (mV 4) dj)) dj))) dj)) dj)))
def gF:FS:=(dw (dE (dJ (di (mN (b1 rB) (di (mV 3) dj)) (di (eG dj) dj))) (gT 2 (fu (gN 4) (fu (gN 5) jf))))
  (dw (uo gI gH 100000)
  (eK (my (b2 gB) (mV 2) (di (mV 5) dj)))))
def gE:FS:=(eK (my (b2 gB) (nW (mV 6) (mV 9) (eG dj)) (di (dJ (di (mV 7) (di (mV 8) dj))) dj)))
def i7:FS:=(eR (oa (di (mV 5) dj)) (gT 2 (fu (gN 8) (fu (gN 9) jf))) gE)
def kj:FS:=(dw (dE (eG dj) (gN 2))
  (dw (eR (gJ (mV 1)) (gN 3) gF)
  (dw (dE ik (gN 6))
  (dw (eR (oa (di (mV 2) dj)) (gT 2 (fu (gN 7) (fu (gN 5) jf))) i7)
  (dX (mN (b1 gTup) (di (eF 2 [6] (oa (di (mV 2) dj)) (gT 2 (fu (gN 0) (fu (gN 1) jf))) fj (ea (mN (b1 gTup) (di (eF 2 [2,0] (oa (di (mV 1) dj)) (gT 2 (fu (gN 0) (fu (gN 1) jf))) fj (ea (m2 (b2 dv) (m2 (b2 dv) (mV 2) (mV 1)) (mN (b1 oY) (di (m2 (b2 gEq) (m2 (b2 dv) (m2 (b2 dv) (mV 2) (mV 1)) (mC (D.int 0))) (dJ (di (mV 3) (di (mV 0) dj)))) dj))))) dj)))) dj)))))))
def fM:FN:=hU 10 kj
theorem nT {f:c0}(F:dY K "_law_doored" ka f)(a:Own P w K mg base 1 "_law_take" 2 dq):
  Own P w K mg base 2 "_law_doored" 2 fM:=xq ["_law_hand_here","_law_ends","_law_rows","_law_some","_law_left","_law_row","_law_places","_law_room","_law_door","_law_way"] X G F λb=>
 (qF (sq (dS qN)) (qF (fo (qd xv) gq (qF (kG 4 5 O (kd O) O O (by decide) O O (a2 (cz vm (a1 xv)) (dS qN))) (qF (lK 100000 PassesOwn.never (ct (oq oX) xv (dS qN)) (qG (lq ap xv (a1 (qe PySem.F.slot_list_pop PySem.F.type_list_pop Ef xv (a1 (wn a (a2 xv (cn d9 (a1 xv)))))))))) (qG (lq ap xv (a1 xv)))))) (qF (sq ix) (qF (fo (ie (a1 xv)) (tg2 gq gq) (qG (fo (ie (a1 xv)) (tg2 gq gq) (qG (lq ap (BV xv xv (dS qN)) (a1 (dy (a2 xv xv)))))))) (qG (qU (cz fP (a1 (fk ["_law_room","_law_row"] (ie (a1 xv)) ⟨(tg2 gq gq),eo,(cz fP (a1 (fk ["_law_door","_law_way"] (ie (a1 xv)) ⟨(tg2 gq gq),eo,(jq (jq xv xv) (cz ug (a1 (ce (oq iC) (jq (jq xv xv) qK) (dy (a2 xv xv))))))⟩)))⟩)))))))))
abbrev kU:dg:=top 25
def lC:FS:=(dw (dE (xM (di (mV 1) dj)) (gN 2))
  (dX (eF 1 [2,0] (ss (di (mV 1) dj)) (gN 0) fj (ea (my (b2 xX) (mV 1) (di (mN (dn 2 dq) (di (mV 2) (di (mN (b1 dN) (di (mV 1) dj)) dj))) dj))))))
def fE:FN:=hU 3 lC
theorem oU {f:c0}(F:dY K "_law_order" kU f)(a:Own P w K mg base 1 "_law_take" 2 dq):
  Own P w K mg base 2 "_law_order" 2 fE:=xq ["_law_hand_here","_law_many","_law_left"] X G F λb=>
 (qF (sq (nl O O (bz B) O (bz B) (a1 xv))) (qG (qU (fk ["_law_k"] (ir (a1 xv)) ⟨gq,eo,(qe PySem.F.slot_list_pop PySem.F.type_list_pop Ef xv (a1 (wn a (a2 xv (cn d9 (a1 xv))))))⟩))))
abbrev ml:dg:=top 29
def io:FS:=(eB (mB (m2 (b2 gEq) (m2 (b2 dv) (mV 2) (mV 3)) (m2 (b2 dv) (mV 2) (mV 5)))) (dw (eB (mOr (mB (m2 (b2 gNe) (mN (b1 dN) (di (mV 4) dj)) (mN (b1 dN) (di (mV 6) dj)))) (mB (m2 (b2 gNe) (m2 (b2 dv) (mV 1) (mV 3)) (m2 (b2 dv) (mV 1) (mV 5))))) (dX (mC (D.bl false))) je)
  (eB (mTr (mN (b1 DM) (di (eF 2 [2] (Js (di (mV 4) (di (mV 6) dj))) (gT 2 (fu (gN 0) (fu (gN 1) jf))) fj (ea (Ax (m2 (b2 gNe) (m2 (b2 dv) (mV 2) (m2 (b2 dv) (mV 0) (mC (D.int 0)))) (m2 (b2 dv) (mV 2) (m2 (b2 dv) (mV 1) (mC (D.int 0))))) (m2 (b2 gNe) (m2 (b2 dv) (mV 0) (mC (D.int 1))) (m2 (b2 dv) (mV 1) (mC (D.int 1))))))) dj))) (dX (mC (D.bl J))) je)) je)
def gt:FS:=(eR (oa (di (mV 0) dj)) (gT 2 (fu (gN 5) (fu (gN 6) jf))) io)
def jI:FS:=(dw (eB (mOr (gz (mTr (iE .tuple (mV 2)))) (mOr (mB (m2 (b2 gNe) (mN (b1 dN) (di (mV 2) dj)) (mN (b1 dN) (di (mV 0) dj)))) (gz (mTr (mN (b1 rG) (di (eF 1 [] (gJ (mV 2)) (gN 0) fj (ea (mN (dn 1 dP) (di (mV 0) dj)))) dj)))))) (dX (mC (D.bl false))) je)
  (dw (eR (oa (di (mV 0) dj)) (gT 2 (fu (gN 3) (fu (gN 4) jf))) gt)
  (dX (mC (D.bl M)))))
def et:FN:=hU 7 jI
theorem qM {f:c0}(F:dY K "_law_fits" ml f)(a:Own P w K mg base 1 "_law_whole" 1 dP):
  Own P w K mg base 2 "_law_fits" 3 et:=xq ["_law_web_here","_law_signs_here","_law_thing","_law_one","_law_row","_law_other","_law_its"] X G F λb=>
 (qF (qV (iw (gi (eX (ed (ii xv))) (gi (ct (oq oX) (cn d9 (a1 xv)) (cn d9 (a1 xv))) (gM (eX (ed (cn (EN O) (a1 (fk ["_law_number"] (qd xv) ⟨gq,eo,(wn a (a1 xv))⟩))))))))) (qG (qU eH)) qQ) (qF (fo (ie (a1 xv)) (tg2 gq gq) (qG (fo (ie (a1 xv)) (tg2 gq gq) (qG (qV (ct (oq iC) (jq xv xv) (jq xv xv)) (qF (qV (iw (gi (ct (oq oX) (cn d9 (a1 xv)) (cn d9 (a1 xv))) (gM (ct (oq oX) (jq xv xv) (jq xv xv))))) (qG (qU eH)) qQ) (qG (qV (ed (cn (JM O) (a1 (fk ["_law_a","_law_b"] (BU O (bz B) (a2 xv xv)) ⟨(tg2 gq gq),eo,(vG (ce (oq oX) (jq xv (jq xv qK)) (jq xv (jq xv qK))) (fZ (ce (oq oX) (jq xv qK) (jq xv qK))))⟩)))) (qG (qU eH)) qQ))) qQ))))) (qG (qU eH))))
abbrev i6:dg:=top 30
def gb:FS:=(eB (mB (m2 (b2 gEq) (mN (dn 2 dq) (di (mV 0) (di (mC (D.int 3)) dj))) (mC (D.int 0)))) (eK (my (b2 gB) (mV 5) (di (eF 1 [0] (gJ (mV 4)) (gN 0) (mB (m2 (b2 gEq) (mN (dn 2 dq) (di (mV 1) (di (mC (D.int 2)) dj))) (mC (D.int 0)))) (ea (mV 0))) dj))) (dw (dE (eF 1 [0] (gJ (mV 4)) (gN 0) (mB (m2 (b2 gEq) (mN (dn 2 dq) (di (mV 1) (di (mC (D.int 2)) dj))) (mC (D.int 0)))) (ea (mV 0))) (gN 7))
  (eK (my (b2 gB) (mV 5) (di (eF 1 [2,7] (gJ (mV 4)) (gN 0) (mB (m2 (b2 mU) (m2 (b2 dv) (mV 1) (mV 0)) (mV 2))) (ea (mV 0))) dj)))))
def ib:FS:=(eB (rf (mB (m2 (b2 gLt) (mN (b1 dN) (di (mV 8) dj)) (mN (b2 u6) (di (mV 3) (di (mN (b1 dN) (di (mV 1) dj)) dj))))) (mB (m2 (b2 ft) (mV 10) (mV 8)))) (eK (my (b2 gB) (mV 8) (di (mV 10) dj))) je)
def jb:FS:=(dw (dE (xM (di (mN (b1 dN) (di (mV 1) dj)) dj)) (gN 4))
  (dw (dE (eG dj) (gN 5))
  (dw (eR (ss (di (mC (D.int 2)) dj)) (gN 6) gb)
  (dw (dE (dJ (di (m2 (b2 dv) (mV 5) (mC (D.int 0))) (di (m2 (b2 dv) (eG (di (m2 (b2 dv) (mV 5) (mC (D.int 1))) (di (eG dj) dj))) (mN (dn 2 dq) (di (mV 0) (di (mC (D.int 2)) dj)))) dj))) (gT 2 (fu (gN 8) (fu (gN 9) jf))))
  (dw (eR (gJ (mV 4)) (gN 10) ib)
  (dX (dJ (di (mN (b1 gTup) (di (mN (b1 jC) (di (mV 8) dj)) dj)) (di (mN (b1 gTup) (di (mV 9) dj)) dj)))))))))
def fh:FN:=hU 11 jb
theorem lT {f:c0}(F:dY K "_law_standing" i6 f)(a:Own P w K mg base 1 "_law_take" 2 dq):
  Own P w K mg base 2 "_law_standing" 4 fh:=xq ["_law_hand_here","_law_web_here","_law_copied","_law_least","_law_rooms","_law_some","_law_turn","_law_kept","_law_walkers","_law_chalk","_law_room"] X G F λb=>
 (qF (sq (nl O O (bz B) O (bz B) (a1 (cn d9 (a1 xv))))) (qF (sq (dS qN)) (qF (fo (ir (a1 qK)) gq (qG (qV (ct (oq iC) (wn a (a2 xv qK)) qK) (qG (lq ap xv (a1 (fk ["_law_room"] (qd xv) ⟨gq,(kH (ct (oq iC) (wn a (a2 xv qK)) qK)),xv⟩)))) (qF (sq (fk ["_law_room"] (qd xv) ⟨gq,(kH (ct (oq iC) (wn a (a2 xv qK)) qK)),xv⟩)) (qG (lq ap xv (a1 (fk ["_law_room"] (qd xv) ⟨gq,(kH (ct (oq sZ) (jq xv xv) xv (by with_unfolding_all rfl))),xv⟩)))))))) (qF (kG 8 9 O (kd O) O O (by decide) O O (a2 (jq xv qK) (jq (dS (a2 (jq xv qK) (dS qN))) (wn a (a2 xv qK))))) (qF (fo (qd xv) gq (qG (qV (iw (mY (ct (oq i8) (cn d9 (a1 xv)) (cn (EM O) (a2 xv (cn d9 (a1 xv))))) (kF (ct (oq nU) xv xv (by with_unfolding_all rfl))))) (qG (lq ap xv (a1 xv))) qQ))) (qG (qU (dy (a2 (cz fP (a1 (cn DX (a1 xv)))) (cz fP (a1 xv)))))))))))
abbrev nH:dg:=top 33
def oH:FS:=(dw (dE (eG (di (mC D.non) (di (mC (D.bl true)) (di (mC (D.bl false)) (di (m1 (b1 og) (mC (D.int 1))) (di (mC (D.int 0)) (di (mC (D.int 1)) (di (mC (D.int 9)) (di (m2 (b2 oe) (mC (D.int 10)) (mC (D.int 30))) (di (mC (D.str "")) (di (mC (D.str "colours")) (di (mC (D.str "alike")) (di (mC (D.str "0")) (di (dJ dj) (di (dJ (di (mC (D.int 0)) dj)) (di (eG dj) (di (eG (di (mC (D.int 0)) dj)) (di ik (di (dJ (di (mV 1) dj)) dj))))))))))))))))))) (gN 2))
  (dw (eB (mTr (iE .tuple (mV 1))) (dw (dE (eG (di (kr (mV 1) (ic (mC (D.int 1))) ig) (di (kr (mV 1) ig (ic (m1 (b1 og) (mC (D.int 1))))) (di (m2 (b2 ee) (mV 1) (kr (mV 1) (ic (m1 (b1 og) (mC (D.int 1)))) ig)) (di (Av (mV 1) (m1 (b1 og) (mC (D.int 1)))) (di (mN (b1 rB) (di (mV 1) dj)) dj)))))) (gN 2))
  (dw (dE (m2 (b2 ee) (mV 2) (eG (di (m2 (b2 ee) (mV 1) (dJ (di (mC (D.int 0)) dj))) (di (m2 (b2 ee) (dJ (di (mC (D.int 0)) dj)) (mV 1)) (di (mC D.non) (di (m2 (b2 ee) (mV 1) (dJ (di (mC D.non) dj))) (di (mC (D.int 0)) dj))))))) (gN 2))
  (dE (m2 (b2 ee) (mV 2) (eG (di (mC (D.str "")) (di (dJ (di (mV 1) dj)) (di (m2 (b2 ee) (dJ (di (mC D.non) dj)) (mV 1)) (di (m2 (b2 ee) (mV 1) (mV 1)) (di (eG (di (mV 1) dj)) (di ik dj)))))))) (gN 2)))) je)
  (dw (eB (mTr (mN (dn 1 dP) (di (mV 1) dj))) (dw (dE (m2 (b2 ee) (mV 2) (eG (di (m2 (b2 gEq) (mV 1) (mC (D.int 1))) (di (m2 (b2 ee) (mV 1) (mC (D.int 1))) (di (m1 (b1 og) (mV 1)) dj))))) (gN 2))
  (dE (m2 (b2 ee) (mV 2) (eG (di (mN (b1 DB) (di (mV 1) dj)) (di (dJ (di (mV 1) (di (mV 1) dj))) dj)))) (gN 2))) je)
  (dX (m2 (b2 dv) (mV 2) (mN (dn 2 dq) (di (mV 0) (di (mN (b1 dN) (di (mV 2) dj)) dj))))))))
def fV:FN:=hU 3 oH
theorem sV {f:c0}(F:dY K "_law_odd" nH f)(b:Own P w K mg base 1 "_law_take" 2 dq)(a:Own P w K mg base 1 "_law_whole" 1 dP):
  Own P w K mg base 2 "_law_odd" 2 fV:=xq ["_law_hand_here","_law_thing","_law_some"] X G F λc=>
 (qF (sq (dS (qA hZ (qA eH (qA eH (qA (nk sY qK) (qA qK (qA qK (qA qK (qA (qI wh qK qK) (qA dU (qA dU (qA dU (qA dU (qA (dy qN) (qA (dy (a1 qK)) (qA (dS qN) (a3 (dS (a1 qK)) ix (dy (a1 xv)))))))))))))))))))) (qF (qV (ed (ii xv)) (qF (sq (dS (qA (fv xv (gw qK) gx) (qA (fv xv gx (gw (nk sY qK))) (a3 (qI eu xv (fv xv (gw (nk sY qK)) gx)) (sA xv (nk sY qK)) (cz vm (a1 xv))))))) (qF (sq (qI eu xv (dS (qA (qI eu xv (dy (a1 qK))) (qA (qI eu (dy (a1 qK)) xv) (a3 hZ (qI eu xv (dy (a1 hZ))) qK)))))) (qG (sq (qI eu xv (dS (qA dU (qA (dy (a1 xv)) (qA (qI eu (dy (a1 hZ)) xv) (a3 (qI eu xv xv) (dS (a1 xv)) ix)))))))))) qQ) (qF (qV (ed (wn a (a1 xv))) (qF (sq (qI eu xv (dS (a3 (ce (oq iC) xv qK) (qI eu xv qK) (nk sY xv))))) (qG (sq (qI eu xv (dS (a2 (cz JJ (a1 xv)) (dy (a2 xv xv)))))))) qQ) (qG (qU (jq xv (wn b (a2 xv (cn d9 (a1 xv))))))))))
abbrev me:dg:=top 8
def mK:FS:=(dX (mN (dn 3 iD) (di (mV 0) (di (mV 1) (di (mC (D.fn "numbered")) dj)))))
def fw:FN:=hU 2 mK
theorem qz {f:c0}(F:dY K "colouring" me f)(b:Own P w K mg base 2 "refined" 3 iD)(a:CGl K mg "numbered" (D.fn "numbered")):
  Own P w K mg base 3 "colouring" 2 fw:=xq ["web","signs"] X G F λc=>
 (qG (qU (wn b (a3 xv xv (yF a O)))))
abbrev j7:dg:=top 19
def kg:FS:=(dw (dE (mV 1) (gT 2 (fu (gN 3) (fu (gN 4) jf))))
  (dw (dE (mV 2) (gT 4 (fu (gN 5) (fu (gN 6) (fu (gN 7) (fu (gN 8) jf))))))
  (dw (eB (mOr (gz (mTr (mN (dn 2 gp) (di (mV 7) (di (mN (b1 dN) (di (mV 3) dj)) dj))))) (gz (mTr (mN (dn 2 gp) (di (mV 6) (di (mV 7) dj)))))) (dX (mC (D.bl J))) je)
  (dX (iF (mN (dn 3 d7) (di (mV 0) (di (mN (dn 2 ei) (di (mV 0) (di (mV 4) dj))) (di (mV 8) dj)))) (m2 (b2 gEq) (m2 (b2 dv) (mV 8) (m2 (b2 dv) (mV 3) (mV 6))) (m2 (b2 dv) (mV 8) (m2 (b2 dv) (mV 3) (mV 7)))))))))
def fL:FN:=hU 9 kg
theorem nQ {f:c0}(F:dY K "shows_alike" j7 f)(c:Own P w K mg base 1 "chalk_signs" 2 ei)(a:Own P w K mg base 2 "is_below" 2 gp)(b:Own P w K mg base 2 "is_colouring" 3 d7):
  Own P w K mg base 3 "shows_alike" 3 fL:=xq ["web","standing","paper","rooms","chalk","word","i","j","colours"] X G F λd=>
 (qF (qR xv (tg2 gq gq)) (qF (qR xv (vF O (gQ gq (gQ gq (gQ gq (gQ gq sx)))))) (qF (qV (iw (gi (eX (ed (wn a (a2 xv (cn d9 (a1 xv)))))) (gM (eX (ed (wn a (a2 xv xv))))))) (qG (qU eH)) qQ) (qG (qU (gr (wn b (a3 xv (wn c (a2 xv xv)) xv)) (fZ (ce (oq iC) (jq xv (jq xv xv)) (jq xv (jq xv xv))))))))))
abbrev iB:dg:=top 24
def fS:FS:=(dw (dE (eF 1 [4] (ss (di (mV 5) dj)) (gN 0) (mB (m2 (b2 gLt) (mN (b1 dN) (di (m2 (b2 dv) (mV 1) (mV 0)) dj)) (mC (D.int 4)))) (ea (mV 0))) (gN 6))
  (dw (dE (m2 (b2 dv) (mV 6) (mN (dn 2 dq) (di (mV 0) (di (mN (b1 dN) (di (mV 6) dj)) dj)))) (gN 7))
  (dw (eK (my (b2 gB) (m2 (b2 dv) (mV 4) (mV 5)) (di (mV 3) dj)))
  (dw (eK (my (b2 gB) (m2 (b2 dv) (mV 4) (mV 7)) (di (mV 3) dj)))
  (dE (m2 (b2 ee) (mV 3) (mC (D.int 1))) (gN 3))))))
def fR:FS:=(dw (dE (dJ (di (mN (dn 2 dq) (di (mV 0) (di (mV 2) dj))) (di (mN (dn 2 dq) (di (mV 0) (di (mV 2) dj))) dj))) (gT 2 (fu (gN 9) (fu (gN 7) jf))))
  (eB (rf (mB (m2 (b2 gLt) (m2 (b2 ee) (mN (b1 dN) (di (m2 (b2 dv) (mV 4) (mV 9)) dj)) (mN (b1 oY) (di (m2 (b2 gEq) (mV 9) (mV 7)) dj))) (mC (D.int 4)))) (mB (m2 (b2 gLt) (mN (b1 dN) (di (m2 (b2 dv) (mV 4) (mV 7)) dj)) (mC (D.int 4))))) (dw (eK (my (b2 gB) (m2 (b2 dv) (mV 4) (mV 9)) (di (mV 3) dj)))
  (dw (eK (my (b2 gB) (m2 (b2 dv) (mV 4) (mV 7)) (di (mV 3) dj)))
  (dE (m2 (b2 ee) (mV 3) (mC (D.int 1))) (gN 3)))) je))
def iK:FS:=(dw (dE (dJ (di (m2 (b2 ee) (mC (D.int 1)) (mN (dn 2 dq) (di (mV 0) (di (mV 1) dj)))) (di (mC (D.int 0)) dj))) (gT 2 (fu (gN 2) (fu (gN 3) jf))))
  (dw (dE (eF 1 [] (ss (di (mV 2) dj)) (gN 0) fj (ea (eG dj))) (gN 4))
  (dw (eR (HM (di (mC (D.int 1)) (di (mV 2) dj))) (gN 5) fS)
  (dw (eR (ss (di (mN (dn 2 dq) (di (mV 0) (di (mC (D.int 6)) dj))) dj)) (gN 8) fR)
  (dX (mN (dn 2 fM) (di (mV 0) (di (mV 4) dj))))))))
def e9:FN:=hU 10 iK
theorem k8 {f:c0}(F:dY K "_law_plain_web" iB f)(b:Own P w K mg base 2 "_law_doored" 2 fM)(a:Own P w K mg base 1 "_law_take" 2 dq):
  Own P w K mg base 3 "_law_plain_web" 2 e9:=xq ["_law_hand_here","_law_most","_law_rooms","_law_many","_law_ends","_law_room","_law_some","_law_other","_law_turn","_law_one"] X G F λc=>
 (qF (kG 2 3 O (kd O) O O (by decide) O O (a2 (qI eu qK (wn a (a2 xv xv))) qK)) (qF (sq (fk ["_law_room"] (ir (a1 xv)) ⟨gq,eo,(dS qN)⟩)) (qF (fo (nj O (bz B) (a2 qK xv)) gq (qF (pd 6 O (T:=["_law_other"]) (keep:=[4]) ⟨O,by decide+kernel,(kc "_law_ends" (cA _))⟩ O (ir (a1 xv)) (λ_ _ _=>⟨gq,(kH (ct (oq i8) (cn d9 (a1 (jq xv xv))) qK)),xv⟩) (kd O) O (by first|exact Or.inl rfl|exact Or.inr rfl)) (qF (sq (jq xv (wn a (a2 xv (cn d9 (a1 xv)))))) (qF (lq ap (jq xv xv) (a1 xv)) (qF (lq ap (jq xv xv) (a1 xv)) (qG (sq (qI eu xv qK)))))))) (qF (fo (ir (a1 (wn a (a2 xv qK)))) gq (qF (kG 9 7 rfl (kd rfl) rfl rfl (by decide) rfl rfl (a2 (wn a (a2 xv xv)) (wn a (a2 xv xv)))) (qG (qV (iw (mY (ct (oq i8) (qI eu (cn d9 (a1 (jq xv xv))) (cz ug (a1 (ce (oq iC) xv xv)))) qK) (kF (ct (oq i8) (cn d9 (a1 (jq xv xv))) qK)))) (qF (lq ap (jq xv xv) (a1 xv)) (qF (lq ap (jq xv xv) (a1 xv)) (qG (sq (qI eu xv qK))))) qQ)))) (qG (qU (wn b (a2 xv xv))))))))
abbrev kW:dg:=top 26
def hD:FS:=(dw (dE (dJ (di (mV 7) (di (mV 10) (di (mV 8) dj)))) (gS (b3 ja) (mV 3) (dJ (di (mV 4) (di (mV 9) (di (mV 6) dj))))))
  (dE (dJ (di (mV 4) (di (mV 9) (di (mV 6) dj)))) (gS (b3 ja) (mV 3) (dJ (di (mV 7) (di (mV 10) (di (mV 8) dj)))))))
def jt:FS:=(eB (mB (m2 (b2 gLt) (dJ (di (mV 4) (di (mV 6) dj))) (dJ (di (mV 7) (di (mV 8) dj))))) (eR (oa (di (mN (dn 2 fE) (di (mV 0) (di (mV 2) dj))) dj)) (gT 2 (fu (gN 9) (fu (gN 10) jf))) hD) je)
def hC:FS:=(eR (oa (di (mV 5) dj)) (gT 2 (fu (gN 6) (fu (gT 2 (fu (gN 7) (fu (gN 8) jf))) jf))) jt)
def js:FS:=(eB (mB (m2 (b2 ft) (kr (m2 (b2 dv) (mV 3) (dJ (di (mV 4) (di (mV 9) (di (mV 6) dj))))) ig (ic (mC (D.int 2)))) (mV 11))) (eK (my (b2 gB) (mV 11) (di (kr (m2 (b2 dv) (mV 3) (dJ (di (mV 4) (di (mV 9) (di (mV 6) dj))))) ig (ic (mC (D.int 2)))) dj))) je)
def hB:FT:=(mB (m2 (b2 gLt) (mV 12) (mN (b1 dN) (di (mV 11) dj))))
def g9:FS:=(dw (dE (m2 (b2 dv) (mV 11) (mV 12)) (gT 2 (fu (gN 4) (fu (gN 9) jf))))
  (dw (eR (ss (di (mN (b1 dN) (di (m2 (b2 dv) (mV 1) (mV 4)) dj)) dj)) (gN 6) js)
  (dE (m2 (b2 ee) (mV 12) (mC (D.int 1))) (gN 12))))
def jr:FS:=(dw (dE (eF 1 [3,4,9] (ss (di (mN (b1 dN) (di (m2 (b2 dv) (mV 1) (mV 4)) dj)) dj)) (gN 0) fj (ea (m2 (b2 dv) (mV 1) (dJ (di (mV 2) (di (mV 3) (di (mV 0) dj))))))) (gN 14))
  (eK (my (b2 gB) (mV 13) (di (mN (b1 gTup) (di (eF 1 [11] (gJ (mV 14)) (gN 0) fj (ea (dJ (di (my (b2 AX) (mV 1) (di (kr (mV 0) ig (ic (mC (D.int 2)))) dj)) (di (m2 (b2 dv) (mV 0) (mC (D.int 2))) dj))))) dj)) dj))))
def lD:FS:=(dw (dE ik (gN 3))
  (dw (eR (oa (di (mV 1) dj)) (gT 2 (fu (gN 4) (fu (gN 5) jf))) hC)
  (dw (dE (dJ (di (eG (di (dJ (di (mC (D.int 0)) (di (mC (D.int 0)) dj))) dj)) (di (mC (D.int 0)) dj))) (gT 2 (fu (gN 11) (fu (gN 12) jf))))
  (dw (uo hB g9 100000)
  (dw (dE (eG dj) (gN 13))
  (dw (eR (gJ (mV 11)) (gT 2 (fu (gN 4) (fu (gN 9) jf))) jr)
  (dX (dJ (di (mN (b1 gTup) (di (mV 13) dj)) (di (mN (b1 gTup) (di (eF 2 [] (gJ (mV 11)) (gT 2 (fu (gN 0) (fu (gN 1) jf))) fj (ea (mV 0))) dj)) dj))))))))))
def gf:FN:=hU 15 lD
theorem oV {f:c0}(F:dY K "_law_cover" kW f)(a:Own P w K mg base 2 "_law_order" 2 fE):
  Own P w K mg base 3 "_law_cover" 3 gf:=xq ["_law_hand_here","_law_web_here","_law_copies","_law_steps","_law_room","_law_row","_law_door","_law_other","_law_back","_law_copy","_law_to","_law_met","_law_at","_law_found","_law_some"] X G F λb=>
 (qF (sq ix) (qF (fo (ie (a1 xv)) (tg2 gq gq) (qG (fo (ie (a1 xv)) (tg2 gq (tg2 gq gq)) (qG (qV (ct (oq i8) (dy (a2 xv xv)) (dy (a2 xv xv))) (qG (fo (ie (a1 (wn a (a2 xv xv)))) (tg2 gq gq) (qF (qR (dy (a3 xv xv xv)) (kI xv (dy (a3 xv xv xv)) (nB b.units))) (qG (qR (dy (a3 xv xv xv)) (kI xv (dy (a3 xv xv xv)) (nB b.units))))))) qQ))))) (qF (qR (dy (a2 (dS (a1 (dy (a2 qK qK)))) qK)) (tg2 gq gq)) (qF (lK 100000 PassesOwn.never (ct (oq i8) xv (cn d9 (a1 xv))) (qF (qR (jq xv xv) (tg2 gq gq)) (qF (fo (ir (a1 (cn d9 (a1 (jq xv xv))))) gq (qG (qV (ct (oq nU) (fv (jq xv (dy (a3 xv xv xv))) gx (gw qK)) xv (by with_unfolding_all rfl)) (qG (lq ap xv (a1 (fv (jq xv (dy (a3 xv xv xv))) gx (gw qK))))) qQ))) (qG (sq (qI eu xv qK)))))) (qF (sq (dS qN)) (qF (fo (qd xv) (tg2 gq gq) (qF (pd 14 O (T:=["_law_door"]) (keep:=[3,4,9]) ⟨O,by decide+kernel,(kc "_law_steps" (kc "_law_room" (kc "_law_copy" (cA _))))⟩ O (ir (a1 (cn d9 (a1 (jq xv xv))))) (λ_ _ _=>⟨gq,eo,(jq xv (dy (a3 xv xv xv)))⟩) (kd O) O (by first|exact Or.inl rfl|exact Or.inr rfl)) (qG (lq ap xv (a1 (cz fP (a1 (fk ["_law_step"] (qd xv) ⟨gq,eo,(dy (a2 (qe PySem.F.slot_list_index PySem.F.type_list_index (HW b.units) xv (a1 (fv xv gx (gw qK)))) (jq xv qK)))⟩)))))))) (qG (qU (dy (a2 (cz fP (a1 xv)) (cz fP (a1 (fk ["_law_room","_law_copy"] (qd xv) ⟨(tg2 gq gq),eo,xv⟩)))))))))))))
abbrev nI:dg:=top 32
def oI:FS:=(dw (eB (mOr (gz (mTr (iE .tuple (mV 3)))) (mOr (mB (m2 (b2 gEq) (mV 3) (dJ dj))) (gz (mTr (iE .str (m2 (b2 dv) (mV 3) (mC (D.int 0)))))))) (dX (mC (D.bl false))) je)
  (dw (eB (rf (mB (m2 (b2 gEq) (m2 (b2 dv) (mV 3) (mC (D.int 0))) (mC (D.str "colours")))) (mB (m2 (b2 gEq) (mN (b1 dN) (di (mV 3) dj)) (mC (D.int 2))))) (dw (dE (mN (dn 3 et) (di (mV 0) (di (mN (dn 3 fc) (di (mV 0) (di (mV 1) (di (mC (D.bl M)) dj)))) (di (m2 (b2 dv) (mV 3) (mC (D.int 1))) dj)))) (gN 4))
  (dX (iF (mV 4) (m2 (b2 gLt) (mN (b1 oh) (di (mN (b1 gP) (di (m2 (b2 dv) (mV 3) (mC (D.int 1))) dj)) dj)) (mN (b1 dN) (di (mV 0) dj)))))) je)
  (dw (eB (mOr (mB (m2 (b2 gNe) (m2 (b2 dv) (mV 3) (mC (D.int 0))) (mC (D.str "alike")))) (mOr (mB (m2 (b2 gNe) (mN (b1 dN) (di (mV 3) dj)) (mC (D.int 4)))) (gz (mTr (mV 2))))) (dX (mC (D.bl J))) je)
  (dw (eB (mOr (gz (mTr (mN (dn 1 dP) (di (m2 (b2 dv) (mV 3) (mC (D.int 1))) dj)))) (gz (mTr (mN (dn 1 dP) (di (m2 (b2 dv) (mV 3) (mC (D.int 2))) dj))))) (dX (mC (D.bl J))) je)
  (dw (eB (gz (mB (xN (b2 (iV λi j=>decide (i<=j))) (b2 gLt) (b2 gLt) (mC (D.int 0)) (m2 (b2 dv) (mV 3) (mC (D.int 1))) (m2 (b2 dv) (mV 3) (mC (D.int 2))) (mN (b1 dN) (di (m2 (b2 dv) (mV 1) (mC (D.int 0))) dj))))) (dX (mC (D.bl J))) je)
  (dw (eB (gz (mTr (mN (dn 3 et) (di (mV 0) (di (mN (dn 3 fc) (di (mV 0) (di (mV 1) (di (mC (D.bl J)) dj)))) (di (m2 (b2 dv) (mV 3) (mC (D.int 3))) dj)))))) (dX (mC (D.bl J))) je)
  (dX (m2 (b2 gEq) (m2 (b2 dv) (m2 (b2 dv) (mV 3) (mC (D.int 3))) (m2 (b2 dv) (m2 (b2 dv) (mV 1) (mC (D.int 0))) (m2 (b2 dv) (mV 3) (mC (D.int 1))))) (m2 (b2 dv) (m2 (b2 dv) (mV 3) (mC (D.int 3))) (m2 (b2 dv) (m2 (b2 dv) (mV 1) (mC (D.int 0))) (m2 (b2 dv) (mV 3) (mC (D.int 2)))))))))))))
def hH:FN:=hU 5 oI
theorem sX {f:c0}(F:dY K "_law_due" nI f)(b:Own P w K mg base 2 "_law_fits" 3 et)(a:Own P w K mg base 1 "_law_signs" 3 fc)(c:Own P w K mg base 1 "_law_whole" 1 dP):
  Own P w K mg base 3 "_law_due" 4 hH:=xq ["_law_web_here","_law_standing_here","_law_quiet","_law_thing","_law_right"] X G F λd=>
 (qF (qV (iw (gi (eX (ed (ii xv))) (gi (ct (oq iC) xv (dy qN)) (gM (eX (ed (ii (jq xv qK)))))))) (qG (qU eH)) qQ) (qF (qV (iw (mY (ct (oq iC) (jq xv qK) dU) (kF (ct (oq iC) (cn d9 (a1 xv)) qK)))) (qF (sq (wn b (a3 xv (wn a (a3 xv xv eH)) (jq xv qK)))) (qG (qU (gr xv (fZ (ce (oq i8) (cn vn (a1 (cz (vk d) (a1 (jq xv qK))))) (cn d9 (a1 xv)))))))) qQ) (qF (qV (iw (gi (ct (oq oX) (jq xv qK) dU) (gi (ct (oq oX) (cn d9 (a1 xv)) qK) (gM (eX (ed xv)))))) (qG (qU eH)) qQ) (qF (qV (iw (gi (eX (ed (wn c (a1 (jq xv qK))))) (gM (eX (ed (wn c (a1 (jq xv qK)))))))) (qG (qU eH)) qQ) (qF (qV (eX (uy IR (oq i8) (oq i8) qK (jq xv qK) (jq xv qK) (cn d9 (a1 (jq xv qK))))) (qG (qU eH)) qQ) (qF (qV (eX (ed (wn b (a3 xv (wn a (a3 xv xv eH)) (jq xv qK))))) (qG (qU eH)) qQ) (qG (qU (ce (oq iC) (jq (jq xv qK) (jq (jq xv qK) (jq xv qK))) (jq (jq xv qK) (jq (jq xv qK) (jq xv qK))))))))))))
abbrev vV:dg:=top 17
def pr:FS:=(eB (mB (m2 (b2 gEq) (m2 (b2 dv) (mV 4) (m2 (b2 dv) (mV 2) (mV 5))) (m2 (b2 dv) (mV 4) (m2 (b2 dv) (mV 2) (mV 6))))) (dX (dJ (di (mC (D.str "alike")) (di (mV 5) (di (mV 6) (di (mV 4) dj)))))) je)
def pq:FS:=(eR (HM (di (m2 (b2 ee) (mV 5) (mC (D.int 1))) (di (mN (b1 dN) (di (mV 2) dj)) dj))) (gN 6) pr)
def wZ:FS:=(dw (dE (mV 1) (gT 2 (fu (gN 2) (fu (gN 3) jf))))
  (dw (dE (mN (dn 2 fw) (di (mV 0) (di (mN (dn 2 ei) (di (mV 0) (di (mV 3) dj))) dj))) (gN 4))
  (dw (eR (ss (di (mN (b1 dN) (di (mV 2) dj)) dj)) (gN 5) pq)
  (dX (mC D.non)))))
def lg:FN:=hU 7 wZ
theorem zX {f:c0}(F:dY K "alike" vV f)(b:Own P w K mg base 1 "chalk_signs" 2 ei)(a:Own P w K mg base 3 "colouring" 2 fw):
  Own P w K mg base 4 "alike" 2 lg:=xq ["web","standing","rooms","chalk","colours","i","j"] X G F λc=>
 (qF (qR xv (tg2 gq gq)) (qF (sq (wn a (a2 xv (wn b (a2 xv xv))))) (qF (fo (ir (a1 (cn d9 (a1 xv)))) gq (qG (fo (nj O (bz B) (a2 (qI eu xv qK) (cn d9 (a1 xv)))) gq (qG (qV (ct (oq iC) (jq xv (jq xv xv)) (jq xv (jq xv xv))) (qG (qU (dy (qA dU (a3 xv xv xv))))) qQ))))) (qG (qU hZ)))))
abbrev j6:dg:=top 18
def kf:FS:=(dw (eB (mTr (mN (dn 3 fX) (di (mV 3) (di (mC (D.str "colours")) (di (mC (D.int 2)) dj))))) (dX (iF (mN (dn 3 d7) (di (mV 0) (di (mN (dn 2 fx) (di (mV 0) (di (mV 1) dj))) (di (m2 (b2 dv) (mV 3) (mC (D.int 1))) dj)))) (pw (mN (dn 1 eE) (di (m2 (b2 dv) (mV 3) (mC (D.int 1))) dj))))) je)
  (dw (eB (rf (mTr (mV 2)) (mTr (mN (dn 3 fX) (di (mV 3) (di (mC (D.str "alike")) (di (mC (D.int 4)) dj)))))) (dX (mN (dn 3 fL) (di (mV 0) (di (mV 1) (di (mV 3) dj))))) je)
  (dX (mC (D.bl J)))))
def fK:FN:=hU 4 kf
theorem nP {f:c0}(F:dY K "shows_never" j6 f)(c:Own P w K mg base 2 "all_signs" 2 fx)(d:Own P w K mg base 1 "all_unlike" 1 eE)(e:Own P w K mg base 2 "is_colouring" 3 d7)(a:Own P w K mg base 2 "is_headed" 3 fX)(b:Own P w K mg base 3 "shows_alike" 3 fL):
  Own P w K mg base 4 "shows_never" 4 fK:=xq ["web","standing","quiet","thing"] X G F λg=>
 (qF (qV (ed (wn a (a3 xv dU qK))) (qG (qU (gr (wn e (a3 xv (wn c (a2 xv xv)) (jq xv qK))) (fZ (pZ (wn d (a1 (jq xv qK)))))))) qQ) (qF (qV (iw (mY (ed xv) (kF (ed (wn a (a3 xv dU qK)))))) (qG (qU (wn b (a3 xv xv xv)))) qQ) (qG (qU eH))))
abbrev nG:dg:=top 27
def oG:FS:=(dw (dE (m2 (b2 dv) (eG (di (mC (D.int 1)) (di (mC (D.int 1)) (di (mC (D.int 2)) (di (mC (D.int 2)) (di (mC (D.int 3)) (di (mC (D.int 4)) dj))))))) (mN (dn 2 dq) (di (mV 0) (di (mC (D.int 6)) dj)))) (gN 1))
  (dw (dE (mN (dn 2 e9) (di (mV 0) (di (m2 (b2 rE) (mC (D.int 8)) (mV 1)) dj))) (gN 2))
  (dw (eB (mB (m2 (b2 gEq) (mV 1) (mC (D.int 1)))) (dX (dJ (di (mV 2) (di (Au (di (mN (b1 dN) (di (mV 2) dj)) dj)) dj)))) je)
  (dX (mN (dn 3 gf) (di (mV 0) (di (mV 2) (di (mV 1) dj))))))))
def hE:FN:=hU 3 oG
theorem sU {f:c0}(F:dY K "_law_web" nG f)(a:Own P w K mg base 3 "_law_cover" 3 gf)(b:Own P w K mg base 3 "_law_plain_web" 2 e9)(c:Own P w K mg base 1 "_law_take" 2 dq):
  Own P w K mg base 4 "_law_web" 1 hE:=xq ["_law_hand_here","_law_copies","_law_web_here"] X G F λd=>
 (qF (sq (jq (dS (qA qK (qA qK (qA qK (a3 qK qK qK))))) (wn c (a2 xv qK)))) (qF (sq (wn b (a2 xv (qI wj qK xv)))) (qF (qV (ct (oq iC) xv qK) (qG (qU (dy (a2 xv (sy O O (bz B) O (bz B) (a1 (cn d9 (a1 xv)))))))) qQ) (qG (qU (wn a (a3 xv xv xv)))))))
abbrev vT:dg:=top 16
def wY:FS:=(dw (dE (mN (dn 2 fw) (di (mV 0) (di (mN (dn 2 fx) (di (mV 0) (di (mV 1) dj))) dj))) (gN 3))
  (dw (eB (gz (mTr (mN (dn 1 eE) (di (mV 3) dj)))) (dX (dJ (di (mC (D.str "colours")) (di (mV 3) dj)))) je)
  (dX (HL (mTr (mV 2)) (mN (dn 2 lg) (di (mV 0) (di (mV 1) dj))) (mC D.non)))))
def lf:FN:=hU 4 wY
theorem zV {f:c0}(F:dY K "never" vT f)(b:Own P w K mg base 4 "alike" 2 lg)(a:Own P w K mg base 2 "all_signs" 2 fx)(d:Own P w K mg base 1 "all_unlike" 1 eE)(c:Own P w K mg base 3 "colouring" 2 fw):
  Own P w K mg base 5 "never" 3 lf:=xq ["web","standing","quiet","colours"] X G F λe=>
 (qF (sq (wn c (a2 xv (wn a (a2 xv xv))))) (qF (qV (eX (ed (wn d (a1 xv)))) (qG (qU (dy (a2 dU xv)))) qQ) (qG (qU (uB (ed xv) (wn b (a2 xv xv)) hZ)))))
abbrev jl:dg:=top 34
def gC(self:FN):FS:=(dw (eB (mOr (mB (m2 (b2 gLt) (mV 2) (mC (D.int 1)))) (mOr (gz (mTr (iE .tuple (mV 1)))) (mB (m2 (b2 gEq) (mV 1) (dJ dj))))) (dX (mN (dn 2 fV) (di (mV 0) (di (mV 1) dj)))) je)
  (dw (eB (mB (m2 (b2 gEq) (mN (dn 2 dq) (di (mV 0) (di (mC (D.int 4)) dj))) (mC (D.int 0)))) (dX (mN (dn 2 fV) (di (mV 0) (di (mV 1) dj)))) je)
  (dw (dE (mN (dn 2 dq) (di (mV 0) (di (mN (b1 dN) (di (mV 1) dj)) dj))) (gN 3))
  (dw (dE (mN (dn 3 self) (di (mV 0) (di (m2 (b2 dv) (mV 1) (mV 3)) (di (m2 (b2 gSub) (mV 2) (mC (D.int 1))) dj)))) (gN 4))
  (dX (m2 (b2 ee) (m2 (b2 ee) (kr (mV 1) ig (ic (mV 3))) (dJ (di (mV 4) dj))) (kr (mV 1) (ic (m2 (b2 ee) (mV 3) (mC (D.int 1)))) ig)))))))
def fD:Nat->FN
 |0=>λ_ _=>Y
 |n+1=>hU 5 (gC (fD n))
def ij:FN:=fD 8
theorem qg {f:c0}{fd:df}(F:xa K "_law_bent" "_law_bent" jl f fd)(hb:jd K fd ["_law_hand_here","_law_thing","_law_deep"] [])(hm:mg "_law_bent"=some (.ref f))(c:Own P w K mg base 2 "_law_odd" 2 fV)(e:Own P w K mg base 1 "_law_take" 2 dq){k:Nat}{a:FN}(hk:2<=k)(o_self:Own P w K mg base k "_law_bent" 3 a):
  Own P w K mg base (k+1) "_law_bent" 3 (hU 5 (gC a)):=vE (n:=3) (N:=["_law_hand_here","_law_thing","_law_deep","_law_at","_law_inner"]) (ps:=["_law_hand_here","_law_thing","_law_deep"]) (b:=gC a) F hb hm sk O λg A d s H E h=>
 (qF (qV (iw (gi (ct (oq i8) xv qK) (gi (eX (ed (ii xv))) (gM (ct (oq iC) xv (dy qN)))))) (qG (qU (wn c (a2 xv xv)))) qQ) (qF (qV (ct (oq iC) (wn e (a2 xv qK)) qK) (qG (qU (wn c (a2 xv xv)))) qQ) (qF (sq (wn e (a2 xv (cn d9 (a1 xv))))) (qF (sq (qH o_self h (nR1 _) O (a3 xv (jq xv xv) (qI Ep xv qK)))) (qG (qU (qI eu (qI eu (fv xv gx (gw xv)) (dy (a1 xv))) (fv xv (gw (qI eu xv qK)) gx))))))))
theorem qS {f:c0}(F:dY K "_law_bent" jl f)(a:Own P w K mg base 2 "_law_odd" 2 fV)(d:Own P w K mg base 1 "_law_take" 2 dq):Own P w K mg base 11 "_law_bent" 3 ij:=by
 have c:=wM1 X G F.ns;obtain⟨fd,F⟩:=F.fn;have b:=F.binds (ps:=["_law_hand_here","_law_thing","_law_deep"]) (λ_ _ _ _ _ _ h e=>KX e λ_ _ _=>rfl);have g:∀j:Nat,Own P w K mg base (3+j) "_law_bent" 3 (fD j):=λj=>by
  induction j with
  |zero=>exact zS F b c
  |succ j ih=>exact qg X G B F b c a d (show 2<=3+j by omega) ih
 exact g 8
abbrev sG:dg:=top 35
def qx:FS:=(dw (dE (m2 (b2 ee) (mV 9) (eG (di (mV 10) (di (mN (b1 rB) (di (mV 10) dj)) dj)))) (gN 9))
  (dE (m2 (b2 ee) (mV 9) (eF 1 [2,10] (ss (di (mC (D.int 6)) dj)) (gN 0) fj (ea (mN (dn 3 ij) (di (mV 1) (di (mV 2) (di (mC (D.int 2)) dj))))))) (gN 9)))
def we:FS:=(dw (dE (mN (dn 4 fK) (di (mV 3) (di (mV 5) (di (mV 12) (di (mV 11) dj))))) (gN 13))
  (eB (mOr (gz (mTr (iE .bool (mV 13)))) (mB (m2 (b2 gNe) (mV 13) (mN (dn 4 hH) (di (mV 3) (di (mV 5) (di (mV 12) (di (mV 11) dj)))))))) (dX (mC (D.bl J))) je))
def qw:FS:=(eR (gJ (dJ (di (mC (D.bl M)) (di (mC (D.bl J)) dj)))) (gN 12) we)
def qv:FS:=(dw (dE (mN (dn 2 fy) (di (mV 0) (di (mV 1) dj))) (gN 2))
  (dw (dE (mN (dn 1 hE) (di (mV 2) dj)) (gT 2 (fu (gN 3) (fu (gN 4) jf))))
  (dw (dE (mN (dn 4 fh) (di (mV 2) (di (mV 3) (di (mV 4) (di (mC (D.int 2)) dj))))) (gN 5))
  (dw (dE (dJ (di (Au (di (mN (b1 dN) (di (mV 3) dj)) dj)) (di (m2 (b2 gSub) (mN (b1 dN) (di (m2 (b2 dv) (mV 5) (mC (D.int 0))) dj)) (mC (D.int 1))) dj))) (gT 2 (fu (gN 6) (fu (gN 7) jf))))
  (dw (dE (eG (di (dJ (di (mC (D.str "colours")) (di (mV 4) dj))) (di (dJ (di (mC (D.str "colours")) (di (mV 6) dj))) (di (dJ (di (mC (D.str "alike")) (di (mC (D.int 0)) (di (mV 7) (di (mV 4) dj))))) (di (dJ (di (mC (D.str "alike")) (di (mC (D.int 0)) (di (mC (D.int 1)) (di (mV 6) dj))))) dj))))) (gN 8))
  (dw (eK (my (b2 gB) (mV 8) (di (Ax (mN (dn 3 lf) (di (mV 3) (di (mV 5) (di (mC (D.bl M)) dj)))) (dJ (di (mC (D.str "alike")) (di (mC (D.int 0)) (di (mC (D.int 0)) (di (mV 4) dj)))))) dj)))
  (dw (eK (my (b2 gB) (mV 8) (di (dJ (di (mC (D.str "alike")) (di (mV 7) (di (m2 (b2 ee) (mV 7) (mC (D.int 1))) (di (mV 4) dj))))) dj)))
  (dw (dE (eG (di (mC D.non) (di (mC (D.bl M)) (di (mC (D.bl J)) (di (mC (D.int 0)) (di (mC (D.str "")) (di (mC (D.str "colours")) (di (dJ dj) (di (dJ (di (mC (D.str "colours")) dj)) (di (dJ (di (mC (D.str "alike")) dj)) (di (eG dj) (di ik (di (eG (di (mC (D.str "colours")) (di (mV 4) dj))) (di (mV 4) dj)))))))))))))) (gN 9))
  (dw (dE (m2 (b2 ee) (mV 9) (eG (di (dJ (di (mC (D.str "none")) (di (mV 4) dj))) (di (dJ (di (mC D.non) (di (mV 4) dj))) (di (dJ (di (mC (D.str "alike")) (di (mC (D.int 0)) (di (mV 7) dj)))) (di (dJ (di (mC (D.str "colours")) (di (mC (D.int 0)) (di (mV 7) (di (mV 4) dj))))) (di (mV 3) dj))))))) (gN 9))
  (dw (dE (m2 (b2 ee) (mV 9) (eG (di (dJ (di (mC (D.str "alike")) (di (mV 4) dj))) (di (dJ (di (mC (D.str "")) (di (mC (D.int 0)) (di (mV 7) (di (mV 4) dj))))) (di (dJ (di (dJ (di (mC (D.str "colours")) dj)) (di (mV 4) dj))) dj))))) (gN 9))
  (dw (eR (gJ (mV 8)) (gN 10) qx)
  (eR (gJ (mV 9)) (gN 11) qw))))))))))))
def wd:FS:=(pv [M,M,J,J,J,J,J,J,J,J,J,J,J,J] [M,J,J,J,J,J,J,J,J,J,J,J,J,J] qv)
def Bq:FS:=(dw (eR (ss (di (mN (b2 DF) (di (mC (D.int 1)) (di (mN (b2 u6) (di (mC (D.int 4)) (di (mN (b1 dN) (di (mV 0) dj)) dj))) dj))) dj)) (gN 1) wd)
  (dX (mC (D.bl M))))
def m_law:FN:=hU 14 Bq
theorem Ga {f:c0}{fd:df}(F:xa K "law" "law" sG f fd)(a:Own P w K mg base 11 "_law_bent" 3 ij)(i:Own P w K mg base 3 "_law_due" 4 hH)(h:Own P w K mg base 1 "_law_hand" 2 fy)(e:Own P w K mg base 2 "_law_standing" 4 fh)(d:Own P w K mg base 4 "_law_web" 1 hE)(c:Own P w K mg base 5 "never" 3 lf)(j:Own P w K mg base 4 "shows_never" 4 fK):
  jK P w K mg base um 12 f fd ["_law_script"] (spM K 1 m_law):=EY (k:=11) (n:=1) (N:=["_law_script","_law_k","_law_hand_here","_law_web_here","_law_copied","_law_standing_here","_law_rooms","_law_last","_law_papers","_law_some","_law_paper","_law_thing","_law_quiet","_law_told"]) (ps:=["_law_script"]) (b:=Bq) F sk O λl A g s H E m=>
 (qF (fo (ir (a1 (cn (JL O) (a2 qK (cn (EM O) (a2 qK (cn d9 (a1 xv)))))))) gq (xc [M,M,J,J,J,J,J,J,J,J,J,J,J,J] [M,J,J,J,J,J,J,J,J,J,J,J,J,J] (qF (sq (wn h (a2 xv xv))) (qF (qR (wn d (a1 xv)) (tg2 gq gq)) (qF (sq (wn e (qA xv (a3 xv xv qK)))) (qF (kG 6 7 O (kd O) O O (by decide) O O (a2 (sy O O (bz B) O (bz B) (a1 (cn d9 (a1 xv)))) (qI Ep (cn d9 (a1 (jq xv qK))) qK))) (qF (sq (dS (qA (dy (a2 dU xv)) (a3 (dy (a2 dU xv)) (dy (qA dU (a3 qK xv xv))) (dy (qA dU (a3 qK qK xv))))))) (qF (lq ap xv (a1 (vG (wn c (a3 xv xv eH)) (fZ (dy (qA dU (a3 qK qK xv))))))) (qF (lq ap xv (a1 (dy (qA dU (a3 xv (qI eu xv qK) xv))))) (qF (sq (dS (qA hZ (qA eH (qA eH (qA qK (qA dU (qA dU (qA (dy qN) (qA (dy (a1 dU)) (qA (dy (a1 dU)) (qA (dS qN) (a3 ix (dS (a2 dU xv)) xv))))))))))))) (qF (sq (qI eu xv (dS (qA (dy (a2 dU xv)) (qA (dy (a2 hZ xv)) (a3 (dy (a3 dU qK xv)) (dy (qA dU (a3 qK xv xv))) xv)))))) (qF (sq (qI eu xv (dS (a3 (dy (a2 dU xv)) (dy (qA dU (a3 qK xv xv))) (dy (a2 (dy (a1 dU)) xv)))))) (qF (fo (qd xv) gq (qF (sq (qI eu xv (dS (a2 xv (cz vm (a1 xv)))))) (qG (sq (qI eu xv (fk ["_law_turn"] (ir (a1 qK)) ⟨gq,eo,(wn a (a3 xv xv qK))⟩)))))) (qG (fo (qd xv) gq (qG (fo (qd (dy (a2 eH eH))) gq (qF (sq (wn j (qA xv (a3 xv xv xv)))) (qG (qV (iw (gi (eX (ed (ii xv))) (gM (ct (oq oX) xv (wn i (qA xv (a3 xv xv xv))))))) (qG (qU eH)) qQ)))))))))))))))))))) (qG (qU eH)))
end
theorem all_mk {l:PySem.W.OpenLaw}{w:c7}{K:Fg1}{h:de}{mg:Str->Option cY}{fa f1 f2 f3 f4 f5 f6 f7 f8 f9 C f11 W f13 f14 R ag f17 m f19 u Q A g f24 f25 f26 V ah f29 f30 f31:c0}(X:K.In h)(G:h.Ns c8 mg)(T:mg "law"=some (.ref fa))
  (a1:dY K "is_whole" nD f1)
  (a2:dY K "is_tuple_of" j8 f2)
  (a3:dY K "looks" vU f3)
  (a4:dY K "numbered" nC f4)
  (a5:dY K "all_unlike" kQ f5)
  (a6:dY K "chalk_signs" j9 f6)
  (a7:dY K "_law_hand" mj f7)
  (a8:dY K "_law_take" mh f8)
  (a9:dY K "_law_whole" kS f9)
  (n:dY K "_law_signs" kT C)
  (aj:dY K "is_below" nE f11)
  (H:dY K "is_headed" md W)
  (a13:dY K "is_colouring" jk f13)
  (a14:dY K "refined" pe f14)
  (a15:dY K "all_signs" mf R)
  (F:dY K "_law_doored" ka ag)
  (a17:dY K "_law_order" kU f17)
  (a18:dY K "_law_fits" ml m)
  (a19:dY K "_law_standing" i6 f19)
  (q:dY K "_law_odd" nH u)
  (i:dY K "colouring" me Q)
  (a22:dY K "shows_alike" j7 A)
  (a23:dY K "_law_plain_web" iB g)
  (t:dY K "_law_cover" kW f24)
  (k:dY K "_law_due" nI f25)
  (a26:dY K "alike" vV f26)
  (S:dY K "shows_never" j6 V)
  (r:dY K "_law_web" nG ah)
  (j:dY K "never" vT f29)
  (a30:dY K "_law_bent" jl f30)
  (d:dY K "law" sG f31)
  (z:JY K BL):∃fd:df,(∀(s:cZ) (v:cY),BindsTo s fd ⟨[v],[]⟩ [("_law_script",v)]) /\ ∀base:de,K.In base->base.Ns c8 mg->jK l.prog w K mg base um 12 fa fd ["_law_script"] (spM K 1 m_law):=by
 have e:=T.symm.trans (wM1 X G d.ns);cases e;have B:Blt BL mg:=z.blt X G;have g0:CGl K mg "numbered" (D.fn "numbered"):=Hl (wM1 X G a4.ns) (JF a4.ns);obtain⟨_,⟨⟨_,_,kV,dc,pm,an,cd,ct,_,rfl,lL,cL⟩,kL⟩⟩:=d.fn;refine⟨wF1 "law" "law" (im sG) (fe sG) (dI sG) .none kV dc pm an cd ct,λs v=>.of_eq O,λbase _ _=>?_⟩;have o0:=sS (P:=l.prog) (w:=w) (base:=base) X G B a1;have o1:=nR (P:=l.prog) (w:=w) (base:=base) X G B a2;have o2:=zW (P:=l.prog) (w:=w) (base:=base) X G B a3;have o3:=sR (P:=l.prog) (w:=w) (base:=base) X G B a4;have c:=oR (P:=l.prog) (w:=w) (base:=base) X G B a5;have ai:=nS (P:=l.prog) (w:=w) (base:=base) X G B a6;have y:=qL (P:=l.prog) (w:=w) (base:=base) X G B a7;have a:=qC (P:=l.prog) (w:=w) (base:=base) X G B a8;have o6:=oS (P:=l.prog) (w:=w) (base:=base) X G B a9;have U:=oT (P:=l.prog) (w:=w) (base:=base) X G B n;have o8:=sT X G B aj o0;have o17:=qy X G B H o1;have o9:=mQ X G B a13 o1 o0 o2;have o7:=uT X G B a14 o2 o3;have b:=qB X G B a15 ai;have L:=nT X G B F a;have o11:=oU X G B a17 a;have o12:=qM X G B a18 o6;have x:=lT X G B a19 a;have o:=sV X G B q a o6;have f:=qz X G B i o7 g0;have o18:=nQ X G B a22 ai o8 o9;have o20:=k8 X G B a23 L a;have I:=oV X G B t o11;have E:=sX X G B k o12 U o6;have wq:=zX X G B a26 ai f;have o29:=nP X G B S b c o9 o17 o18;have p:=sU X G B r I o20 a;have N:=zV X G B j wq b c f;have o23:=qS X G B a30 o a;exact Ga (P:=l.prog) (w:=w) (base:=base) X G B (AY lL cL kL) o23 E y x p N o29
def hnd(g m c:Int):Ob:=.lst [.int g,.int m,.int c]
def Gq(m c:Int):Int:=(m+9973*c*c+17)*69621%2305843009213693921
def Am(m c:Int):Int:=Gq m c*(Gq m c%999983+7919*c)%2305843009213693907
theorem JN{a b c:D}:vo [a,b,c] 0=Z a:=by rfl
theorem Lc{a b c:D}:vo [a,b,c] 1=Z b:=by rfl
theorem Lb{a b c:D}:vo [a,b,c] 2=Z c:=by rfl
theorem Fa{T:Sto}{g m c k:Int}(hg:0<g)(hk:0<k)(a:k<1073741824):
  dq [.ref 0,.int k] (hnd g m c::T)=Z (.int (g%k),hnd (g/k) m c::T):=by
 simp[dq,hU,e6,jG,dw,eB,mB,m2,b2,iV,mV,mC,dv,mT,BN,dH,hnd,hg,hk,a,dE,gN,ls,rE,gS,b3,ja,mE,ku,dX,JN,xT]
theorem E9{T:Sto}{g m c k:Int}(hg:¬ 0<g)(hk:0<k)(a:k<1073741824)(hc:0<=c)(i:c<2^60):
  dq [.ref 0,.int k] (hnd g m c::T)=Z (.int ((Am m (c+1)/101+Am m (c+1)/1000003)%k),hnd g m (c+1)::T):=by
 have e:eO 9973 (c+1)=M:=tu (by decide) (by decide);have d:eO (9973*(c+1)) (c+1)=M:=wo (by omega) (by omega);have h:eO (m+9973*(c+1)*(c+1)+17) 69621=M:=wo (by decide) (by decide);have b:eO 7919 (c+1)=M:=tu (by decide) (by decide);have q:=Int.emod_lt_of_pos ((m+9973*(c+1)*(c+1)+17)*69621) (show(0:Int)<2305843009213693921 by decide);have j:=Int.emod_nonneg ((m+9973*(c+1)*(c+1)+17)*69621) (show(2305843009213693921:Int)≠0 by decide);have f:eO ((m+9973*(c+1)*(c+1)+17)*69621%2305843009213693921) ((m+9973*(c+1)*(c+1)+17)*69621%2305843009213693921%999983+7919*(c+1))=M:=tu (by omega) (by omega);simp[dq,hU,e6,jG,dw,eB,mB,m2,b2,iV,mV,mC,dv,mT,BN,dH,hnd,hg,hk,a,dE,gN,ls,rE,gS,b3,ja,mE,ku,dX,JN,Lc,Lb,xT,je,ee,j1,e,d,h,b,f,Gq,Am]
def Hnd(o:Ob)(n:Nat):Prop:=∃g m c:Int,o=hnd g m c/\0<=c/\c<=n
theorem Hnd.und{o:Ob}{n k:Nat}(h:Hnd o n):o.und k=M:=by
 obtain⟨g,m,c,rfl,_⟩:=h;rfl
theorem Hnd.more{o:Ob}{n k:Nat}(h:Hnd o n)(hk:n<=k):Hnd o k:=by
 obtain⟨g,m,c,e,a,h1⟩:=h;exact⟨g,m,c,e,a,by lia⟩
theorem f0{o:Ob}{n:Nat}{k:Int}{T:Sto}{Q:D×Sto->Prop}(ho:Hnd o n)(hn:n<=2^50)(hk:0<k)(a:k<1073741824)(h:∀(d:Nat) o',Hnd o' (n+1)->(d:Int)<k->Q (.int d,o'::T)):W (dn 2 dq [.ref 0,.int k] (o::T)) Q:=by
 obtain⟨g,m,c,rfl,f,h1⟩:=ho;have call:∀d o',dq [.ref 0,.int k] (hnd g m c::T)=Z (d,o'::T)->dn 2 dq [.ref 0,.int k] (hnd g m c::T)=Z (d,o'::T):=λd o e=>yk e O (by simp[D.unds,D.und]) (by simp);by_cases i:0<g
 ·have b:=Int.emod_nonneg g (show k≠0 by lia);obtain⟨d,e⟩:=Int.eq_ofNat_of_zero_le b;refine⟨_,call _ _ (Fa i hk a),?_⟩;rw[e];exact h d _ ⟨_,_,_,O,f,by lia⟩ (by rw[<- e];exact Int.emod_lt_of_pos _ hk)
 ·have b:=Int.emod_nonneg (Am m (c+1)/101+Am m (c+1)/1000003) (show k≠0 by lia);obtain⟨d,e⟩:=Int.eq_ofNat_of_zero_le b;refine⟨_,call _ _ (E9 i hk a f (by lia)),?_⟩;rw[e];exact h d _ ⟨_,_,_,O,by lia,by push_cast;lia⟩ (by rw[<- e];exact Int.emod_lt_of_pos _ hk)
theorem Dz(ns:List Int)(k:Int)(l:0<=k)(hk:k<63):∃o,dn 2 fy [.rol (ns.map D.int),.int k] []=Z (.ref 0,[o])/\Hnd o 0:=by
 have h:∃g m,fy [.rol (ns.map D.int),.int k] []=Z (.ref 0,[hnd g m 0]):=by
  have j:eO (10^60) (10^30)=M:=by decide+kernel
  have f:eO 7919 k=M:=tu (by decide) (by decide);have c:eO 0 0=M:=tu (by decide) (by decide);have d:∀(x:Int) (b:Prop) [Decidable b],eO x (if b then 1 else 0)=M:=λx b _=>by
   split
   ·exact wo (by decide) (by decide)
   ·exact wo (by decide) (by decide)
  have lt:gLt (.int k) (.int ns.length) []=Z (.bl (decide (k<ns.length)),[]):=by rfl
  by_cases i:k<ns.length
  ·have a:vo (ns.map D.int) k=some (.int (ns[k.toNat]'(by lia))):=by
    unfold vo xT;rw[ae l,ae (by simpa using i)];simp[show k.toNat<ns.length by lia]
   generalize p:ns[k.toNat]'(by lia)=x at a
   simp[fy,hU,e6,jH,dw,eB,mB,m2,b2,b1,mN,di,dj,iV,mV,mC,dv,mT,BN,dN,dH,dE,gN,ls,j1,ee,oe,oY,dX,eG,lt,i,a,f,d,da,hnd,je];simp[show eO 1000000000000000000000000000000000000000000000000000000000000 1000000000000000000000000000000=M from j,c,f,d]
  ·simp[fy,hU,e6,jH,dw,eB,mB,m2,b2,b1,mN,di,dj,iV,mV,mC,dv,mT,BN,dN,dH,dE,gN,ls,j1,ee,oe,oY,dX,eG,lt,i,f,d,da,hnd,je];simp[show eO 1000000000000000000000000000000000000000000000000000000000000 1000000000000000000000000000000=M from j,c,f,d]
 obtain⟨g,m,e⟩:=h;refine⟨hnd g m 0,?_,_,_,_,O,Int.le_refl _,Int.le_refl _⟩;rw[oB (n:=2) e O (by rw[D.unds,D.und,lM];rfl) (by simp[D.und])];simp[D.sh,Ob.sh,D.shs,hnd]
abbrev ji:=List (List Nat)
structure WN (t m:Nat)(T:Sto)(E:ji)(U:Sto):Prop where
 tl:T.length=t
 low:U.take t=T
 el:E.length=m
 row:∀(i:Nat) (row:List Nat),E[i]?=some row->U[t+i]?=some (.lst (nmD row))
 ends:U[t+m]?=some (.lst (jY (t+1) m))
 cl:∀o∈U,o.und (U.length+1)=true
theorem Es{n:Nat}{xs:List Nat}:(Ob.lst (nmD xs)).und n=M:=jN (fq xs)
theorem WN.app{t m:Nat}{T:Sto}{E:ji}{U G:Sto}(w:WN t m T E U)(d:∀o∈G,o.und 0=M):WN t m T E (U++G):=by
 have c:t+m<U.length:=(gE1.mp w.ends).1;refine⟨w.tl,?_,w.el,λi b h=>?_,?_,λo a=>?_⟩
 ·rw[List.take_append_of_le_length (by lia)];exact w.low
 ·have:=w.row i b h;rw[gL1 (gE1.mp this).1];exact this
 ·rw[gL1 c];exact w.ends
 ·rcases az.mp a with a|a
  ·exact fI (by rw[lA1];lia) (w.cl o a)
  ·exact fI (a0 _) (d o a)
theorem WN.setRow{t m i:Nat}{T:Sto}{E:ji}{U:Sto}{row:List Nat}(w:WN t m T E U)(hi:i<m):WN t m T (E.set i row) (U.set (t+i) (.lst (nmD row))):=by
 have b:t+m<U.length:=(gE1.mp w.ends).1;refine⟨w.tl,?_,by rw[aQ];exact w.el,λj r h=>?_,?_,λo a=>?_⟩
 ·rw[List.take_set_of_le (by lia)];exact w.low
 ·by_cases e:i=j
  ·subst e;rw[aB (by rw[w.el];exact hi)]at h;cases h;rw[aB (by lia)]
  ·rw[gS1 e]at h;rw[gS1 (by lia)];exact w.row j r h
 ·rw[gS1 (by lia)];exact w.ends
 ·rw[aQ];rcases List.mem_or_eq_of_mem_set a with a|rfl
  ·exact w.cl o a
  ·exact Es
theorem WN.split{t m:Nat}{T:Sto}{E:ji}{U:Sto}(w:WN t m T E U):U=T++U.drop t:=by
 conv=>lhs;rw[<- b8 t U,w.low]
theorem pf:∀(k n:Nat),jY n (k+1)=jY n k++[.ref (n+k)]
 |0,n=>rfl
 |k+1,n=>by
  rw[jY,pf k (n+1),jY,ba,show n+1+k=n+(k+1) by lia]
theorem sL:∀(k n N:Nat),n+k<=N->D.unds N (jY n k)=M
 |0,_,_,_=>rfl
 |k+1,n,N,h=>by
  rw[jY,D.unds,sL k (n+1) N (by lia),D.und,bF,af];lia
theorem yG{t m:Nat}{T:Sto}(tl:T.length=t)(b:T.all (Ob.und (T.length+1))=M):WN t m T (aJ m []) (T++(aJ m (.lst [])++[.lst (jY (t+1) m)])):=by
 refine⟨tl,by rw[<- tl,List.take_left],by simp,λi c h=>?_,?_,λo a=>?_⟩
 ·have hi:i<m:=by have:=(gE1.mp h).1;simpa using this
  rw[aM,ae hi]at h;cases h;rw[<- tl,ej,gL1 (by simpa using hi),aM,ae hi];rfl
 ·rw[<- tl,ej,gR1 (by simp)];simp
 ·rw[az,az,bu,cc]at a;rcases a with a|⟨_,rfl⟩|rfl
  ·exact fI (by rw[lA1];lia) (br.mp b o a)
  ·rfl
  ·rw[Ob.und];exact sL _ _ _ (by simp;lia)
theorem nh{t m i:Nat}{T:Sto}{E:ji}{U:Sto}{o:Ob}{Q:D×Sto->Prop}(w:WN t m T E U)(hi:i<m)(q:Q (.ref (t+i+1),o::U)):W (dv (.ref (t+m+1)) (.int i) (o::U)) Q:=
 iL (xs:=jY (t+1) m) (x:=.ref (t+i+1)) (by rw[gC1];exact w.ends) (by rw[qp hi];congr 2;lia) q
theorem om{v k:Nat}:∀{E:ji} {i:Nat} {row:List Nat},E[i]?=Z row->(E.set i (row++[k])).flatten.count v=E.flatten.count v+if k=v then 1 else 0
 |[],i,row,h=>by simp at h
 |r::E,0,row,h=>by
  rw[cG]at h;cases h;simp only[cH,cM,List.count_append,List.count_cons,List.count_nil,beq_iff_eq];lia
 |r::E,i+1,row,h=>by
  rw[gC1]at h;simp only[cm,cM,List.count_append,om h];lia
theorem ol{k:Nat}:∀{E:ji} {i:Nat} {row:List Nat},E[i]?=Z row->(E.set i (row++[k])).flatten.length=E.flatten.length+1
 |[],i,row,h=>by simp at h
 |r::E,0,row,h=>by
  rw[cG]at h;cases h;simp only[cH,cM,lA1,lC1,aW];lia
 |r::E,i+1,row,h=>by
  rw[gC1]at h;simp only[cm,cM,lA1,ol h];lia
theorem wN:∀{E:ji} {k:Nat},k<=E.length->(∀(i:Nat) (row:List Nat),i<k->E[i]?=Z row->4<=row.length)->4*k<=E.flatten.length
 |E,0,_,_=>by lia
 |[],k+1,h,_=>by simp at h
 |r::E,k+1,h,a=>by
  have h1:=a 0 r (by lia) O;have h2:=wN (E:=E) (k:=k) (by simpa using h) λi row hi b=>a (i+1) row (by lia) b;rw[cM,lA1];lia
structure WE (m:Nat)(E:ji)(k i:Nat):Prop where
 len:E.length=m
 le:∀(i:Nat) (row:List Nat),E[i]?=some row->row.length<=4
 fl:E.flatten.length=2*k
 ct:∀v,E.flatten.count v=if v<k then 2 else 0
 jn:∀j,1<=j->j<=i -> ∃a ra rb v,a<j/\E[a]?=some ra/\E[j]?=some rb/\v∈ra/\v∈rb
theorem yK(m:Nat):WE m (aJ m []) 0 0:=by
 have e:(aJ m ([]:List Nat)).flatten=[]:=by
  rw[List.flatten_eq_nil_iff];intro l a;exact(bu.mp a).2
 refine⟨by simp,λi b h=>?_,by rw[e];rfl,λv=>by rw[e,ab (by lia)];rfl,λj h1 h2=>by lia⟩;rw[aM]at h;split at h
 ·cases h;simp
 ·cases h
theorem kP{E:ji}{i k:Nat}{row:List Nat}(h:E[i]?=Z row){j:Nat}{r:List Nat}(a:E[j]?=Z r):∃r',(E.set i (row++[k]))[j]?=Z r' /\ ∀x∈r,x∈r':=by
 by_cases z:i=j
 ·subst z;rw[h]at a;cases a;exact⟨_,aB (gE1.mp h).1,λx b=>aA _ b⟩
 ·exact⟨r,by rw[gS1 z];exact a,λx b=>b⟩
theorem WE.tie{m a b k i i':Nat}{E:ji}{ra e:List Nat}(w:WE m E k i)(ha:E[a]? = some ra)(I:ra.length<4)(hb:(E.set a (ra++[k]))[b]? = some e)(ag:e.length<4)(hi:i'<=i\/(i'=i+1/\b<a/\a=i')):
  WE m ((E.set a (ra++[k])).set b (e++[k])) (k+1) i':=by
 have a1:(E.set a (ra++[k]))[a]?=Z (ra++[k]):=aB (gE1.mp ha).1;refine⟨by rw[aQ,aQ];exact w.len,λj f d=>?_,?_,λv=>?_,λj h1 h2=>?_⟩
 ·by_cases z:b=j
  ·subst z;rw[aB (gE1.mp hb).1]at d;cases d;rw[lA1,aS];lia
  ·rw[gS1 z]at d;by_cases u:a=j
   ·subst u;rw[a1]at d;cases d;rw[lA1,aS];lia
   ·rw[gS1 u]at d;exact w.le j f d
 ·rw[ol hb,ol ha,w.fl];lia
 ·rw[om hb,om ha,w.ct v];split<;>split<;>split<;>lia
 ·rcases(show j<=i\/(j=a/\b<a) by lia)with q|⟨rfl,t⟩
  ·obtain⟨c,H,C,v,D,F,A,B,x⟩:=w.jn j h1 q;obtain⟨K,y,G⟩:=kP (k:=k) ha F;obtain⟨g,s,r⟩:=kP (k:=k) hb y;obtain⟨r2,o,p⟩:=kP (k:=k) ha A;obtain⟨l,n,h⟩:=kP (k:=k) hb o;exact⟨c,g,l,v,D,s,n,r _ (G _ B),h _ (p _ x)⟩
  ·obtain⟨r2,o,p⟩:=kP (k:=k) hb a1;exact⟨b,e++[k],r2,k,t,aB (gE1.mp hb).1,o,by simp,p _ (by simp)⟩
theorem Ee{t m a b k:Nat}{T:Sto}{E:ji}{U:Sto}{o:Ob}{ra:List Nat}{r:Ev}{f g:FE}{Q:Fl×Ev×Sto->Prop}(w:WN t m T E U)(ha:a<m)(hb:b<m)(p:E[a]? = some ra)(G:ra.length<100)(A:∀ rb,E[b]? = some rb->rb.length<100)(hf:∀S,f r S=some (.int a,S))(hg:∀S,g r S=some (.int b,S))(B:mV 4 r=fun S=>some (.ref (t+m+1),S))(y:mV 3 r=fun S=>some (.int k,S))(h:∀rb v,(E.set a (ra++[k]))[b]?=some rb->WN t m T ((E.set a (ra++[k])).set b (rb++[k])) v->Q (.nx,r.set 3 (some (.int ((k+1:Nat):Int))),o::v)):
  W (dw (eK (my (b2 gB) (m2 (b2 dv) (mV 4) f) (di (mV 3) dj))) (dw (eK (my (b2 gB) (m2 (b2 dv) (mV 4) g) (di (mV 3) dj))) (dE (m2 (b2 ee) (mV 3) (mC (D.int (1)))) (gN 3))) r (o::U)) Q:=by
 have ap:∀(xs:List Nat),nmD xs++[D.int (k:Int)]=nmD (xs++[k]):=λxs=>by simp[nmD]
 have i:∀ {x:Nat} {d:List Nat} {E:ji} {U:Sto} {e:FE} {P:Fl×Ev×Sto->Prop} (w:WN t m T E U),x<m->E[x]? = some d->d.length<200->(∀ S,e r S=some (.int x,S))->P (.nx,r,o::U.set (t+x) (.lst (nmD (d++[k])))) ->
   W (eK (my (b2 gB) (m2 (b2 dv) (mV 4) e) (di (mV 3) dj)) r (o::U)) P:=by
  intro x d E U e P w F n H C q;have z:(o::U)[t+x+1]?=Z (.lst (nmD d)):=by rw[gC1];exact w.row x d n
  unfold eK;rw[dk];refine gK ?_;unfold m2;rw[B];simp only[oS1,C,b2];refine nh w F ?_;refine⟨t+x+1,nmD d,O,z,?_⟩;unfold di dj;rw[y];simp only[oS1,oP1];rw[dt];refine(jc z).mpr ⟨dA (by rw[d4];lia),?_⟩;rw[ap,cm];exact dt.mpr q
 have s:=w.setRow (row:=ra++[k]) ha;obtain⟨rb,c⟩:∃rb,(E.set a (ra++[k]))[b]?=some rb:=⟨_,gG1 (by rw[s.el];exact hb)⟩;have l:rb.length<200:=by
  by_cases e:a=b
  ·subst e;rw[aB (by rw[w.el];exact ha)]at c;cases c;rw[lA1,aS];lia
  ·rw[gS1 e]at c;have:=A rb c;lia
 refine dL (λu S=>u=r/\S=o::U.set (t+a) (.lst (nmD (ra++[k])))) (i w ha p (by lia) hf ⟨O,O,O⟩) ?_;rintro u S ⟨rfl,rfl⟩;refine dL (λj S=>j=u/\S=o::(U.set (t+a) (.lst (nmD (ra++[k])))).set (t+b) (.lst (nmD (rb++[k])))) (i s hb c l hg ⟨O,O,O⟩) ?_;rintro j S ⟨rfl,rfl⟩;unfold dE m2 mC gN;rw[y];simp only[oS1,b2];rw[dk,BG];exact dt.mpr (h rb _ c (s.setRow hb))
theorem E8{t m i n:Nat}{T U:Sto}{E:ji}{o:Ob}{ah x6 x7 x8 x9:Option D}{Q:Fl×Ev×Sto->Prop}(w:WN t m T E U)(v:WE m E i i)(ho:Hnd o n)(hn:n<=2^44)(hi:i+1<m)(hm:m<=8)(he:∀j row,i+1<=j->E[j]?=some row->row=[])(h:∀R o' wq X aj,WN t m T R wq->WE m R (i+1) (i+1)->Hnd o' (n+1)->(∀j row,i+2<=j->R[j]?=some row->row=[]) ->
   Q (.nx,[Z (.ref 0),ah,Z (.int m),Z (.int ((i+1:Nat):Int)),Z (.ref (t+m+1)),Z (.int ((i+1:Nat):Int)),X,aj,x8,x9],o'::wq)):
  W (fS [Z (.ref 0),ah,Z (.int m),Z (.int (i:Nat)),Z (.ref (t+m+1)),Z (.int ((i+1:Nat):Int)),x6,x7,x8,x9] (o::U)) Q:=by
 have e:∀j,j<m -> ∃row,E[j]?=Z row:=λj l=>⟨_,gG1 (by rw[v.len];exact l)⟩
 let k:Nat->Bool:=λj=>decide ((E.getD j []).length<4)
 unfold fS;have A:(Z7 (i+1)).filter k≠[]:=by
  intro z;have I:∀j row,j<i+1->E[j]?=Z row->4<=row.length:=λj row l hr=>by
   have:=List.filter_eq_nil_iff.mp z j (au.mpr l);simp only[k,bC,hr,bW,af]at this;lia
  have:=wN (E:=E) (k:=i+1) (by rw[v.len];lia) I;have:=v.fl;lia
 generalize P:(Z7 (i+1)).filter k=L at A;have V:∀j∈L,j<i+1/\k j=M:=λj l=>by
  rw[<- P,ar]at l;exact⟨au.mp l.1,l.2⟩
 have hLl:L.length<=8:=by
  rw[<- P];have:=cN k (Z7 (i+1));simp at this;lia
 refine dL (λr S=>r=[Z (.ref 0),ah,Z (.int m),Z (.int (i:Nat)),Z (.ref (t+m+1)),Z (.int ((i+1:Nat):Int)),Z (.ref (U.length+1)),x7,x8,x9]/\S=o::(U++[.lst (nmD L)])) ?_ ?_
 ·walk_at"w";rw[la,Int.toNat_natCast];refine⟨fQ (by lia),?_⟩;refine rL k (λj:Nat=>.int j) (λr=>∃x,r=[x,Z (.ref (t+m+1))]) O (Z7 (i+1)) _ ⟨_,O⟩ ?_ ?_
  ·rintro j l r ⟨x,rfl⟩;have s:j<m:=by have:=au.mp l;lia
   obtain⟨row,c⟩:=e j s;walk_at"w";refine nh w s ?_;walk_at"w";refine dW (xs:=nmD row) (by rw[gC1];exact w.row j row c) ?_;walk_at"w";refine⟨?_,⟨_,O⟩,λ_=>trivial⟩;simp only[k,bC,c,bW,d4];rw[bJ,af,af];lia
  ·rintro r' _;walk_at"w";rw[P];exact⟨dA (by rw[lM1];lia),O⟩
 rintro r S ⟨rfl,rfl⟩;have hL0:0<L.length:=List.length_pos_iff.mpr A;have gL:∀o:Ob,(o::(U++[Ob.lst (nmD L)]))[U.length+1]?=Z (.lst (nmD L)):=λo=>by rw[gC1,dz];rfl
 refine dL (λr S=>∃j u,j<i+1/\k j=M/\Hnd u (n+1)/\r=[Z (.ref 0),ah,Z (.int m),Z (.int (i:Nat)),Z (.ref (t+m+1)),Z (.int ((i+1:Nat):Int)),Z (.ref (U.length+1)),Z (.int (j:Nat)),x8,x9]/\S=u::(U++[.lst (nmD L)])) ?_ ?_
 ·walk_at"w";refine dW (gL _) ?_;walk_at"w";rw[d4];refine f0 ho (by lia) (by lia) (by lia) λd u p hd=>?_;have B:d<L.length:=by lia
  refine iL (i:=d) (xs:=nmD L) (x:=.int (L[d]:Nat)) (gL _) (by rw[nmD,gP1,gG1 B];rfl) ?_;obtain⟨ag,g⟩:=V L[d] (bL B);exact⟨L[d],u,ag,g,p,O,O⟩
 rintro r S ⟨j,u,ag,g,p,rfl,rfl⟩;obtain⟨row,c⟩:=e j (by lia);have ai:row.length<4:=by
  simp only[k,bC,c,bW,af]at g;exact g
 obtain⟨N,q⟩:=e (i+1) hi;have K:=he (i+1) N (nR1 _) q;subst K;have w':=w.app (G:=[Ob.lst (nmD L)]) λo ho=>by rw[cc]at ho;subst ho;exact Es
 refine Ee (a:=i+1) (b:=j) (ra:=[]) w' hi (by lia) q (by simp) (λN hb=>by rw[c]at hb;cases hb;lia) (λ_=>rfl) (λ_=>rfl) O O λN U2 f w2=>?_;have F:i+1≠j:=by lia
 have C:N=row:=by
  rw[gS1 F,c]at f;cases f;rfl
 subst C;refine h _ u U2 _ _ w2 (v.tie q (by simp) f ai (.inr ⟨O,by lia,O⟩)) p λj' H s y=>?_;rw[gS1 (by lia),gS1 (by lia)]at y;exact he j' H (by lia) y
theorem Gp{t m n k i:Nat}{T U:Sto}{E:ji}{o:Ob}{B x5 x6 x7 x8 x9:Option D}{Q:Fl×Ev×Sto->Prop}(w:WN t m T E U)(v:WE m E k i)(ho:Hnd o n)(hn:n<=2^44)(hm0:0<m)(hm:m<=8)(h:∀E' k' o' wq aj R,WN t m T E' wq->WE m E' k' i->Hnd o' (n+2) ->
   Q (.nx,[Z (.ref 0),B,Z (.int m),Z (.int (k':Nat)),Z (.ref (t+m+1)),x5,x6,aj,x8,R],o'::wq)):
  W (fR [Z (.ref 0),B,Z (.int m),Z (.int (k:Nat)),Z (.ref (t+m+1)),x5,x6,x7,x8,x9] (o::U)) Q:=by
 have l:∀j,j<m -> ∃row,E[j]?=Z row:=λj hj=>⟨_,gG1 (by rw[v.len];exact hj)⟩;unfold fR;refine dL (λr S=>∃a b g,a<m/\b<m/\Hnd g (n+2)/\r=[Z (.ref 0),B,Z (.int m),Z (.int (k:Nat)),Z (.ref (t+m+1)),x5,x6,Z (.int (b:Nat)),x8,Z (.int (a:Nat))]/\S=g::U) ?_ ?_
 ·walk_at"w";refine f0 ho (by lia) (by lia) (by lia) λa o1 ah H=>?_;walk_at"w";refine f0 ah (by lia) (by lia) (by lia) λb g q K=>?_;walk_at"w";exact⟨a,b,g,by lia,by lia,q,O,O⟩
 rintro r S ⟨a,b,g,H,K,q,rfl,rfl⟩;obtain⟨V,u⟩:=l a H;obtain⟨L,s⟩:=l b K;have C:Q (.nx,[Z (.ref 0),B,Z (.int m),Z (.int (k:Nat)),Z (.ref (t+m+1)),x5,x6,Z (.int (b:Nat)),x8,Z (.int (a:Nat))],g::U):=
  h E k g U _ _ w v q
 unfold eB;rw[dk];have ag:W (rf (mB (m2 (b2 gLt) (m2 (b2 ee) (mN (b1 dN) (di (m2 (b2 dv) (mV 4) (mV 9)) dj)) (mN (b1 oY) (di (m2 (b2 gEq) (mV 9) (mV 7)) dj))) (mC (D.int (4))))) (mB (m2 (b2 gLt) (mN (b1 dN) (di (m2 (b2 dv) (mV 4) (mV 7)) dj)) (mC (D.int (4))))) [Z (.ref 0),B,Z (.int m),Z (.int (k:Nat)),Z (.ref (t+m+1)),x5,x6,Z (.int (b:Nat)),x8,Z (.int (a:Nat))] (g::U)) λp=>p.2=g::U/\(p.1=M->V.length+(if a=b then 1 else 0)<4/\L.length<4):=by
  walk_at"w";refine nh w H ?_;walk_at"w";refine dW (xs:=nmD V) (by rw[gC1];exact w.row a V u) ?_;walk_at"w";rw[d4];have e1:((a:Int) == (b:Int))=decide (a=b):=by
   rw[bJ,beq_iff_eq,af];lia
  rw[e1];have rest:W (dv (D.ref (t+m+1)) (D.int (b:Int)) (g::U)) λx=>W (dN x.fst x.snd) λx=>W (gLt x.fst (D.int 4) x.snd) λx=>W (match x.fst with|D.bl b=>some (b,x.snd)|x=>none) λp=>p.snd=g::U/\(p.fst=true->L.length<4):=by
   refine nh w K ?_;walk_at"w";refine dW (xs:=nmD L) (by rw[gC1];exact w.row b L s) ?_;walk_at"w";rw[d4];intro N;rw[af]at N;lia
  by_cases f:a=b
  ·rw[Z9 f];walk_at"w";split
   ·rename_i A;rw[af]at A;refine rest.mono λx ai=>ai.mono λy P=>P.mono λz X=>X.mono λp G=>⟨G.1,λe=>⟨by first|lia|(rw[ae f];lia),G.2 e⟩⟩
   ·first|(intro z;cases z;done)|(refine⟨_,rfl,?_,λz=>?_⟩<;>first|rfl|cases z)|walk_at"w"
  ·rw[aa f];walk_at"w";split
   ·rename_i A;rw[af]at A;refine rest.mono λx ai=>ai.mono λy P=>P.mono λz X=>X.mono λp G=>⟨G.1,λe=>⟨by first|lia|(rw[ab f];lia),G.2 e⟩⟩
   ·first|(intro z;cases z;done)|(refine⟨_,rfl,?_,λz=>?_⟩<;>first|rfl|cases z)|walk_at"w"
 obtain⟨⟨c,S1⟩,ec,hS,hc⟩:=ag;dsimp only at hS hc;subst hS;refine⟨_,ec,?_⟩;dsimp only;cases c with
 |false=>rw[ab (by decide)];exact dt.mpr C
 |true=>
  rw[ae O];obtain⟨h1,h2⟩:=hc O;refine Ee (a:=a) (b:=b) w H K u (by lia) (λF I=>by rw[s]at I;cases I;lia) (λ_=>rfl) (λ_=>rfl) O O λF U2 d w2=>?_;have hl:F.length<4:=by
   by_cases f:a=b
   ·subst f;rw[aB (by rw[v.len];exact H)]at d;cases d;rw[ae O]at h1;rw[lA1,aS];lia
   ·rw[gS1 f,s]at d;cases d;exact h2
  exact h _ (k+1) g U2 _ _ w2 (v.tie u (by lia) d hl (.inl (nR1 _))) q
abbrev Pl:=List ((Nat×Nat)×Nat)
def g8(i:Nat)(row:List Nat):Pl:=row.zipIdx.map λp=>((i,p.2),p.1)
def eV:Nat->ji->Pl
 |_,[]=>[]
 |i,row::R=>g8 i row++eV (i+1) R
def ps(A:Pl)(v:Nat):List (Nat×Nat):=(A.filter λx=>x.2 == v).map (·.1)
theorem zF{i j v:Nat}{row:List Nat}(h:row[j]?=Z v):g8 i (row.take (j+1))=g8 i (row.take j)++[((i,j),v)]:=by
 have a:=(gE1.mp h).1;unfold g8;rw[cy,h,Option.toList_some,List.zipIdx_append,cx];simp;lia
theorem l6:∀{R:ji} {i k:Nat} {row:List Nat},R[i]?=Z row->eV k (R.take (i+1))=eV k (R.take i)++g8 (k+i) row
 |[],i,k,row,h=>by simp at h
 |r::R,0,k,row,h=>by
  rw[cG]at h;cases h;simp[eV]
 |r::R,i+1,k,row,h=>by
  rw[gC1]at h;rw[cO,cO,eV,eV,l6 h,bx,show k+1+i=k+(i+1) by lia]
theorem wp{i:Nat}{row:List Nat}{x:(Nat×Nat)×Nat}:x∈g8 i row↔x.1.1=i/\row[x.1.2]?=Z x.2:=by
 obtain⟨⟨a,b⟩,c⟩:=x;unfold g8;rw[b6];constructor
 ·rintro⟨⟨v,j⟩,h,e⟩;cases e;exact⟨O,cF.mp h⟩
 ·rintro⟨rfl,h⟩;exact⟨(c,b),cF.mpr h,O⟩
theorem nV:∀{R:ji} {k:Nat} {x:(Nat×Nat)×Nat},x∈eV k R ↔ ∃i a,x.1.1=k+i/\R[i]?=Z a/\a[x.1.2]?=Z x.2
 |[],k,x=>by simp[eV]
 |r::R,k,x=>by
  rw[eV,az,wp,nV (R:=R)];constructor
  ·rintro(⟨h1,h2⟩|⟨i,a,h1,h2,b⟩)
   ·exact⟨0,r,by lia,O,h2⟩
   ·exact⟨i+1,a,by lia,h2,b⟩
  ·rintro⟨i,a,h1,h2,b⟩;cases i with
   |zero=>cases h2;exact .inl ⟨by lia,b⟩
   |succ i=>exact .inr ⟨i,a,by lia,h2,b⟩
theorem Cv{i:Nat}{row:List Nat}:(g8 i row).map (·.2)=row:=by
 unfold g8;rw[bm];exact List.zipIdx_map_fst 0 row
theorem tU:∀{R:ji} {k:Nat},(eV k R).map (·.2)=R.flatten
 |[],_=>rfl
 |r::R,k=>by rw[eV,cx,Cv,tU (R:=R),cM]
theorem FD{i:Nat}{row:List Nat}:((g8 i row).map (·.1)).Nodup:=by
 unfold g8;rw[bm];have e:(row.zipIdx.map ((λx:(Nat×Nat)×Nat=>x.1)∘λp=>((i,p.2),p.1)))=(row.zipIdx.map (·.2)).map λj=>(i,j):=by rw[bm];rfl
 rw[e,List.zipIdx_map_snd,<- List.range_eq_range'];exact List.pairwise_map.mpr (List.nodup_range.imp λh z=>h (Prod.mk.inj z).2)
theorem rK:∀{R:ji} {k:Nat},((eV k R).map (·.1)).Nodup
 |[],_=>bh
 |r::R,k=>by
  rw[eV,cx,bp];refine⟨FD,rK,λa d b f e=>?_⟩;obtain⟨x,h,rfl⟩:=b6.mp d;obtain⟨y,g,rfl⟩:=b6.mp f;have h1:=(wp.mp h).1;obtain⟨i,c,h2,_⟩:=nV.mp g;rw[e]at h1;lia
theorem Fz{A:Pl}{v:Nat}:(ps A v).length=(A.map (·.2)).count v:=by
 unfold ps;rw[lM1,List.count,List.countP_map,List.countP_eq_length_filter];rfl
theorem m4{A:Pl}{p:Nat×Nat}{v u:Nat}:ps (A++[(p,v)]) u=if v=u then ps A u++[p]else ps A u:=by
 unfold ps;rw[cP,cx];by_cases h:v=u
 ·simp[h]
 ·simp[h]
theorem Gw{A:Pl}{p:Nat×Nat}{v:Nat}:p∈ps A v↔(p,v)∈A:=by
 unfold ps;rw[b6];constructor
 ·rintro⟨⟨q,u⟩,h,e⟩;obtain⟨h1,h2⟩:=ar.mp h;have h2:u=v:=by simpa using h2
  cases e;cases h2;exact h1
 ·intro h;exact⟨(p,v),ar.mpr ⟨h,by simp⟩,O⟩
theorem IB{A:Pl}{v:Nat}(h:(A.map (·.1)).Nodup):(ps A v).Nodup:=h.sublist (List.filter_sublist.map _)
structure PL (b:Nat)(A:Pl)(kv:List (Key×D))(H:Sto):Prop where
 no:∀v:Nat,ps A v=[]->dF kv (Sum.inl (v:Int))=none
 yes:∀v:Nat,ps A v≠[] -> ∃h,dF kv (Sum.inl (v:Int))=some (.ref (b+h))/\H[h]?=some (.lst ((ps A v).map pD))
 inj:∀v u h:Nat,dF kv (Sum.inl (v:Int))=some (.ref (b+h))->dF kv (Sum.inl (u:Int))=some (.ref (b+h))->v=u
 few:kv.length<=A.length
theorem n9{v u:Nat}(h:v≠u):(Sum.inl (v:Int):Key)≠Sum.inl (u:Int):=λe=>h (by injection e with e;lia)
theorem PL.old{b v h:Nat}{A:Pl}{kv:List (Key×D)}{H:Sto}{p:Nat×Nat}(P:PL b A kv H)(hv:ps A v≠[])(e:dF kv (Sum.inl (v:Int))=some (.ref (b+h)))(g:H[h]? = some (.lst ((ps A v).map pD))):
  PL b (A++[(p,v)]) kv ((H++[Ob.lst []]).set h (.lst ((ps A v).map pD++[pD p]))):=by
 have i:=(gE1.mp g).1;refine⟨λu a=>?_,λu a=>?_,P.inj,by rw[lA1];have:=P.few;lia⟩
 ·rw[m4]at a;split at a
  ·simp at a
  ·exact P.no u a
 ·rw[m4]at a ⊢;by_cases c:v=u
  ·subst c;rw[ae O,cx];exact⟨h,e,aB (by rw[lA1];lia)⟩
  ·rw[ab c]at a ⊢;obtain⟨h',d,f⟩:=P.yes u a;refine⟨h',d,?_⟩;rw[gS1 (λz=>c (P.inj v u h e (by rw[z];exact d))),gL1 (gE1.mp f).1];exact f
theorem PL.new{b v:Nat}{A:Pl}{kv:List (Key×D)}{H:Sto}{p:Nat×Nat}(P:PL b A kv H)(hv:ps A v=[]):
  PL b (A++[(p,v)]) (gO kv (Sum.inl (v:Int)) (.ref (b+H.length))) (H++[.lst [pD p]]):=by
 refine⟨λu f=>?_,λu f=>?_,λu j h d c=>?_,by rw[lA1,aS];have:=P.few;have:=qr (k:=(Sum.inl (v:Int):Key)) (v:=D.ref (b+H.length)) (a:=kv);lia⟩
 ·rw[m4]at f;split at f
  ·simp at f
  ·rename_i l;rw[jv,ab (n9 (Ne.symm l))];exact P.no u f
 ·rw[m4]at f ⊢;by_cases g:v=u
  ·subst g;rw[ae O,hv,jv,ae O];exact⟨H.length,O,by rw[gR1 (nR1 _),cr];rfl⟩
  ·rw[ab g]at f ⊢;obtain⟨h',d,c⟩:=P.yes u f;refine⟨h',by rw[jv,ab (n9 (Ne.symm g))];exact d,?_⟩;rw[gL1 (gE1.mp c).1];exact c
 ·have old:∀ w:Nat,w≠v->dF kv (Sum.inl (w:Int))=some (.ref (b+h))->h<H.length:=fun w o e=>by
   by_cases m:ps A w=[]
   ·rw[P.no w m]at e;cases e
   ·obtain⟨h',i,n⟩:=P.yes w m;rw[e]at i;have:h=h':=by injection i with i;injection i with i;lia
    rw[this];exact(gE1.mp n).1
  rw[jv]at d c;by_cases h1:u=v
  ·by_cases h2:j=v
   ·rw[h1,h2]
   ·rw[ae (by rw[h1])]at d;rw[ab (n9 h2)]at c;have:=old j h2 c;have:h=H.length:=by injection d with d;injection d with d;lia
    lia
  ·rw[ab (n9 h1)]at d;by_cases h2:j=v
   ·rw[ae (by rw[h2])]at c;have:=old u h1 d;have:h=H.length:=by injection c with c;injection c with c;lia
    lia
   ·rw[ab (n9 h2)]at c;exact P.inj u j h d c
def jp(A:Pl)(v:Nat)(e:Nat×Nat):Nat×Nat:=let l:=ps A v;if l.getD 0 (0,0)=e then l.getD 1 (0,0)else l.getD 0 (0,0)
theorem yV{A:Pl}{v:Nat}(h2:(ps A v).length=2):∃p q,ps A v=[p,q]:=by
 match hp:ps A v,h2 with
 |[p,q],_=>exact⟨p,q,O⟩
theorem wc{A:Pl}{v:Nat}{e:Nat×Nat}(h:(A.map (·.1)).Nodup)(h2:(ps A v).length=2)(he:(e,v)∈A):(jp A v e,v)∈A/\jp A v e≠e/\jp A v (jp A v e)=e /\ ∀x,(x,v)∈A->x=e\/x=jp A v e:=by
 obtain⟨p,q,b⟩:=yV h2;have g:=IB (v:=v) h;rw[b]at g;have a:p≠q:=by simpa using g
 have m:∀x,(x,v)∈A↔x=p\/x=q:=λx=>by rw[<- Gw,b];simp
 have d:∀x,jp A v x=if p=x then q else p:=λx=>by simp[jp,b]
 rcases(m e).mp he with rfl|rfl
 ·have c:jp A v e=q:=by rw[d,ae O]
  rw[c];exact⟨(m q).mpr (.inr O),Ne.symm a,by rw[d,ab a],λx f=>(m x).mp f⟩
 ·have c:jp A v e=p:=by rw[d,ab a]
  rw[c];exact⟨(m p).mpr (.inl O),a,by rw[d,ae O],λx f=>((m x).mp f).symm⟩
theorem vI{c:FT}{b:FS}{Q:Fl×Ev×Sto->Prop}(I:Nat->Ev->Sto->Prop)(N:Nat)(step:∀k r S,I k r S->W (c r S) fun p=>if p.1=true then k<N/\W (b r p.2) fun q=>q.1 = .nx/\I (k+1) q.2.1 q.2.2 else Q (.nx,r,p.2)):
  ∀(fuel k:Nat) (r:Ev) (S:Sto),N-k<fuel->I k r S->W (uo c b fuel r S) Q
 |0,k,r,S,hf,_=>by lia
 |fuel+1,k,r,S,hf,hi=>by
  rw[uo];dsimp only;rw[dk];obtain⟨⟨t,l⟩,e,h⟩:=step k r S hi;refine⟨_,e,?_⟩;dsimp only at h ⊢;cases t with
  |true=>
   rw[ae O]at h ⊢;obtain⟨m,⟨f,g,j⟩,i,a,d⟩:=h;dsimp only at a d;subst a;rw[i,oS1];exact vI I N step fuel (k+1) g j (by lia) d
  |false=>
   rw[ab (by decide)]at h ⊢;exact dt.mpr h
theorem w6{m:FA}{r:Ev}{S:Sto}{xs:List D}{n:Nat}{Q:yr×Sto->Prop}(hm:m r S=Z ([.ref n],S))(hn:S[n]?=Z (.lst xs))(q:Q (⟨sv 0 xs,[(n,xs)]⟩,S)):W (oa m r S) Q:=by
 refine W.of (x:=(⟨sv 0 xs,[(n,xs)]⟩,S)) ?_ q;simp only[oa,hm,oS1,ga hn,rS hn]
theorem oo:∀{xs:List Nat} {i:Nat} (h:i<xs.length),(xs[i]::xs.eraseIdx i).Perm xs
 |x::xs,0,h=>.refl _
 |x::xs,i+1,h=>by
  rw[List.eraseIdx_cons_succ,List.getElem_cons_succ];exact(List.Perm.swap x _ _).trans ((oo (by simpa using h)).cons x)
theorem sO{xs rs row:List Nat}{i:Nat}{x:Nat}(h:(rs++xs).Perm row)(hx:xs[i]?=Z x):((rs++[x])++xs.eraseIdx i).Perm row:=by
 refine List.Perm.trans ?_ h;rw[bx];refine List.Perm.append_left rs ?_;obtain⟨hi,rfl⟩:=gE1.mp hx;exact oo hi
theorem Ac{xs:List Nat}{i x:Nat}(h:xs[i]?=Z x):(nmD xs)[i]?=Z (.int x):=by rw[nmD,gP1,h];rfl
theorem tq{xs:List Nat}{i:Nat}:(nmD xs).eraseIdx i=nmD (xs.eraseIdx i):=by
 rw[nmD,nmD,b9,b9,cx,List.map_take,List.map_drop]
theorem lb{xs:List Nat}{x:Nat}:nmD xs++[D.int (x:Int)]=nmD (xs++[x]):=by simp[nmD]
theorem Fi{V:Sto}{o:Ob}{n:Nat}{row:List Nat}{h x2 x3 x6 j x8 x9:Option D}{Q:Fl×Ev×Sto->Prop}(ho:Hnd o n)(hn:n<=2^44)(hr:row.length<=4)(q:∀o' rs G,Hnd o' (n+4)->rs.Perm row->Q (.nx,[some (.ref 0),h,x2,x3,some (.ref (V.length+1)),some (.ref (V.length+2)),x6,j,x8,x9],o'::(V ++ .lst [] :: .lst (nmD rs)::G))):
  W (uo gI gH 100000 [Z (.ref 0),h,x2,x3,Z (.ref (V.length+1)),Z (.ref (V.length+2)),x6,j,x8,x9] (o::(V++[.lst (nmD row),.lst []]))) Q:=by
 refine vI (λk r S=>∃o' a rs G,Hnd o' (n+k)/\(rs++a).Perm row/\rs.length=k/\S=o'::(V ++ .lst (nmD a) :: .lst (nmD rs)::G)/\r=[Z (.ref 0),h,x2,x3,Z (.ref (V.length+1)),Z (.ref (V.length+2)),x6,j,x8,x9]) 4 ?_ 100000 0 _ _ (by lia) ⟨o,row,[],[],ho,.refl _,O,O,O⟩;rintro k r S ⟨o',a,rs,G,c,g,u,rfl,rfl⟩;have b:=g.length_eq;rw[lA1]at b;have f:∀(o:Ob) (X:Ob) (ai:Sto),(o::(V++X::ai))[V.length+1]?=Z X:=λo X ai=>by rw[gC1,dz];rfl
 have s:∀(o:Ob) (X wq:Ob) (ai:Sto),(o::(V++X::wq::ai))[V.length+2]?=Z wq:=λo X wq ai=>by rw[gC1,ej];rfl
 refine W.of (x:=(!(nmD a).isEmpty,o'::(V ++ .lst (nmD a) :: .lst (nmD rs)::(G++[.lst []])))) ?_ ?_
 ·have e:(o'::(V++Ob.lst (nmD a)::Ob.lst (nmD rs)::G))++[Ob.lst []]=o'::(V ++ .lst (nmD a) :: .lst (nmD rs)::(G++[.lst []])):=by simp
  unfold gI mB m2 mV eG dj b2;simp only[gC1,cG,cK,oP1,oS1];rw[ae (show([]:List D).length<=da by decide),oS1,e,DD (xs:=nmD a) (f _ _ _) (by rw[<- e,dz];rfl)];rfl
 dsimp only;cases a with
 |nil=>
  rw[show(nmD ([]:List Nat)).isEmpty=M from rfl,ab (by decide)];rw[aG]at g;exact q o' rs _ (c.more (by simp at b;lia)) g
 |cons l a=>
  rw[show(!(nmD (l::a)).isEmpty)=M from rfl,ae O];refine⟨by rw[lC1]at b;lia,?_⟩;unfold gH;walk_at"w";refine gK ?_;walk_at"w";refine⟨V.length+2,nmD rs,O,s _ _ _ _,?_⟩;refine gK ?_;walk_at"w";refine⟨V.length+1,nmD (l::a),O,f _ _ _,?_⟩;refine dW (f _ _ _) ?_;walk_at"w";rw[d4];rw[lC1]at b;refine f0 c (by lia) (by rw[lC1];lia) (by rw[lC1];lia) λd m i t=>?_;obtain⟨x,p⟩:∃x,(l::a)[d]?=some x:=⟨_,gG1 (by lia)⟩;walk_at"w";refine Bz (f _ _ _) (Ac p) (by rw[lC1]at t;lia) ?_;have es:∀X,(m::(V++Ob.lst (nmD (l::a))::Ob.lst (nmD rs)::(G++[Ob.lst []]))).set (V.length+1) X=m::(V++X :: .lst (nmD rs)::(G++[.lst []])):=λX=>by
   rw[cm,cQ _ _ (nR1 _),cr];rfl
  rw[es];walk_at"w";refine(jc (s _ _ _ _)).mpr ⟨dA (by rw[d4];lia),?_⟩;refine⟨m,(l::a).eraseIdx d,rs++[x],G++[.lst []],i.more (by lia),sO g p,by rw[lA1,u];rfl,?_,trivial⟩;rw[cm,cQ _ _ (by lia),show V.length+1-V.length=1 by lia,lb,tq];rfl
def rk(u:Nat)(ks:List Nat):List D:=ks.map λk=>D.ref (u+2+k)
structure RS (R:ji)(ks:List Nat)(G:Sto):Prop where
 len:ks.length=R.length
 row:∀(j k:Nat) (row:List Nat),ks[j]?=some k->R[j]?=some row->G[k]?=some (.lst (nmD row))
theorem RS.app{R:ji}{ks:List Nat}{G H:Sto}(r:RS R ks G):RS R ks (G++H):=
 ⟨r.len,λj k a h1 h2=>by have:=r.row j k a h1 h2;rw[gL1 (gE1.mp this).1];exact this⟩
theorem RS.snoc{R:ji}{ks:List Nat}{G:Sto}{k:Nat}{row:List Nat}(r:RS R ks G)(h:G[k]?=Z (.lst (nmD row))):RS (R++[row]) (ks++[k]) G:=by
 refine⟨by rw[lA1,lA1,r.len];rfl,λj c a h1 h2=>?_⟩;by_cases b:j<ks.length
 ·rw[gL1 b]at h1;rw[gL1 (by rw[<- r.len];exact b)]at h2;exact r.row j c a h1 h2
 ·have:=(gE1.mp h1).1;rw[lA1,aS]at this;have e:j=ks.length:=by lia
  subst e;rw[cR]at h1;rw[r.len,cR]at h2;cases h1;cases h2;exact h
theorem E4{U G:Sto}{ks:List Nat}{o:Ob}{n e i:Nat}{row:List Nat}{x4 x5 x6 c x8 x9:Option D}{Q:Fl×Ev×Sto->Prop}(hi:U[i]? = some (.lst (nmD row)))(ho:Hnd o n)(hn:n<=2^44)(hr:row.length<=4)(hk:ks.length<=100)(q:∀o' rs p k f l,Hnd o' (n+4)->rs.Perm row->(G++p)[k]?=some (.lst (nmD rs))->Q (.nx,[some (.ref 0),some (.ref e),some (.ref (U.length+1)),some (.ref (i+1)),f,l,x6,c,x8,x9],o'::(U ++ .lst (rk U.length (ks++[k]))::(G++p)))):
  W (gF [Z (.ref 0),Z (.ref e),Z (.ref (U.length+1)),Z (.ref (i+1)),x4,x5,x6,c,x8,x9] (o::(U ++ .lst (rk U.length ks)::G))) Q:=by
 generalize b:U ++ .lst (rk U.length ks)::G=V;have g:V.length=U.length+1+G.length:=by rw[<- b];simp;lia
 have m:V[i]?=Z (.lst (nmD row)):=by rw[<- b,gL1 (gE1.mp hi).1];exact hi
 have j:V[U.length]?=Z (.lst (rk U.length ks)):=by rw[<- b,dz];rfl
 unfold gF;refine dL (λr S=>S=o::(V++[.lst (nmD row),.lst []])/\r=[Z (.ref 0),Z (.ref e),Z (.ref (U.length+1)),Z (.ref (i+1)),Z (.ref (V.length+1)),Z (.ref (V.length+2)),x6,c,x8,x9]) ?_ ?_
 ·have s:∀S:Sto,S[i+1]?=Z (.lst (nmD row))->rB (.ref (i+1)) S=Z (.ref S.length,S++[.lst (nmD row)]):=λS h=>by unfold rB;rw[ga h];rfl
  ((try walk_at"w");repeat(simp only[s (o::V) (by rw[gC1];exact m)];try walk_at"w"))
 rintro r S ⟨rfl,rfl⟩;refine dL (λr S=>∃o' rs G2,Hnd o' (n+4)/\rs.Perm row/\S=o'::(V ++ .lst [] :: .lst (nmD rs)::G2)/\r=[Z (.ref 0),Z (.ref e),Z (.ref (U.length+1)),Z (.ref (i+1)),Z (.ref (V.length+1)),Z (.ref (V.length+2)),x6,c,x8,x9]) ?_ ?_
 ·refine Fi ho hn hr λo' rs G2 h1 h2=>⟨O,o',rs,G2,h1,h2,O,O⟩
 rintro r S ⟨o',rs,G2,d,u,rfl,rfl⟩;have a:(o'::(V++Ob.lst []::Ob.lst (nmD rs)::G2))[U.length+1]?=Z (.lst (rk U.length ks)):=by
  rw[gC1,gL1 (by lia)];exact j
 walk_at"w";refine gK ?_;walk_at"w";refine⟨U.length+1,_,O,a,?_⟩;refine(jc a).mpr ⟨dA (by unfold rk;rw[lM1];lia),?_⟩;have es:(o'::(V++Ob.lst []::Ob.lst (nmD rs)::G2)).set (U.length+1) (.lst (rk U.length ks++[.ref (V.length+2)]))=o'::(U ++ .lst (rk U.length (ks++[G.length+1]))::(G++Ob.lst []::Ob.lst (nmD rs)::G2)):=by
  have t:rk U.length ks++[.ref (V.length+2)]=rk U.length (ks++[G.length+1]):=by
   unfold rk;rw[cx,g,show U.length+1+G.length+2=U.length+2+(G.length+1) by lia];rfl
  rw[t,<- b,cm,bx,cQ _ _ (nR1 _),cr];rfl
 rw[es];exact q o' rs _ (G.length+1) _ _ d u (by rw[ej];rfl)
theorem JV{m a b:FE}{r:Ev}{S:Sto}{n v:Nat}{kv:List (Key×D)}{Q:D×Sto->Prop}(hm:m r S=Z (.ref n,S))(ha:a r S=Z (.int v,S))(hb:b r S=Z (.ref S.length,S++[.lst []]))(hn:S[n]? = Z (.dct kv))(e:kv.length<1000)(h1:∀z,dF kv (Sum.inl (v:Int))=Z z->Q (z,S++[.lst []]))(h2:dF kv (Sum.inl (v:Int))=Y->Q (.ref S.length,(S++[Ob.lst []]).set n (.dct (gO kv (Sum.inl (v:Int)) (.ref S.length))))):W (nW m a b r S) Q:=by
 have c:(S++[Ob.lst []])[n]?=Z (.dct kv):=by rw[gL1 (gE1.mp hn).1];exact hn
 have d:kv.length<da:=nL1 e (by decide);cases hk:dF kv (Sum.inl (v:Int))with
 |some z=>
  refine W.of ?_ (h1 z hk);simp only[nW,hm,oS1,hn,ha,hb,c,rj,ae d,hk]
 |none=>
  refine W.of ?_ (h2 hk);simp only[nW,hm,oS1,hn,ha,hb,c,rj,ae d,hk]
theorem CA{X H:Sto}{o:Ob}{A:Pl}{kv:List (Key×D)}{i j v:Nat}{k x2 x3 x4 x5:Option D}{Q:Fl×Ev×Sto->Prop}(P:PL (X.length+2) A kv H)(B:A.length<100)(q:∀a H',PL (X.length+2) (A++[((i,j),v)]) a H'->Q (.nx,[some (.ref 0),k,x2,x3,x4,x5,some (.ref (X.length+1)),some (.int (i:Nat)),some (.int (j:Nat)),some (.int (v:Nat))],o::(X ++ .dct a::H'))):
  W (gE [Z (.ref 0),k,x2,x3,x4,x5,Z (.ref (X.length+1)),Z (.int (i:Nat)),Z (.int (j:Nat)),Z (.int (v:Nat))] (o::(X ++ .dct kv::H))) Q:=by
 have C:=P.few;have w:∀(o:Ob) (wq:Ob) (ai:Sto),(o::(X++wq::ai))[X.length+1]?=Z wq:=λo wq ai=>by rw[gC1,dz];rfl
 have u:∀(o:Ob) (wq:Ob) (ai:Sto) (h:Nat),(o::(X++wq::ai))[X.length+2+h]?=ai[h]?:=λo wq ai h=>by rw[show X.length+2+h=X.length+(h+1)+1 by lia,gC1,ej];rfl
 have y:(o::(X++Ob.dct kv::H)).length=X.length+2+H.length:=by simp;lia
 have s:(o::(X++Ob.dct kv::H))++[Ob.lst []]=o::(X ++ .dct kv::(H++[.lst []])):=by simp
 have st:∀(wq:Ob) (ai:Sto) (h:Nat) (V:Ob),(o::(X++wq::ai)).set (X.length+2+h) V=o::(X++wq::ai.set h V):=λwq ai h V=>by
  rw[show X.length+2+h=X.length+(h+1)+1 by lia,cm,cQ _ _ (by lia),show X.length+(h+1)-X.length=h+1 by lia];rfl
 have g:∀ (a:List (Key×D)) (H1:Sto) (h:Nat) (ys:List (Nat×Nat)) (m:Sto),m=o::(X ++ .dct a::H1)->H1[h]? = some (.lst (ys.map pD))->ys.length<200->PL (X.length+2) (A++[((i,j),v)]) a (H1.set h (.lst (ys.map pD++[pD (i,j)]))) ->
   ∃n xs,D.ref (X.length+2+h) = .ref n/\m[n]?=Z (.lst xs)/\W (di (dJ (di (mV 7) (di (mV 8) dj))) dj [Z (.ref 0),k,x2,x3,x4,x5,Z (.ref (X.length+1)),Z (.int (i:Nat)),Z (.int (j:Nat)),Z (.int (v:Nat))] m) λq=>W (b2 gB (.ref n::q.1) q.2) λp=>W (Z (Fl.nx,[Z (.ref 0),k,x2,x3,x4,x5,Z (.ref (X.length+1)),Z (.int (i:Nat)),Z (.int (j:Nat)),Z (.int (v:Nat))],p.2)) Q:=by
  rintro a H1 h ys m rfl e r t;have b:=u o (.dct a) H1 h;rw[e]at b;refine⟨X.length+2+h,_,O,b,?_⟩;walk_at"w";refine(jc b).mpr ⟨dA (by rw[lM1];lia),?_⟩;have:=q a _ t;rw[<- st]at this;exact this
 unfold gE;unfold eK;rw[dk];refine gK ?_;refine JV (n:=X.length+1) (v:=v) (kv:=kv) O O ?_ (w _ _ _) (by lia) (λz c=>?_) (λc=>?_)
 ·unfold eG dj;rw[oS1];rfl
 ·by_cases d:ps A v=[]
  ·rw[P.no v d]at c;cases c
  ·obtain⟨h,l,b⟩:=P.yes v d;rw[l]at c;cases c;have r:=(gE1.mp b).1;refine g kv (H++[.lst []]) h (ps A v) _ s (by rw[gL1 r];exact b) ?_ (P.old d l b);unfold ps;rw[lM1];have:=cN (λx=>x.2 == v) A;lia
 ·by_cases d:ps A v=[]
  ·have f:=P.new (p:=(i,j)) d;rw[y];refine g (gO kv (Sum.inl (v:Int)) (.ref (X.length+2+H.length))) (H++[.lst []]) H.length [] _ ?_ (by rw[gR1 (nR1 _),cr];rfl) (by simp) ?_
   ·rw[s,cm,cQ _ _ (nR1 _),cr];rfl
   ·rw[cQ _ _ (nR1 _),cr];exact f
  ·obtain⟨h,l,b⟩:=P.yes v d;rw[l]at c;cases c
abbrev dr:=List (List (Nat×Nat))
def webD(w:dr):D:=.tup (w.map λrow=>.tup (row.map pD))
theorem d6(w:dr):(webD w).und 0=M:=by
 unfold webD;rw[D.und];exact eI λa _=>by rw[D.und];exact eI λ_ _=>rfl
def uK(A:Pl)(i:Nat)(row:List Nat):List (Nat×Nat):=row.zipIdx.map λq=>jp A q.1 (i,q.2)
def km(R:ji):dr:=R.zipIdx.map λp=>uK (eV 0 R) p.2 p.1
theorem p7{R:ji}{i:Nat}:(km R)[i]?=(R[i]?).map (uK (eV 0 R) i):=by
 unfold km;rw[gP1,cS];cases R[i]? <;> simp
structure uj (E R:ji):Prop where
 len:R.length=E.length
 row:∀(i:Nat) (r e:List Nat),R[i]?=some r->E[i]?=some e->r.Perm e
theorem uj.snoc{E R:ji}{i:Nat}{r e:List Nat}(h:uj (E.take i) R)(he:E[i]?=Z e)(p:r.Perm e):uj (E.take (i+1)) (R++[r]):=by
 have hi:=(gE1.mp he).1;have a:R.length=i:=by have:=h.len;rw[aL]at this;lia
 refine⟨by rw[lA1,aL,a,aS];lia,λj c b h1 h2=>?_⟩;by_cases d:j<i
 ·rw[gL1 (by lia)]at h1;rw[aN (by lia)]at h2;exact h.row j c b h1 (by rw[aN d];exact h2)
 ·have:=(gE1.mp h1).1;rw[lA1,aS]at this;have e:j=i:=by lia
  subst e;rw[aN (by lia),he]at h2;rw[<- a,cR]at h1;cases h1;cases h2;exact p
theorem lP:∀{E R:ji},uj E R->R.flatten.Perm E.flatten
 |[],[],_=>.refl _
 |[],_::_,h=>by have:=h.len;simp at this
 |_::_,[],h=>by have:=h.len;simp at this
 |e::E,r::R,h=>(h.row 0 r e O O).append (lP ⟨by simpa using h.len,λi a b h1 h2=>h.row (i+1) a b h1 h2⟩)
theorem uL{m k l i j a:Nat}{E R:ji}{row:List Nat}(v:WE m E k l)(sh:uj E R)(hr:R[i]?=Z row)(ha:row[j]?=Z a):(ps (eV 0 R) a).length=2:=by
 rw[Fz,tU,(lP sh).count_eq,v.ct a];have b:a∈R.flatten:=List.mem_flatten.mpr ⟨row,gM1 hr,gM1 ha⟩;have:=List.count_pos_iff.mpr b;rw[(lP sh).count_eq,v.ct a]at this;split at this
 ·rename_i h;rw[ae h]
 ·lia
theorem Ek{u j k:Nat}{ks:List Nat}(h:ks[j]?=Z k):(rk u ks)[j]?=Z (.ref (u+2+k)):=by unfold rk;rw[gP1,h];rfl
theorem qo{u:Nat}{ks:List Nat}:(rk u ks).length=ks.length:=by unfold rk;rw[lM1]
theorem wJ{S:Sto}{n v:Nat}{F:List (Key×D)}{d:D}{Q:D×Sto->Prop}(h:S[n]?=Z (.dct F))(a:dF F (Sum.inl (v:Int))=Z d)(q:Q (d,S)):W (dv (.ref n) (.int (v:Nat)) S) Q:=by
 refine W.of ?_ q;simp only[dv,mT,h,rj,oS1,a,oP1]
theorem JC{a:Nat×Nat}{i j:Nat}{S:Sto}:gEq (pD a) (.tup [.int i,.int j]) S=Z (.bl (a == (i,j)),S):=by
 have:=vb (S:=S) (n:=58) (a:=a) (b:=(i,j));show(kx S dV (pD a) (pD (i,j))).map _=_;unfold dV;rw[this];rfl
inductive DI (E:ji)(U:Sto)(t m n:Nat):Nat->Ev->Sto->Prop
 |mk (i:Nat) (R:ji) (ks:List Nat) (G:Sto) (o':Ob) (x3 x4 x5:Option D) (hi:i<=m) (sh:uj (E.take i) R) (rs:RS R ks G) (ho:Hnd o' (n+4*i)):DI E U t m n i [some (.ref 0),some (.ref (t+m+1)),some (.ref (U.length+1)),x3,x4,x5,none,none,none,none] (o'::(U ++ .lst (rk U.length ks)::G))
inductive DJ (R:ji)(X:Sto)(o':Ob)(a b:Nat)(x3 x4:Option D)(m:Nat):Nat->Ev->Sto->Prop
 |mk (i:Nat) (kv:List (Key×D)) (H:Sto) (x5 x7 x8 x9:Option D) (hi:i<=m) (P:PL (X.length+2) (eV 0 (R.take i)) kv H):DJ R X o' a b x3 x4 m i [some (.ref 0),some (.ref a),some (.ref b),x3,x4,x5,some (.ref (X.length+1)),x7,x8,x9] (o'::(X ++ .dct kv::H))
inductive DK (R:ji)(X:Sto)(o':Ob)(a b:Nat)(x3 x4:Option D)(x5:Nat)(i:Nat)(row:List Nat):Nat->Ev->Sto->Prop
 |mk (j:Nat) (kv:List (Key×D)) (H:Sto) (x8 x9:Option D) (hj:j<=row.length) (P:PL (X.length+2) (eV 0 (R.take i)++g8 i (row.take j)) kv H):DK R X o' a b x3 x4 x5 i row j [some (.ref 0),some (.ref a),some (.ref b),x3,x4,some (.ref x5),some (.ref (X.length+1)),some (.int (i:Nat)),x8,x9] (o'::(X ++ .dct kv::H))
theorem A8{t m n k:Nat}{T U:Sto}{E:ji}{o:Ob}{Q:D×Sto->Prop}(w:WN t m T E U)(v:WE m E k (m-1))(ho:Hnd o n)(hn:n<=2^43)(hm:m<=8)(q:∀R o',uj E R->Hnd o' (n+40)->Q (webD (km R),o'::U)):W (dn 2 fM [.ref 0,.ref (t+m+1)] (o::U)) Q:=by
 refine ue O O (br.mpr w.cl) ?_;unfold fM;refine jg ?_;unfold kj;have hlE:=w.el;refine dL (λr S=>S=o::(U ++ .lst (rk U.length [])::[])/\r=[Z (.ref 0),Z (.ref (t+m+1)),Z (.ref (U.length+1)),Y,Y,Y,Y,Y,Y,Y]) ?_ ?_
 ·walk_at"w";exact⟨O,trivial⟩
 rintro r S ⟨rfl,rfl⟩;refine dL (DI E U t m n m) ?_ ?_
 ·have y:∀(o:Ob) (ai:Sto),(o::(U++ai))[t+m+1]?=Z (.lst (jY (t+1) m)):=λo ai=>by rw[gC1,gL1 (gE1.mp w.ends).1];exact w.ends
  walk_at"w";refine dW (y _ _) ?_;refine ez (DI E U t m n) _ 0 _ _ (.mk 0 [] [] [] o Y Y Y (a0 _) ⟨O,λi r e h=>by simp at h⟩ ⟨O,λj k row h=>by simp at h⟩ ho) ?_ ?_ ?_
  ·rintro i r S ⟨R,ks,G,o',ah,V,aj,_,_,_,_⟩;exact eY (y _ _)
  ·rintro i d g r S ⟨R,ks,G,o',ah,V,aj,hi,sh,rs,F⟩;have c:=(gE1.mp g).1;dsimp only at c g;rw[k0]at c;rw[bH]at *
   rw[qp c]at g;cases g;obtain⟨row,b⟩:∃row,E[i]?=some row:=⟨_,gG1 (by lia)⟩;have hks:ks.length=i:=by rw[rs.len,sh.len,aL];lia
   walk_at"w";rw[show t+1+i=t+i+1 by lia];refine E4 (i:=t+i) (w.row i row b) F (by lia) (v.le i row b) (by lia) λo2 rs2 G2 k2 x4' x5' h1 h2 h3=>?_;exact⟨O,.mk _ (R++[rs2]) (ks++[k2]) (G++G2) o2 _ _ _ c (sh.snoc b h2) (rs.app.snoc h3) (h1.more (nR1 _))⟩
  ·intro r S h;rw[k0,bH]at h;exact⟨O,h⟩
 rintro r S ⟨R,ks,G,o',ah,V,aj,_,sh,rs,F⟩;rw[bZ (Nat.le_of_eq hlE)]at sh;generalize hX:U ++ .lst (rk U.length ks)::G=X;have C:R.length=m:=by rw[sh.len];exact hlE
 have ag:∀(i:Nat) (row:List Nat),R[i]?=Z row->row.length<=4:=λi row h=>by
  obtain⟨e,he⟩:∃e,E[i]?=some e:=⟨_,gG1 (by have:=(gE1.mp h).1;lia)⟩;rw[(sh.row i row e h he).length_eq];exact v.le i e he
 have gk:∀(o:Ob) (ai:Sto),(o::(X++ai))[U.length+1]?=Z (.lst (rk U.length ks)):=λo ai=>by
  rw[<- hX,gC1,bx,dz];rfl
 have s:∀(o:Ob) (ai:Sto) (i k:Nat) (row:List Nat),ks[i]?=Z k->R[i]?=Z row->(o::(X++ai))[U.length+2+k]?=Z (.lst (nmD row)):=λo ai i k row h1 h2=>by
  have e:=rs.row i k row h1 h2;rw[<- hX,show U.length+2+k=U.length+(k+1)+1 by lia,gC1,bx,ej,ba,gC1,gL1 (gE1.mp e).1];exact e
 refine dL (λr S=>S=o'::(X ++ .dct []::[])/\r=[Z (.ref 0),Z (.ref (t+m+1)),Z (.ref (U.length+1)),ah,V,aj,Z (.ref (X.length+1)),Y,Y,Y]) ?_ ?_
 ·((try walk_at"w");repeat(simp only[ik];try walk_at"w"))
 rintro r S ⟨rfl,rfl⟩;have lenA:∀i,i<=m->(eV 0 (R.take i)).length<=4*i:=by
  intro i
  induction i with
  |zero=>intro _;simp[eV]
  |succ i ih=>
   intro hi;obtain⟨row,b⟩:∃row,R[i]?=some row:=⟨_,gG1 (by lia)⟩;rw[l6 b,lA1];have:=ih (by lia);have:=ag i row b;simp[g8];lia
 refine dL (DJ R X o' (t+m+1) (U.length+1) ah V m m) ?_ ?_
 ·unfold eR;rw[dk];refine w6 (n:=U.length+1) O (gk _ _) ?_;refine ez (DJ R X o' (t+m+1) (U.length+1) ah V m) _ 0 _ _ (.mk 0 [] [] _ _ _ _ (a0 _) ⟨λv _=>rfl,λv h=>(h O).elim,λv u h e=>by simp[dF]at e,by simp⟩) ?_ ?_ ?_
  ·rintro i r S ⟨A,H,aj,x7,x8,x9,_,_⟩;exact eY (gk _ _)
  ·rintro i d g r S ⟨A,H,aj,x7,x8,x9,hi,P⟩;dsimp only at g;rw[fO]at g;obtain⟨z,B,rfl⟩:=oM1.mp g;have c:=(gE1.mp B).1;rw[qo]at c;obtain⟨k2,l⟩:∃k2,ks[i]?=some k2:=⟨_,gG1 c⟩;rw[Ek l]at B;cases B;have hil:i<m:=by rw[<- C,<- rs.len];exact c
   obtain⟨row,b⟩:∃row,R[i]?=some row:=⟨_,gG1 (by lia)⟩;rw[bH]at *
   walk_at"w";unfold i7 eR;rw[dk];refine w6 (n:=U.length+2+k2) O (s _ _ i k2 row l b) ?_;refine ez (DK R X o' (t+m+1) (U.length+1) ah V (U.length+2+k2) i row) _ 0 _ _ (.mk 0 A H _ _ (a0 _) (by simpa[g8]using P)) ?_ ?_ ?_
   ·rintro j r S ⟨A,H,x8,x9,_,_⟩;exact eY (s _ _ i k2 row l b)
   ·rintro j d g r S ⟨A,H,x8,x9,hj,P⟩;dsimp only at g;rw[fO]at g;obtain⟨z,B,rfl⟩:=oM1.mp g;rw[nmD,gP1]at B;obtain⟨way,I,rfl⟩:=oM1.mp B;have hjl:=(gE1.mp I).1;rw[bH]at *
    have:=lenA i (by lia);have:=ag i row b;walk_at"w";refine CA P (by rw[lA1];simp[g8];lia) λkv' H' P'=>?_;rw[bx,<- zF I]at P';exact⟨O,.mk _ kv' H' _ _ hjl P'⟩
   ·rintro r S ⟨A,H,x8,x9,hj,P⟩;rw[fN,d4,bH,bP]at P;refine⟨O,.mk _ A H _ _ _ _ hil ?_⟩;rw[l6 b,bH];exact P
  ·intro r S h;rw[fN,qo,rs.len,bH,C]at h;exact⟨O,h⟩
 rintro r S ⟨A,H,aj,x7,x8,x9,_,P⟩;rw[bZ (Nat.le_of_eq C)]at P;obtain⟨ai,hY⟩:∃ai,ai=Ob.dct A::H:=⟨_,O⟩;rw[<- hY];have cnt:∀(i j a:Nat) (row:List Nat),R[i]?=Z row->row[j]?=Z a -> ∃p N h,ps (eV 0 R) a=[p,N]/\dF A (Sum.inl (a:Int))=Z (.ref (X.length+2+h))/\H[h]?=Z (.lst [pD p,pD N]):=by
  intro i j a row hr ha;have h2:=uL v sh hr ha;obtain⟨p,N,e⟩:=yV h2;obtain⟨h,e1,e2⟩:=P.yes a (by rw[e];simp);rw[e]at e2;exact⟨p,N,h,e,e1,e2⟩
 have gY:∀(o:Ob) (wq:Sto) (h:Nat) (x:Ob),H[h]?=Z x->(o::(X++(ai++wq)))[X.length+2+h]?=Z x:=λo wq h x e=>by
  rw[hY,show X.length+2+h=X.length+(h+1)+1 by lia,gC1,ej,ba,gC1,gL1 (gE1.mp e).1];exact e
 have gd:∀(o:Ob) (wq:Sto),(o::(X++(ai++wq)))[X.length+1]?=Z (.dct A):=λo wq=>by rw[hY,gC1,dz];rfl
 walk_at"w";refine w6 (n:=U.length+1) O (gk _ _) ?_;refine il (λi K r S=>∃wq x0 L,S=o'::(X++(ai++wq))/\r=[x0,L,Z (.ref (X.length+1))]/\K=(((km R).take i).map λrow=>.tup (row.map pD))) _ 0 [] _ _ ⟨[],Y,Y,by rw[aG],O,O⟩ ?_ ?_ ?_
 ·rintro i K r S ⟨wq,x0,L,rfl,_⟩;exact eY (gk _ _)
 ·rintro i d g K r S ⟨wq,x0,L,rfl,rfl,rfl⟩;dsimp only at g;rw[fO]at g;obtain⟨z,B,rfl⟩:=oM1.mp g;have c:=(gE1.mp B).1;rw[qo]at c;obtain⟨k2,l⟩:∃k2,ks[i]?=some k2:=⟨_,gG1 c⟩;rw[Ek l]at B;cases B;obtain⟨row,b⟩:∃row,R[i]?=some row:=⟨_,gG1 (by rw[<- rs.len];exact c)⟩;rw[bH]at *
  have hl:=ag i row b;walk_at"w";refine w6 (n:=U.length+2+k2) O (s _ _ i k2 row l b) ?_;dsimp only;rw[nmD,A7];refine jZ (f:=λp:Nat×Nat=>D.tup [.int p.2,.int p.1]) (λp=>pD (jp (eV 0 R) p.1 (i,p.2))) (λr=>∃x0 L,r=[x0,L,Z (.ref (X.length+1)),Z (.int (i:Nat))]) (eY (s _ _ i k2 row l b)) row.zipIdx _ ⟨_,_,O⟩ ?_ ?_
  ·rintro⟨a,j⟩ ha r ⟨y0,y1,rfl⟩;obtain⟨p,N,h,c1,c2,c3⟩:=cnt i j a row b (xb ha);have c4:=gY o' wq h _ c3;walk_at"w";refine wJ (gd _ _) c2 ?_;refine wJ (gd _ _) c2 ?_;refine iL (i:=0) (x:=pD p) c4 O ?_
   ((try walk_at"w");repeat(simp only[JC];try walk_at"w"))
   by_cases hp:p=(i,j)
   ·rw[show(p == (i,j))=M by rw[hp];simp];walk_at"w";refine iL (i:=1) (x:=pD N) c4 O ?_;refine⟨?_,O,_,_,O⟩;simp[jp,c1,hp]
   ·rw[show(p == (i,j))=J by simp[hp]];walk_at"w";refine iL (i:=0) (x:=pD p) c4 O ?_;refine⟨?_,O,_,_,O⟩;simp[jp,c1,hp]
  ·rintro r' _;walk_at"w";refine⟨dA (by rw[lM1,List.length_zipIdx];lia),?_⟩;refine dW (xs:=row.zipIdx.map λp=>pD (jp (eV 0 R) p.1 (i,p.2))) (by rw[gC1];simp only[<- lA1,<- bb,<- bx];rw[dz];rfl) ?_;refine⟨wq++[Ob.lst (row.zipIdx.map λp=>pD (jp (eV 0 R) p.1 (i,p.2)))],_,_,O,O,?_⟩;rw[cy,p7,b];simp[uK,Function.comp_def]
 ·rintro xs r S ⟨wq,x0,L,rfl,rfl,e⟩;dsimp only at e;have hwl:(km R).length=m:=by unfold km;simp[C]
  rw[cI,bH,fN,qo,rs.len,bZ (by lia)]at e;subst e;walk_at"w";refine⟨dA (by rw[lM1];lia),?_⟩;refine dW (xs:=(km R).map λrow=>.tup (row.map pD)) (by rw[gC1];simp only[<- lA1,<- bb,<- bx];rw[dz];rfl) ?_;refine⟨webD (km R),o',(.lst (rk U.length ks)::G)++(ai++(wq++[Ob.lst ((km R).map λrow=>.tup (row.map pD))])),?_,d6 _,F.und,q R o' sh (F.more (by lia))⟩;rw[<- hX];simp only[bx];rfl
def At(w:dr)(r d:Nat)(e:Nat×Nat):Prop:=∃row,w[r]?=Z row/\row[d]?=Z e
structure WebJ (m:Nat)(w:dr):Prop where
 len:w.length=m
 le:∀(i:Nat) (row:List (Nat×Nat)),w[i]?=some row->row.length<=4
 to:∀(r d:Nat) (e:Nat×Nat),At w r d e->e.1<m
 jn:∀j,1<=j->j<m -> ∃a d e,a<j/\At w a d e/\e.1=j
structure se (m:Nat)(w:dr):Prop extends WebJ m w where
 back:∀(r d:Nat) (e:Nat×Nat),At w r d e->At w e.1 e.2 (r,d)/\e≠(r,d)
theorem Hw{R:ji}{i j:Nat}{e:Nat×Nat}:At (km R) i j e ↔ ∃b a,R[i]?=Z b/\b[j]?=Z a/\e=jp (eV 0 R) a (i,j):=by
 unfold At;rw[p7];constructor
 ·rintro⟨b,h1,h2⟩;obtain⟨c,f,rfl⟩:=oM1.mp h1;unfold uK at h2;rw[gP1,cS]at h2;obtain⟨x,g,rfl⟩:=oM1.mp h2;obtain⟨a,d,rfl⟩:=oM1.mp g;exact⟨c,a,f,d,by simp⟩
 ·rintro⟨b,a,h1,h2,rfl⟩;refine⟨uK (eV 0 R) i b,by rw[h1];rfl,?_⟩;unfold uK;rw[gP1,cS,h2];simp
theorem nf{R:ji}{i j a:Nat}:((i,j),a)∈eV 0 R ↔ ∃b,R[i]?=Z b/\b[j]?=Z a:=by
 rw[nV];constructor
 ·rintro⟨d,b,h1,h2,c⟩;rw[bH]at h1;dsimp only at h1;subst h1;exact⟨b,h2,c⟩
 ·rintro⟨b,h2,c⟩;exact⟨i,b,(bH i).symm,h2,c⟩
theorem BX{m k:Nat}{E R:ji}(v:WE m E k (m-1))(sh:uj E R):se m (km R):=by
 have y:R.length=m:=by rw[sh.len];exact v.len
 have D:∀(i:Nat) (b:List Nat),R[i]?=Z b -> ∃e,E[i]?=Z e/\b.Perm e:=λi b h=>by
  obtain⟨e,o⟩:∃e,E[i]?=some e:=⟨_,gG1 (by have:=(gE1.mp h).1;rw[v.len];lia)⟩;exact⟨e,o,sh.row i b e h o⟩
 have l:∀(r d:Nat) (e:Nat×Nat),At (km R) r d e->At (km R) e.1 e.2 (r,d)/\e≠(r,d)/\e.1<m:=λr d e h=>by
  obtain⟨b,a,h1,h2,rfl⟩:=Hw.mp h;obtain⟨K,p2,B,_⟩:=wc rK (uL v sh h1 h2) (nf.mpr ⟨b,h1,h2⟩);generalize jp (eV 0 R) a (r,d)=g at *
  obtain⟨c,q,N⟩:=(nf (i:=g.1) (j:=g.2)).mp K;refine⟨Hw.mpr ⟨c,a,q,N,B.symm⟩,p2,?_⟩;have:=(gE1.mp q).1;lia
 refine⟨⟨by unfold km;simp[y],λi b h=>?_,λr d e h=>(l r d e h).2.2,λj h1 h2=>?_⟩,λr d e h=>⟨(l r d e h).1,(l r d e h).2.1⟩⟩
 ·rw[p7]at h;obtain⟨c,q,rfl⟩:=oM1.mp h;obtain⟨e,o,p⟩:=D i c q;unfold uK;rw[lM1,List.length_zipIdx,p.length_eq];exact v.le i e o
 ·obtain⟨a,F,C,x,H,aj,ag,L,ah⟩:=v.jn j h1 (by lia);obtain⟨w,f⟩:∃s,R[a]?=some s:=⟨_,gG1 (by lia)⟩;obtain⟨A,n⟩:∃s,R[j]?=some s:=⟨_,gG1 (by lia)⟩;obtain⟨d,u⟩:=bi ((sh.row a w F f aj).mem_iff.mpr L);obtain⟨G,t⟩:=bi ((sh.row j A C n ag).mem_iff.mpr ah);obtain⟨_,_,_,I⟩:=wc rK (uL v sh f u) (nf.mpr ⟨w,f,u⟩);rcases I (j,G) (nf.mpr ⟨A,n,t⟩)with z|z
  ·injection z with Q P;lia
  ·exact⟨a,d,_,H,Hw.mpr ⟨w,x,f,u,O⟩,by rw[<- z]⟩
theorem Cz{o:Ob}{n a:Nat}{T:Sto}{Q:D×Sto->Prop}(ho:Hnd o n)(hn:n<=2^40)(aj:T.all (Ob.und (T.length+1))=M)(h0:1<=a)(h8:a<=8)(h:∀m w o',0<m->m<=a->se m w->Hnd o' (n+100)->Q (webD w,o'::T)):W (dn 2 e9 [.ref 0,.int a] (o::T)) Q:=by
 refine ue O O aj ?_;unfold e9;refine jg ?_;unfold iK;generalize L:T.length=t;refine dL (λr S=>∃(m:Nat) (s:Ob),0<m/\m<=a/\Hnd s (n+1)/\r=[Z (.ref 0),Z (.int a),Z (.int m),Z (.int ((0:Nat):Int)),Y,Y,Y,Y,Y,Y]/\S=s::T) ?_ ?_
 ·walk_at"w";refine f0 ho (by lia) (by lia) (by lia) λc s u hc=>?_;walk_at"w";exact⟨c+1,s,by lia,by lia,u,by simp[Int.add_comm],O⟩
 rintro r S ⟨m,s,A,X,u,rfl,rfl⟩;refine dL (λr S=>∃U,WN t m T (aJ m []) U/\r=[Z (.ref 0),Z (.int a),Z (.int m),Z (.int ((0:Nat):Int)),Z (.ref (t+m+1)),Y,Y,Y,Y,Y]/\S=s::U) ?_ ?_
 ·walk_at"w";refine⟨fQ (by lia),?_⟩;rw[Int.toNat_natCast];refine il (λi B r S=>B=jY (t+1) i/\S=s::(T++aJ i (.lst [])) /\ ∃x,r=[x]) (gy 0 m) 0 [] _ _ ⟨O,by simp,_,O⟩ (λ_ _ _ _ _=>rfl) ?_ ?_
  ·rintro i d z B r S ⟨rfl,rfl,x,rfl⟩;walk_at"w";rw[bH];refine⟨?_,?_,_,O⟩
   ·rw[pf,L,lR1]
    congr 3
    lia
   ·rw[List.replicate_succ']
  ·rintro xs r S ⟨e,rfl,_⟩;rw[cI,bH,eJ]at e;subst e;rw[bH,eJ];walk_at"w";rw[k0];refine⟨dA (by lia),_,yG L aj,?_,O⟩;simp[L]
 rintro r S ⟨V,w0,rfl,rfl⟩;refine dL (λr S=>∃E k f U g x6 l,WN t m T E U/\WE m E k (m-1)/\Hnd f (n+20)/\r=[Z (.ref 0),Z (.int a),Z (.int m),Z (.int (k:Nat)),Z (.ref (t+m+1)),g,x6,l,Y,Y]/\S=f::U) ?_ ?_
 ·walk_at"w";refine⟨rZ (by decide) (by decide),fQ (by lia),?_⟩;refine ez (λi r S=>i<=m-1 /\ ∃E f U g x6 l,WN t m T E U/\WE m E i i/\(∀j y,i+1<=j->E[j]?=Z y->y=[])/\Hnd f (n+1+i)/\r=[Z (.ref 0),Z (.int a),Z (.int m),Z (.int (i:Nat)),Z (.ref (t+m+1)),g,x6,l,Y,Y]/\S=f::U) _ 0 _ _ ?_ (λ_ _ _ _=>rfl) ?_ ?_
  ·refine⟨by lia,_,s,V,Y,Y,Y,w0,yK m,λj y _ C=>?_,u,O,O⟩;rw[aM]at C;split at C
   ·cases C;rfl
   ·cases C
  ·rintro i d z r S ⟨hi,E,f,U,g,x6,l,w,v,P,b,rfl,rfl⟩;have p:=(gE1.mp z).1;rw [eJ] at p;have G:d = .int ((i+1:Nat):Int):=by
    rw[m6,gP1,ca p]at z;simp at z;rw[<- z]
    push_cast
    congr 1
    lia
   subst G;rw[bH]at *
   walk_at"w";refine E8 w v b (by lia) (by lia) (by lia) P λag o' F x6' H ah K q I=>?_;exact⟨O,by lia,ag,o',F,_,_,_,ah,K,I,q.more (by lia),O,O⟩
  ·rintro r S ⟨hi,E,f,U,g,x6,l,w,v,P,b,rfl,rfl⟩;rw[eJ,bH]at *
   have e:((m:Int)-1).toNat=m-1:=by lia
   rw[e]at v b ⊢;exact⟨O,E,m-1,f,U,g,x6,l,w,v,b.more (by lia),O,O⟩
 rintro r S ⟨E,k,f,U,g,x6,l,w,v,b,rfl,rfl⟩;refine dL (λr S=>∃E k f U g x6 l x8 x9,WN t m T E U/\WE m E k (m-1)/\Hnd f (n+50)/\r=[Z (.ref 0),Z (.int a),Z (.int m),Z (.int (k:Nat)),Z (.ref (t+m+1)),g,x6,l,x8,x9]/\S=f::U) ?_ ?_
 ·walk_at"w";refine f0 b (by lia) (by lia) (by lia) λc wq N hc=>?_;walk_at"w";refine⟨fQ (by lia),?_⟩;rw[Int.toNat_natCast];refine ez (λi r S=>i<=c /\ ∃E k f U g x6 l x8 x9,WN t m T E U/\WE m E k (m-1)/\Hnd f (n+21+2*i)/\r=[Z (.ref 0),Z (.int a),Z (.int m),Z (.int (k:Nat)),Z (.ref (t+m+1)),g,x6,l,x8,x9]/\S=f::U) _ 0 _ _ ⟨by lia,E,k,wq,U,g,x6,l,Y,Y,w,v,N,O,O⟩ (λ_ _ _ _=>rfl) ?_ ?_
  ·rintro i d z r S ⟨hi,E,k,f,U,g,x6,l,x8,x9,w,v,b,rfl,rfl⟩;have p:=(gE1.mp z).1;rw[eJ]at p;rw[bH]at *
   walk_at"w";refine Gp w v b (by lia) A (by lia) λag k' o' F H ai ah K q=>?_;exact⟨O,by lia,ag,k',o',F,_,_,_,_,_,ah,K,q.more (by lia),O,O⟩
  ·rintro r S ⟨hi,E,k,f,U,g,x6,l,x8,x9,w,v,b,rfl,rfl⟩;rw[eJ,bH]at b;exact⟨O,E,k,f,U,_,_,_,_,_,w,v,b.more (by lia),O,O⟩
 rintro r S ⟨E,k,f,U,g,x6,l,x8,x9,w,v,b,rfl,rfl⟩;walk_at"w";refine A8 w v b (by lia) (by lia) λR o' sh q=>?_;exact⟨webD (km R),o',U.drop t,by rw[<- w.split],d6 _,q.und,h m _ o' A X (BX v sh) (q.more (by lia))⟩
theorem ES{m:FA}{r:Ev}{S S1:Sto}{k:Nat}{Q:D×Sto->Prop}(h:m r S=Z ([.int k],S1))(hk:k<=1000)(q:Q (.ref S1.length,S1++[.lst (gy 0 k)])):W (xM m r S) Q:=by
 refine W.of ?_ q;unfold xM;rw[h,oS1];dsimp only;have:mm 0 (k:Int)=M:=by
  unfold mm;simp only[bA1,af];lia
 rw[ae this,Int.toNat_natCast]
theorem CM{o:Ob}{n b:Nat}{T:Sto}{Q:D×Sto->Prop}(ho:Hnd o n)(hn:n<=2^42)(hc:b<=8)(q:∀s o',s.Perm (Z7 b)->Hnd o' (n+b)->Q (.ref (T.length+2),o'::(T++[.lst [],.lst (nmD s)]))):W (dn 2 fE [.ref 0,.int b] (o::T)) Q:=by
 refine oC O O ?_;unfold fE;refine jg ?_;unfold lC;have j:∀(o:Ob) (X:Ob) (ai:Sto),(o::(T++X::ai))[T.length+1]?=Z X:=λo X ai=>by rw[gC1,dz];rfl
 refine dL (λr S=>S=o::(T++[.lst (nmD (Z7 b))])/\r=[Z (.ref 0),Z (.int b),Z (.ref (T.length+1))]) ?_ ?_
 ·unfold dE;rw[dk];refine ES (k:=b) (S1:=o::T) O (by lia) ?_;rw[la];walk_at"w";exact⟨O,trivial⟩
 rintro r S ⟨rfl,rfl⟩;walk_at"w";refine⟨fQ (by lia),?_⟩;rw[Int.toNat_natCast];refine il (λi h r S=>∃o' rs c x,i<=b/\(rs++c).Perm (Z7 b)/\rs.length=i/\h=nmD rs/\Hnd o' (n+i)/\S=o'::(T++[.lst (nmD c)])/\r=[x,Z (.ref (T.length+1)),Z (.ref 0)]) (gy 0 b) 0 [] _ _ ⟨o,[],Z7 b,_,by lia,.refl _,O,O,ho,O,O⟩ (λ_ _ _ _ _=>rfl) ?_ ?_
 ·rintro i d p h r S ⟨o',rs,c,x,hi,g,t,rfl,f,rfl,rfl⟩;have m:=(gE1.mp p).1;rw[eJ]at m;have a:=g.length_eq;rw[lA1,ci]at a;rw[bH]at *
  walk_at"w";refine gK ?_;walk_at"w";refine⟨T.length+1,nmD c,O,j _ _ _,?_⟩;refine dW (j _ _ _) ?_;walk_at"w";rw[d4];refine f0 f (by lia) (by lia) (by lia) λd v l p=>?_;obtain⟨y,u⟩:∃y,c[d]?=some y:=⟨_,gG1 (by lia)⟩;walk_at"w";refine Bz (j _ _ _) (Ac u) (by lia) ?_;refine⟨v,rs++[y],c.eraseIdx d,_,by lia,sO g u,by rw[lA1,t];rfl,lb,l.more (by lia),?_,O⟩;rw[cm,cQ _ _ (nR1 _),cr,tq];rfl
 ·rintro xs r S ⟨o',rs,c,x,hi,g,t,e,f,rfl,rfl⟩;rw[eJ,bH]at *
  rw[cI]at e;subst e;have a:=g.length_eq;rw[lA1,ci]at a;have:c=[]:=List.eq_nil_of_length_eq_zero (by lia);subst this;rw[aG]at g;walk_at"w";refine⟨dA (by rw[d4];lia),?_⟩;unfold gc;rw[ab (by simp[D.und])];exact q rs o' g f
def ur(r k d:Nat):TK:=.tup [.int r,.int k,.int d]
def uJ(r k d:Nat):D:=.tup [.int r,.int k,.int d]
theorem GY{r k d:Nat}:iG (uJ r k d)=Z (ur r k d):=rfl
theorem B1{r k d a k' d':Nat}(h:ur r k d=ur a k' d'):r=a/\k=k'/\d=d':=by
 simp[ur]at h;lia
def mM(w:dr)(cp:Nat)(F:List (TK×D))(r k d:Nat):Prop:=∃e k',At w r d e/\k'<cp/\dF F (ur r k d)=Z (uJ e.1 k' e.2)
theorem mM.put{w:dr}{e r k d a c b k1:Nat}{e0:Nat×Nat}{F:List (TK×D)}(ha:At w a b e0)(hk:k1<e)(h:mM w e F r k d\/(r=a/\k=c/\d=b)):mM w e (gO F (ur a c b) (uJ e0.1 k1 e0.2)) r k d:=by
 unfold mM;rw[jv];by_cases z:ur r k d=ur a c b
 ·obtain⟨rfl,rfl,rfl⟩:=B1 z;exact⟨e0,k1,ha,hk,ae O⟩
 ·rw[ab z];rcases h with h|⟨rfl,rfl,rfl⟩
  ·exact h
  ·exact(z O).elim
theorem JU{m:FA}{r:Ev}{S:Sto}{Q:yr×Sto->Prop}(h:W (m r S) λp=>∃n xs,p.1=[.ref n]/\p.2[n]?=Z (.lst xs)/\Q (⟨sv 0 xs,[(n,xs)]⟩,p.2)):W (oa m r S) Q:=by
 obtain⟨⟨a,b⟩,e,n,xs,h1,h2,q⟩:=h;dsimp only at h1 h2 q;subst h1;refine W.of (x:=(⟨sv 0 xs,[(n,xs)]⟩,b)) ?_ q;simp only[oa,e,oS1,ga h2,rS h2]
theorem B6{T G:Sto}{o:Ob}{n cp r d:Nat}{w:dr}{e:Nat×Nat}{F:List (TK×D)}{u x5 x9 x10 x11 x12 x13 l:Option D}{Q:Fl×Ev×Sto->Prop}(ho:Hnd o n)(hn:n<=2^42)(hc:cp<=4)(ha:At w r d e)(hb:At w e.1 e.2 (r,d))(hF:F.length<900)(q:∀f X o' H s,Hnd o' (n+4)->(∀a k b,mM w cp F a k b->mM w cp f a k b)->(∀k,k<cp->mM w cp f r k d/\mM w cp f e.1 k e.2)->f.length<=F.length+8 ->
   Q (.nx,[Z (.ref 0),u,Z (.int cp),Z (.ref (T.length+1)),Z (.int r),x5,Z (.int d),Z (.int e.1),Z (.int e.2),H,s,x11,x12,x13,l],o'::(T++dO f::X))):
  W (eR (oa (di (mN (dn 2 fE) (di (mV 0) (di (mV 2) dj))) dj)) (gT 2 (fu (gN 9) (fu (gN 10) jf))) hD [Z (.ref 0),u,Z (.int cp),Z (.ref (T.length+1)),Z (.int r),x5,Z (.int d),Z (.int e.1),Z (.int e.2),x9,x10,x11,x12,x13,l] (o::(T++dO F::G))) Q:=by
 unfold eR;rw[dk];refine JU ?_;simp(implicitDefEqProofs:=J) only[di,mN,mV,cG,gC1,dj,oS1,dk,dt];refine CM ho hn (by lia) λg o' ag K=>?_;have t:=ag.length_eq;rw[ci]at t;have C:∀c x:Nat,g[c]?=Z x->x<cp:=λc x h=>au.mp (ag.mem_iff.mp (gM1 h));walk_at"w";have eS:o'::(T++dO F::(G++[Ob.lst [],Ob.lst (nmD g)]))=o'::((T++dO F::G)++[Ob.lst [],Ob.lst (nmD g)]):=by simp
 have B:∀(f:List (TK×D)),(o'::(T++dO f::(G++[Ob.lst [],Ob.lst (nmD g)])))[T.length+(G.length+1)+2]?=Z (.lst (nmD g)):=λf=>by
  rw[show T.length+(G.length+1)+2=T.length+(G.length+1+1)+1 by lia,gC1,ej,gC1,ej];rfl
 refine⟨T.length+(G.length+1)+2,nmD g,by first|rfl|(congr 3;lia),by first|exact B F|(rw[<- B F];congr 1;lia),?_⟩;have N:∀(wq:Ob) (ai:Sto),(o'::(T++wq::ai))[T.length+1]?=Z wq:=λwq ai=>by rw[gC1,dz];rfl
 have aj:∀(wq V:Ob) (ai:Sto),(o'::(T++wq::ai)).set (T.length+1) V=o'::(T++V::ai):=λwq V ai=>by
  rw[cm,cQ _ _ (nR1 _),cr];rfl
 refine ez (λi m S=>∃f z j,i<=cp/\(∀a k b,mM w cp F a k b->mM w cp f a k b)/\(∀c,c<i->mM w cp f r c d)/\(∀c x:Nat,c<i->g[c]?=Z x->mM w cp f e.1 x e.2)/\f.length<=F.length+2*i/\S=o'::(T++dO f::(G++[Ob.lst [],Ob.lst (nmD g)]))/\m=[Z (.ref 0),u,Z (.int cp),Z (.ref (T.length+1)),Z (.int r),x5,Z (.int d),Z (.int e.1),Z (.int e.2),z,j,x11,x12,x13,l]) _ 0 _ _ ⟨F,_,_,by lia,λ_ _ _ h=>h,λc h=>by lia,λc x h=>by lia,by lia,O,O⟩ ?_ ?_ ?_
 ·rintro i m S ⟨f,z,j,_,_,_,_,_,rfl,_⟩;exact eY (B f)
 ·rintro i dd ah m S ⟨f,z,j,hi,mono,A,I,U,rfl,rfl⟩;rw[fO,nmD,gP1,Option.map_map]at ah;obtain⟨x,L,rfl⟩:=oM1.mp ah;have R:=(gE1.mp L).1;have p:=C i x L;rw[bH]at *
  unfold Function.comp;walk_at"w";unfold hD;refine dL (λm S=>S=o'::(T++dO (gO f (ur r i d) (uJ e.1 x e.2))::(G++[Ob.lst [],Ob.lst (nmD g)]))/\m=[Z (.ref 0),u,Z (.int cp),Z (.ref (T.length+1)),Z (.int r),x5,Z (.int d),Z (.int e.1),Z (.int e.2),Z (.int (i:Nat)),Z (.int (x:Nat)),x11,x12,x13,l]) ?_ ?_
  ·walk_at"w";refine vt (key:=uJ r i d) (v:=uJ e.1 x e.2) (F:=f) (N _ _) GY (by lia) ?_;walk_at"w";exact⟨aj _ _ _,trivial⟩
  rintro m S ⟨rfl,rfl⟩;have pl:=qr (k:=ur r i d) (v:=uJ e.1 x e.2) (a:=f);have P:=qr (k:=ur e.1 x e.2) (v:=uJ r i d) (a:=gO f (ur r i d) (uJ e.1 x e.2));walk_at"w";refine vt (key:=uJ e.1 x e.2) (v:=uJ r i d) (F:=gO f (ur r i d) (uJ e.1 x e.2)) (N _ _) GY (by lia) ?_;refine⟨_,_,_,by lia,λa k b h=>?_,λc h=>?_,λc y h E=>?_,by lia,aj _ _ _,O⟩
  ·exact mM.put (e0:=(r,d)) (k1:=i) hb (by lia) (.inl (mM.put ha p (.inl (mono a k b h))))
  ·refine mM.put (e0:=(r,d)) (k1:=i) hb (by lia) (.inl (mM.put ha p ?_));rcases cT.mp h with h|rfl
   ·exact .inl (A c h)
   ·exact .inr ⟨O,O,O⟩
  ·refine mM.put (e0:=(r,d)) (k1:=i) hb (by lia) ?_;rcases cT.mp h with h|rfl
   ·exact .inl (mM.put ha p (.inl (I c y h E)))
   ·rw[L]at E;cases E;exact .inr ⟨O,O,O⟩
 ·rintro m S ⟨f,z,j,hi,mono,A,I,U,rfl,rfl⟩;rw[fN,d4,bH]at *
  refine q f _ o' _ _ (K.more (by lia)) mono (λk hk=>⟨A k (by lia),?_⟩) (by lia);obtain⟨c,hc⟩:=bi (ag.mem_iff.mpr (au.mpr hk));exact I c k (gE1.mp hc).1 hc
def AM(a b:Nat×Nat):Bool:=decide (a.1<b.1)||(decide (a.1=b.1)&&decide (a.2<b.2))
theorem G8{a b:Nat×Nat}{S:Sto}:gLt (pD a) (pD b) S=Z (.bl (AM a b),S):=by
 have d:∀(n x y:Nat),kx S (n+1) (.int x) (.int y)=Z (decide (x=y)):=λn x y=>by
  show Z ((x:Int) == (y:Int))=_
  congr 1
  rw[bJ,beq_iff_eq,af];lia
 have c:∀(n x y:Nat),Eu S (n+1) (.int x) (.int y)=Z (decide (x<y)):=λn x y=>by
  show Z (decide ((x:Int)<(y:Int)))=_
  congr 1
  rw[bJ,af,af];lia
 unfold gLt dV;rw[show(60:Nat)=58+1+1 from rfl,Eu];simp only[pD,KW,dH,if_true,Ji,d,c,oS1];unfold AM;by_cases h1:a.1=b.1
 ·by_cases h2:a.2=b.2
  ·simp[h1,h2]
  ·simp[h1,h2]
 ·simp[h1]
theorem Dj{a b:Nat×Nat}(h:AM a b=J)(c:b≠a):AM b a=M:=by
 unfold AM at *
 obtain⟨a1,a2⟩:=a;obtain⟨b1,b2⟩:=b;simp at *
 lia
theorem few:∀{N:Nat} {l:List Nat},l.Nodup->(∀x∈l,x<N)->l.length<=N
 |0,l,_,h=>by
  cases l with
  |nil=>simp
  |cons a l=>have:=h a mS1;lia
 |N+1,l,n,h=>by
  by_cases d:N∈l
  ·have h1:=few (N:=N) (l:=l.erase N) (n.erase N) fun x c=>by
    have b:=(List.Nodup.mem_erase_iff n).mp c;have:=h x b.2;have:=b.1;lia
   have:=List.length_erase_of_mem d;lia
  ·have:=few (N:=N) (l:=l) n fun x c=>by
    have h1:=h x c;have:x≠N:=λz=>d (z ▸ c);lia
   lia
theorem K4{A B:Nat}{l:List (Nat×Nat)}(n:l.Nodup)(h:∀x∈l,x.1<A/\x.2<B):l.length<=A*B:=by
 have h1:=few (N:=A*B) (l:=l.map λx=>x.1*B+x.2) ?_ ?_
 ·simpa using h1
 ·rw[List.nodup_iff_pairwise_ne,List.pairwise_map];refine List.Pairwise.imp_of_mem ?_ n;intro x y b g a e;apply a;have h1:=h x b;have h2:=h y g;have ex:x.1=(x.1*B+x.2)/B:=by rw[Nat.mul_comm,Nat.mul_add_div (by lia),Nat.div_eq_of_lt h1.2,Nat.add_zero]
  have d:y.1=(y.1*B+y.2)/B:=by rw[Nat.mul_comm,Nat.mul_add_div (by lia),Nat.div_eq_of_lt h2.2,Nat.add_zero]
  have c:x.1=y.1:=by rw[ex,d,e]
  rw[c]at e;exact Prod.ext c (by lia)
 ·intro z f;obtain⟨x,b,rfl⟩:=b6.mp f;have h1:=h x b;have:(x.1+1)*B<=A*B:=Nat.mul_le_mul_right B h1.1;rw[Nat.add_mul]at this;lia
theorem xY{α:Type}[BEq α][LawfulBEq α]{l:List α}{x:α}(h:x∈l):∃j,l.findIdx? (· == x)=Z j/\l[j]?=Z x:=by
 cases e:l.findIdx? (· == x)with
 |none=>
  rw[List.findIdx?_eq_none_iff]at e;have:=e x h;simp at this
 |some j=>
  obtain⟨a,h1,_⟩:=bV.mp e;exact⟨j,O,by rw[gG1 a];simp at h1;rw[h1]⟩
theorem AR{S:Sto}{n:Nat}{x:Nat×Nat}:∀a:List (Nat×Nat),BK (kx S (n+2)) (pD x) (a.map pD)=Z (a.contains x)
 |[]=>rfl
 |y::a=>by
  rw[mP1,BK,vb,AR a,bY,show(y == x)=(x == y)from Bool.beq_comm];rfl
theorem D7{S:Sto}{n:Nat}{row:List (Nat×Nat)}{x:Nat×Nat}{Q:D×Sto->Prop}(h:S[n]?=Z (.lst (row.map pD)))(q:Q (.bl (!row.contains x),S)):W (ft (pD x) (.ref n) S) Q:=by
 refine W.of ?_ q;simp only[ft,h,iU,l0,ga h,oS1,dV,show(60:Nat)=58+2 from rfl,AR,oP1]
theorem EO{m:FE}{lo hi:FO}{r:Ev}{S:Sto}{xs:List D}{a b:Option Int}{Q:D×Sto->Prop}(hm:m r S=Z (.tup xs,S))(d:lo r S=Z (a,S))(c:hi r S=Z (b,S))(q:Q (.tup (Mi.iI xs a b),S)):W (kr m lo hi r S) Q:=by
 refine W.of ?_ q;unfold kr;rw[hm,oS1];dsimp only;rw[d,oS1];dsimp only;rw[c,oS1];simp only[zn,jO,oP1,bF1,if_false]
def Ls(w:dr)(cp i j:Nat)(F:List (TK×D)):Prop:=∀r d e,At w r d e->AM (r,d) e=M->(r<i\/(r=i/\d<j)) -> ∀k,k<cp->mM w cp F r k d/\mM w cp F e.1 k e.2
inductive AI (w:dr)(cp m n:Nat)(T:Sto):Nat->Ev->Sto->Prop
 |mk (i:Nat) (F:List (TK×D)) (G:Sto) (o':Ob) (x4 x5 x6 x7 x8 x9 x10:Option D) (hi:i<=m) (don:Ls w cp i 0 F) (hF:F.length<=32*i) (ho:Hnd o' (n+16*i)):AI w cp m n T i [some (.ref 0),some (webD w),some (.int cp),some (.ref (T.length+1)),x4,x5,x6,x7,x8,x9,x10,none,none,none,none] (o'::(T++dO F::G))
inductive AJ (w:dr)(cp n:Nat)(T:Sto)(i:Nat)(row:List (Nat×Nat)):Nat->Ev->Sto->Prop
 |mk (j:Nat) (F:List (TK×D)) (G:Sto) (o':Ob) (x6 x7 x8 x9 x10:Option D) (hj:j<=row.length) (don:Ls w cp i j F) (hF:F.length<=32*i+8*j) (ho:Hnd o' (n+16*i+4*j)):AJ w cp n T i row j [some (.ref 0),some (webD w),some (.int cp),some (.ref (T.length+1)),some (.int (i:Nat)),some (.tup (row.map pD)),x6,x7,x8,x9,x10,none,none,none,none] (o'::(T++dO F::G))
theorem vp{T:Sto}{o:Ob}{n m p:Nat}{w:dr}{Q:Fl×Ev×Sto->Prop}(hw:se m w)(hm:m<=8)(hc:p<=4)(ho:Hnd o n)(hn:n<=2^41)(q:∀F G o' ah K x6 v x8 x9 x10,Hnd o' (n+128)->(∀r d e k,At w r d e->k<p->mM w p F r k d) ->
   Q (.nx,[Z (.ref 0),Z (webD w),Z (.int p),Z (.ref (T.length+1)),ah,K,x6,v,x8,x9,x10,Y,Y,Y,Y],o'::(T++dO F::G))):
  W (eR (oa (di (mV 1) dj)) (gT 2 (fu (gN 4) (fu (gN 5) jf))) hC [Z (.ref 0),Z (webD w),Z (.int p),Z (.ref (T.length+1)),Y,Y,Y,Y,Y,Y,Y,Y,Y,Y,Y] (o::(T++dO []::[]))) Q:=by
 unfold eR;rw[dk];refine oK (xs:=w.map λl=>.tup (l.map pD)) O ?_;refine ez (AI w p m n T) _ 0 _ _ (.mk 0 [] [] o _ _ _ _ _ _ _ (a0 _) (λr d e h1 h2 H=>by lia) (by simp) ho) (λ_ _ _ _=>rfl) ?_ ?_
 ·rintro i U u r S ⟨F,G,o',ah,K,x6,v,x8,x9,x10,hi,c,ag,f⟩;rw[fO,gP1,Option.map_map]at u;obtain⟨l,g,rfl⟩:=oM1.mp u;have B:=(gE1.mp g).1;rw[hw.len]at B;have hr4:=hw.le i l g;rw[bH]at *
  unfold Function.comp;walk_at"w";unfold hC eR;rw[dk];refine oK (xs:=l.map pD) O ?_;refine ez (AJ w p n T i l) _ 0 _ _ (.mk 0 F G o' _ _ _ _ _ (a0 _) c (by lia) (f.more (by lia))) (λ_ _ _ _=>rfl) ?_ ?_
  ·rintro j U u r S ⟨F,G,o',x6,v,x8,x9,x10,ai,c,ag,f⟩;rw[fO,gP1,Option.map_map]at u;obtain⟨e,L,rfl⟩:=oM1.mp u;have y:=(gE1.mp L).1;have N:At w i j e:=⟨l,g,L⟩;have t:=hw.back i j e N;rw[bH]at *
   unfold Function.comp pD;walk_at"w";unfold jt;have el:∀S,gLt (D.tup [D.int (i:Int),D.int (j:Int)]) (D.tup [D.int (e.1:Int),D.int (e.2:Int)]) S=Z (.bl (AM (i,j) e),S):=λS=>G8 (a:=(i,j)) (b:=e);unfold eB;rw[dk];refine W.of (x:=(AM (i,j) e,o'::(T++dO F::G))) ?_ ?_
   ·simp only[mB,m2,dJ,di,dj,mV,gC1,cG,cK,oP1,oS1,lC1,aW,b2,el,cJ,ae (show 2<=da by decide)]
   dsimp only;have up:∀F',(∀a k b,mM w p F a k b->mM w p F' a k b)->(AM (i,j) e=M -> ∀k,k<p->mM w p F' i k j/\mM w p F' e.1 k e.2)->Ls w p i (j+1) F':=λF' mono new r d P h1 h2 H k E=>by
    by_cases V:r=i/\d=j
    ·obtain⟨rfl,rfl⟩:=V;obtain⟨C,s,I⟩:=h1;rw[g]at s;cases s;rw[L]at I;cases I;exact new h2 k E
    ·have:=c r d P h1 h2 (by lia) k E;exact⟨mono _ _ _ this.1,mono _ _ _ this.2⟩
   cases hl:AM (i,j) e with
   |false=>
    rw[ab (by decide)];exact dt.mpr ⟨O,.mk _ F G o' _ _ _ _ _ y (up F (λ_ _ _ h=>h) (λz=>by rw[hl]at z;cases z)) (by lia) (f.more (by lia))⟩
   |true=>
    rw[ae O];refine B6 (w:=w) f (by lia) hc N t.1 (by lia) λF' X wq R aj h1 h2 H h4=>?_;exact⟨O,.mk _ F' X wq _ _ _ _ _ y (up F' h2 (λ_=>H)) (by lia) (h1.more (by lia))⟩
  ·rintro r S ⟨F,G,o',x6,v,x8,x9,x10,ai,c,ag,f⟩;rw[fN,lM1,bH]at *
   refine⟨O,.mk _ F G o' _ _ _ _ _ _ _ B (λr d e h1 h2 H=>c r d e h1 h2 ?_) (by lia) (f.more (by lia))⟩;rcases(show r<i\/r=i by lia)with h|rfl
   ·exact .inl h
   ·obtain⟨C,s,I⟩:=h1;rw[g]at s;cases s;exact .inr ⟨O,(gE1.mp I).1⟩
 ·rintro r S ⟨F,G,o',ah,K,x6,v,x8,x9,x10,hi,c,ag,f⟩;rw[fN,lM1,bH,hw.len]at *
  refine q F G o' _ _ _ _ _ _ _ (f.more (by lia)) λr d e k h E=>?_;have A:∀r d e,At w r d e->r<m:=λr d e h=>by
   obtain⟨l,s,_⟩:=h;rw[<- hw.len];exact(gE1.mp s).1
  have t:=hw.back r d e h;cases hl:AM (r,d) e with
  |true=>exact(c r d e h hl (.inl (A r d e h)) k E).1
  |false=>exact(c e.1 e.2 (r,d) t.1 (Dj hl t.2) (.inl (A _ _ _ t.1)) k E).2
def hW(F:List (TK×D))(x:Nat×Nat)(d:Nat):(Nat×Nat)×Nat:=match dF F (ur x.1 x.2 d)with
 |some (.tup [.int a,.int b,.int c])=>((a.toNat,b.toNat),c.toNat)
 |_=>((0,0),0)
def oM(w:dr)(r:Nat):Nat:=(w.getD r []).length
def CU(p:(Nat×Nat)×Nat):D:=uJ p.1.1 p.1.2 p.2
structure MI (m cp:Nat)(met:List (Nat×Nat)):Prop where
 nd:met.Nodup
 inn:∀x∈met,x.1<m/\x.2<cp
theorem MI.few{m a:Nat}{met:List (Nat×Nat)}(i:MI m a met)(h:m*a<=8):met.length<=8:=av (K4 i.nd i.inn) h
def All(w:dr)(cp:Nat)(F:List (TK×D)):Prop:=∀r d e k,At w r d e->k<cp->mM w cp F r k d
theorem Aa{w:dr}{m cp d:Nat}{F:List (TK×D)}{x:Nat×Nat}(hw:se m w)(all:All w cp F)(hx:x.1<m/\x.2<cp)(hd:d<oM w x.1):
  dF F (ur x.1 x.2 d)=Z (CU (hW F x d))/\(hW F x d).1.1<m/\(hW F x d).1.2<cp:=by
 obtain⟨row,a⟩:∃row,w[x.1]?=some row:=⟨_,gG1 (by rw[hw.len];exact hx.1)⟩;have b:d<row.length:=by
  unfold oM at hd;rw[bC,a,bW]at hd;exact hd
 obtain⟨e,g,h1,h2,c⟩:=all x.1 d row[d] x.2 ⟨row,a,gG1 b⟩ hx.2;have f:hW F x d=((e.1,g),e.2):=by
  unfold hW;rw[c];simp[uJ]
 rw[f];exact⟨c,hw.to x.1 d e h1,h2⟩
def Cl(w:dr)(F:List (TK×D))(met:List (Nat×Nat))(i j:Nat):Prop:=∀a d x,met[a]?=Z x->d<oM w x.1->(a<i\/(a=i/\d<j))->(hW F x d).1∈met
def Jn(w:dr)(F:List (TK×D))(met:List (Nat×Nat)):Prop:=∀b y,1<=b->met[b]?=Z y -> ∃a d x,a<b/\met[a]?=Z x/\d<oM w x.1/\(hW F x d).1=y
theorem Jn.snoc{w:dr}{F:List (TK×D)}{met:List (Nat×Nat)}{a d:Nat}{x:Nat×Nat}(j:Jn w F met)(ha:met[a]?=Z x)(hd:d<oM w x.1):Jn w F (met++[(hW F x d).1]):=by
 have c:=(gE1.mp ha).1;intro b y i f;by_cases g:b<met.length
 ·rw[gL1 g]at f;obtain⟨n,o,l,p,k,m,h⟩:=j b y i f;exact⟨n,o,l,p,by rw[gL1 (by lia)];exact k,m,h⟩
 ·have:=(gE1.mp f).1;rw[lA1,aS]at this;have e:b=met.length:=by lia
  subst e;rw[cR]at f;cases f;exact⟨a,d,x,c,by rw[gL1 c];exact ha,hd,O⟩
theorem Jx{S:Sto}{n:Nat}{F:List (TK×D)}{x:Nat×Nat}{d:Nat}(h:S[n]?=Z (dO F))(a:dF F (ur x.1 x.2 d)=Z (CU (hW F x d))):dv (.ref n) (uJ x.1 x.2 d) S=Z (CU (hW F x d),S):=by
 obtain⟨p,e,rfl⟩:=BB (Q:=λp=>p=(CU (hW F x d),S)) h GY a O;exact e
theorem JP{f:FN}{a b:FE}{r:Ev}{S:Sto}{Q:D×Sto->Prop}(h:W (a r S) λp=>W (b r p.2) λq=>W (f [p.1,q.1] q.2) Q):W (m2 f a b r S) Q:=by
 unfold m2;rw[dk];exact h.mono λp c=>by rw[dk];exact c
theorem K9{p:(Nat×Nat)×Nat}:D.tup (Mi.iI [.int p.1.1,.int p.1.2,.int p.2] Y (Z 2))=pD p.1:=rfl
theorem IZ{V:Sto}{o:Ob}{n m t:Nat}{w:dr}{F:List (TK×D)}{x4 x5 x6 I x8 x9 x10 x13 u:Option D}{Q:Fl×Ev×Sto->Prop}(hw:se m w)(wq:0<m)(U:0<t)(h8:m*t<=8)(all:All w t F)(hV:V[n]? = some (dO F))(q:∀met aj E ah R,MI m t met->0<met.length->Cl w F met met.length 0->Jn w F met->Q (.nx,[some (.ref 0),some (webD w),some (.int t),some (.ref (n+1)),aj,x5,E,I,x8,ah,x10,some (.ref (V.length+1)),R,x13,u],o::(V++[.lst (met.map pD)]))):
  W (uo hB g9 100000 [Z (.ref 0),Z (webD w),Z (.int t),Z (.ref (n+1)),x4,x5,x6,I,x8,x9,x10,Z (.ref (V.length+1)),Z (.int ((0:Nat):Int)),x13,u] (o::(V++[.lst ([(0,0)].map pD)]))) Q:=by
 have L:∀(X:Ob),(o::(V++[X]))[V.length+1]?=Z X:=λX=>by rw[gC1,dz];rfl
 have gs:∀(ai:Sto),(o::(V++ai))[n+1]?=Z (dO F):=λai=>by rw[gC1,gL1 (gE1.mp hV).1];exact hV
 refine vI (λk r S=>∃met aj E ah,MI m t met/\k<=met.length/\0<met.length/\Cl w F met k 0/\Jn w F met/\S=o::(V++[.lst (met.map pD)])/\r=[Z (.ref 0),Z (webD w),Z (.int t),Z (.ref (n+1)),aj,x5,E,I,x8,ah,x10,Z (.ref (V.length+1)),Z (.int (k:Nat)),x13,u]) 8 ?_ 100000 0 _ _ (by lia) ⟨[(0,0)],_,_,_,⟨by simp,λx ag=>by simp at ag;subst ag;exact⟨wq,U⟩⟩,by lia,by simp,λa d x _ _ h=>by lia,λb y h1 h2=>by have:=(gE1.mp h2).1;simp at this;lia,O,O⟩;rintro k r S ⟨met,aj,E,ah,N,hk,hp,cl,jn,rfl,rfl⟩;have hf:=N.few h8;unfold hB;walk_at"w";refine dW (L _) ?_;walk_at"w";rw[lM1];by_cases hlt:k<met.length
 ·rw[ae (by rw[af];lia)];refine⟨by lia,?_⟩;obtain⟨x,ag⟩:∃x,met[k]?=some x:=⟨_,gG1 hlt⟩;have K:=N.inn x (gM1 ag);obtain⟨row,A⟩:∃row,w[x.1]?=some row:=⟨_,gG1 (by rw[hw.len];exact K.1)⟩;have B:oM w x.1=row.length:=by unfold oM;rw[bC,A];rfl
  have hr4:=hw.le _ row A;unfold g9;refine dL (λr S=>S=o::(V++[.lst (met.map pD)])/\r=[Z (.ref 0),Z (webD w),Z (.int t),Z (.ref (n+1)),Z (.int (x.1:Nat)),x5,E,I,x8,Z (.int (x.2:Nat)),x10,Z (.ref (V.length+1)),Z (.int (k:Nat)),x13,u]) ?_ ?_
  ·walk_at"w";refine iL (i:=k) (xs:=met.map pD) (x:=pD x) (L _) (by rw[gP1,ag];rfl) ?_;rw[pD];walk_at"w"
  rintro r S ⟨rfl,rfl⟩;refine dL (λr S=>∃c E,c[k]?=Z x/\MI m t c/\Cl w F c k row.length/\Jn w F c/\S=o::(V++[.lst (c.map pD)])/\r=[Z (.ref 0),Z (webD w),Z (.int t),Z (.ref (n+1)),Z (.int (x.1:Nat)),x5,E,I,x8,Z (.int (x.2:Nat)),x10,Z (.ref (V.length+1)),Z (.int (k:Nat)),x13,u]) ?_ ?_
  ·walk_at"w";unfold webD;refine lG (i:=x.1) (x:=.tup (row.map pD)) (by rw[gP1,A];rfl) ?_;walk_at"w";rw[lM1];refine⟨fQ (by lia),?_⟩;rw[la,Int.toNat_natCast];refine ez (λj r S=>∃c E,j<=row.length/\c[k]?=Z x/\MI m t c/\Cl w F c k j/\Jn w F c/\S=o::(V++[.lst (c.map pD)])/\r=[Z (.ref 0),Z (webD w),Z (.int t),Z (.ref (n+1)),Z (.int (x.1:Nat)),x5,E,I,x8,Z (.int (x.2:Nat)),x10,Z (.ref (V.length+1)),Z (.int (k:Nat)),x13,u]) _ 0 _ _ ⟨met,_,by lia,ag,N,cl,jn,O,O⟩ (λ_ _ _ _=>rfl) ?_ ?_
   ·rintro j dd T r S ⟨c,z6,hj,f,l,v,s,rfl,rfl⟩;have G:=(gE1.mp T).1;rw[lM1,ci]at G;rw[gP1,ca G]at T;cases T;rw[bH]at *
    have hf':=l.few h8;obtain⟨n1,n2,n3⟩:=Aa hw all K (d:=j) (by rw[B];exact G);have sl:∀(r:Ev) (S:Sto) (P:D×Sto->Prop),S[n+1]?=Z (dO F)->r[3]?=Z (Z (.ref (n+1)))->r[4]?=Z (Z (.int (x.1:Nat)))->r[9]?=Z (Z (.int (x.2:Nat)))->r[6]?=Z (Z (.int (j:Nat)))->P (pD (hW F x j).1,S)->W (kr (m2 (b2 dv) (mV 3) (dJ (di (mV 4) (di (mV 9) (di (mV 6) dj))))) ig (ic (mC (D.int (2)))) r S) P:=by
     intro r S P hS h3 h4 h9 h6 p;refine EO (xs:=[.int (hW F x j).1.1,.int (hW F x j).1.2,.int (hW F x j).2]) (a:=Y) (b:=Z 2) ?_ O O p;have:=Jx hS n1;simp only[m2,dJ,di,dj,mV,h3,h4,h9,h6,cK,oP1,oS1,lC1,aW,b2,cJ,ae (show 3<=da by decide)];exact this
    walk_at"w";unfold js eB mB;rw[dk,dk];refine JP ?_;refine sl _ _ _ (gs _) O O O O ?_;walk_at"w";refine D7 (L _) ?_;walk_at"w";have step:∀g:List (Nat×Nat),(∀a,a<=k->g[a]?=c[a]?)->(∀z∈c,z∈g)->(hW F x j).1∈g->Cl w F g k (j+1):=λg hg hs hm a d y h1 h2 h3=>by
     rw[hg a (by lia)]at h1;by_cases hz:a=k/\d=j
     ·obtain⟨rfl,rfl⟩:=hz;rw[f]at h1;cases h1;exact hm
     ·exact hs _ (v a d y h1 h2 (by lia))
    have hkl:=(gE1.mp f).1;by_cases C:(hW F x j).1∈c
    ·rw[ab (by simpa using C)];exact⟨c,_,by lia,f,l,step c (λ_ _=>rfl) (λ_ h=>h) C,s,O,O⟩
    ·rw[ae (by simpa using C)];refine gK ?_;walk_at"w";refine⟨V.length+1,c.map pD,O,L _,?_⟩;refine sl _ _ _ (gs _) O O O O ?_;walk_at"w";refine(jc (L _)).mpr ⟨dA (by rw[lM1];lia),?_⟩;refine⟨c++[(hW F x j).1],_,by lia,by rw[gL1 hkl];exact f,⟨?_,?_⟩,step _ (λa ha=>gL1 (by lia)) (λz h=>aA _ h) (by simp),s.snoc f (by rw[B];exact G),?_,O⟩
     ·refine bp.mpr ⟨l.nd,by simp,λa ha b hb e=>?_⟩;rw[cc]at hb;exact C (by rw[<- hb,<- e];exact ha)
     ·intro y H;rcases az.mp H with H|H
      ·exact l.inn y H
      ·rw[cc]at H;subst H;exact⟨n2,n3⟩
     ·rw[cm,cQ _ _ (nR1 _),cr,cx];rfl
   ·rintro r S ⟨c,z6,hj,f,l,v,s,rfl,rfl⟩;rw[lM1,ci,bH]at *
    exact⟨O,c,_,f,l,v,s,O,O⟩
  rintro r S ⟨c,z6,f,l,v,s,rfl,rfl⟩;have hlt':=(gE1.mp f).1;walk_at"w";refine⟨c,_,_,_,l,by lia,by lia,λa d y h1 h2 h3=>v a d y h1 h2 ?_,s,O,by push_cast;rfl⟩;rcases(show a<k\/a=k by lia)with h|rfl
  ·exact .inl h
  ·rw[f]at h1;cases h1;exact .inr ⟨O,by rw[<- B];exact h2⟩
 ·rw[ab (by rw[af];lia)];have e:k=met.length:=by lia
  subst e;exact q met _ _ _ _ N hp cl jn
def BM(met:List (Nat×Nat))(y:Nat×Nat):Nat:=(met.findIdx? (· == y)).getD 0
def sI(w:dr)(F:List (TK×D))(met:List (Nat×Nat))(x:Nat×Nat):List (Nat×Nat):=(Z7 (oM w x.1)).map λd=>(BM met (hW F x d).1,(hW F x d).2)
def uv(w:dr)(F:List (TK×D))(met:List (Nat×Nat)):dr:=met.map (sI w F met)
theorem u5{met:List (Nat×Nat)}{y:Nat×Nat}(h:y∈met):met.findIdx? (· == y)=Z (BM met y)/\met[BM met y]?=Z y:=by
 obtain⟨j,h1,h2⟩:=xY h;unfold BM;rw[h1];exact⟨O,h2⟩
theorem Br{w:dr}{F:List (TK×D)}{met:List (Nat×Nat)}{r d:Nat}{e:Nat×Nat}:At (uv w F met) r d e ↔ ∃x,met[r]?=Z x/\d<oM w x.1/\e=(BM met (hW F x d).1,(hW F x d).2):=by
 unfold At uv;rw[gP1];constructor
 ·rintro⟨f,h1,h2⟩;obtain⟨x,c,rfl⟩:=oM1.mp h1;unfold sI at h2;rw[gP1]at h2;obtain⟨g,a,rfl⟩:=oM1.mp h2;have b:=(gE1.mp a).1;rw[ci]at b;rw[ca b]at a;cases a;exact⟨x,c,b,O⟩
 ·rintro⟨x,h1,h2,rfl⟩;refine⟨sI w F met x,by rw[h1];rfl,?_⟩;unfold sI;rw[gP1,ca h2];rfl
theorem Hg{m:Nat}{w:dr}(hw:se m w)(r:Nat):oM w r<=4:=by
 unfold oM;rw[bC];cases h:w[r]? with
 |none=>simp
 |some a=>exact hw.le r a h
theorem yJ{m:Nat}{w:dr}{F:List (TK×D)}{met:List (Nat×Nat)}(hw:se m w)(p:met.Nodup)(l:Cl w F met met.length 0)(s:Jn w F met):WebJ met.length (uv w F met):=by
 refine⟨by unfold uv;rw[lM1],λi g h=>?_,λr d e h=>?_,λj h1 h2=>?_⟩
 ·unfold uv at h;rw[gP1]at h;obtain⟨x,_,rfl⟩:=oM1.mp h;unfold sI;rw[lM1,ci];exact Hg hw _
 ·obtain⟨x,h1,h2,rfl⟩:=Br.mp h;have:=(u5 (l r d x h1 h2 (.inl (gE1.mp h1).1))).2;exact(gE1.mp this).1
 ·obtain⟨y,b⟩:∃y,met[j]?=some y:=⟨_,gG1 h2⟩;obtain⟨a,d,x,t,n,q,c⟩:=s j y h1 b;refine⟨a,d,_,t,Br.mpr ⟨x,n,q,O⟩,?_⟩;dsimp only;rw[c];have k:=(u5 (gM1 b)).2;obtain⟨v,f⟩:=gE1.mp k;obtain⟨u,o⟩:=gE1.mp b;exact(List.getElem_inj p).mp (by rw[f,o])
theorem wm{o a b X:Ob}{V G:Sto}:(o::(V++a::b::(G++[X])))[V.length+(G.length+2)+1]?=Z X:=by
 rw[gC1,ej,gC1,gC1,dz];rfl
inductive CI (w:dr)(cp n:Nat)(T:Sto):Ev->Sto->Prop
 |mk (F:List (TK×D)) (G:Sto) (o':Ob) (x4 x5 x6 x7 x8 x9 x10:Option D) (ho:Hnd o' (n+128)) (all:All w cp F):CI w cp n T [some (.ref 0),some (webD w),some (.int cp),some (.ref (T.length+1)),x4,x5,x6,x7,x8,x9,x10,none,none,none,none] (o'::(T++dO F::G))
inductive CJ (w:dr)(m cp:Nat)(T V:Sto)(F:List (TK×D))(o':Ob)(x5 x7 x8 x10:Option D):Ev->Sto->Prop
 |mk (met:List (Nat×Nat)) (y4 y6 y9 y12:Option D) (mi:MI m cp met) (hp:0<met.length) (cl:Cl w F met met.length 0) (jn:Jn w F met):CJ w m cp T V F o' x5 x7 x8 x10 [some (.ref 0),some (webD w),some (.int cp),some (.ref (T.length+1)),y4,x5,y6,x7,x8,y9,x10,some (.ref (V.length+1)),y12,none,none] (o'::(V++[.lst (met.map pD)]))
theorem DT{o:Ob}{n m c:Nat}{T:Sto}{w:dr}{Q:D×Sto->Prop}(hw:se m w)(aj:0<m)(B:0<c)(hc:c<=4)(U:m*c<=8)(ho:Hnd o n)(hn:n<=2^40)(hT:T.all (Ob.und (T.length+1))=M)(q:∀K cw rs o',0<K->K<=8->WebJ K cw->rs.length=K->(∀x∈rs,x<8)->Hnd o' (n+128)->Q (.tup [webD cw,.tup (nmD rs)],o'::T)):W (dn 3 gf [.ref 0,webD w,.int c] (o::T)) Q:=by
 have R:m<=8:=av (Nat.le_mul_of_pos_right m B) U;refine ue O O hT ?_;unfold gf;refine jg ?_;unfold lD;refine dL (λr S=>S=o::(T++dO []::[])/\r=[Z (.ref 0),Z (webD w),Z (.int c),Z (.ref (T.length+1)),Y,Y,Y,Y,Y,Y,Y,Y,Y,Y,Y]) ?_ ?_
 ·have d0:dO [] = .dct []:=ae O;rw[d0]
  ((try walk_at"w");repeat(simp only[ik];try walk_at"w"))
 rintro r S ⟨rfl,rfl⟩;refine dL (CI w c n T) ?_ ?_
 ·exact vp hw R hc ho (by lia) λF G o' x4 l x6 p x8 x9 x10 h1 h2=>⟨O,.mk F G o' _ _ _ _ _ _ _ h1 h2⟩
 rintro r S ⟨F,G,o',x4,l,x6,p,x8,x9,x10,I,all⟩;generalize hV:T++dO F::G=V;have s:V[T.length]?=Z (dO F):=by rw[<- hV,dz];rfl
 refine dL (λr S=>S=o'::(V++[.lst ([(0,0)].map pD)])/\r=[Z (.ref 0),Z (webD w),Z (.int c),Z (.ref (T.length+1)),x4,l,x6,p,x8,x9,x10,Z (.ref (V.length+1)),Z (.int ((0:Nat):Int)),Y,Y]) ?_ ?_
 ·walk_at"w";exact⟨O,O⟩
 rintro r S ⟨rfl,rfl⟩;refine dL (CJ w m c T V F o' l p x8 x10) ?_ ?_
 ·exact IZ hw aj B U all s λmet z C v h h1 h2 h3 h4=>⟨O,.mk met _ _ _ _ h1 h2 h3 h4⟩
 rintro r S ⟨met,z,C,v,h,L,hp,cl,jn⟩;have hf:=L.few U;refine dL (λr S=>S=o'::(V ++ .lst (met.map pD) :: .lst []::[])/\r=[Z (.ref 0),Z (webD w),Z (.int c),Z (.ref (T.length+1)),z,l,C,p,x8,v,x10,Z (.ref (V.length+1)),h,Z (.ref (V.length+2)),Y]) ?_ ?_
 ·walk_at"w"
 rintro r S ⟨rfl,rfl⟩;have A:∀(X:Ob) (ai:Sto),(o'::(V++X::ai))[V.length+1]?=Z X:=λX ai=>by rw[gC1,dz];rfl
 have N:∀(X wq:Ob) (ai:Sto),(o'::(V++X::wq::ai))[V.length+2]?=Z wq:=λX wq ai=>by rw[gC1,ej];rfl
 have gs:∀(ai:Sto),(o'::(V++ai))[T.length+1]?=Z (dO F):=λai=>by rw[gC1,gL1 (gE1.mp s).1];exact s
 let rD:List (Nat×Nat)->D:=λrow=>.tup (row.map pD)
 refine dL (λr S=>∃G2 z v t,S=o'::(V ++ .lst (met.map pD) :: .lst ((uv w F met).map rD)::G2)/\r=[Z (.ref 0),Z (webD w),Z (.int c),Z (.ref (T.length+1)),z,l,C,p,x8,v,x10,Z (.ref (V.length+1)),h,Z (.ref (V.length+2)),t]) ?_ ?_
 ·walk_at"w";refine dW (A _ _) ?_;refine ez (λi r S=>∃G2 z v t,i<=met.length/\S=o'::(V ++ .lst (met.map pD) :: .lst (((uv w F met).take i).map rD)::G2)/\r=[Z (.ref 0),Z (webD w),Z (.int c),Z (.ref (T.length+1)),z,l,C,p,x8,v,x10,Z (.ref (V.length+1)),h,Z (.ref (V.length+2)),t]) _ 0 _ _ ⟨[],_,_,_,by lia,O,O⟩ ?_ ?_ ?_
  ·rintro i r S ⟨G2,_,_,_,_,rfl,_⟩;exact eY (A _ _)
  ·rintro i dd k r S ⟨G2,z4,z9,H,hi,rfl,rfl⟩;dsimp only at k;rw[gP1]at k;obtain⟨x,u,rfl⟩:=oM1.mp k;have P:=(gE1.mp u).1;have ag:=L.inn x (gM1 u);obtain⟨row,g⟩:∃row,w[x.1]?=some row:=⟨_,gG1 (by rw[hw.len];exact ag.1)⟩;have E:oM w x.1=row.length:=by unfold oM;rw[bC,g];rfl
   have hr4:=hw.le _ row g;rw[bH]at *
   rw[pD];walk_at"w";unfold jr;refine dL (λr S=>S=o'::(V ++ .lst (met.map pD) :: .lst (((uv w F met).take i).map rD)::(G2++[.lst ((Z7 (oM w x.1)).map λd=>CU (hW F x d))]))/\r=[Z (.ref 0),Z (webD w),Z (.int c),Z (.ref (T.length+1)),Z (.int (x.1:Nat)),l,C,p,x8,Z (.int (x.2:Nat)),x10,Z (.ref (V.length+1)),h,Z (.ref (V.length+2)),Z (.ref (V.length+(G2.length+2)+1))]) ?_ ?_
   ·walk_at"w";rw[show webD w = .tup (w.map λrow=>.tup (row.map pD))from rfl];refine lG (i:=x.1) (x:=.tup (row.map pD)) (by rw[gP1,g];rfl) ?_;walk_at"w";rw[lM1];refine⟨fQ (by lia),?_⟩;rw[la,Int.toNat_natCast,<- E];refine jZ (f:=λj:Nat=>D.int j) (λd=>CU (hW F x d)) (λr=>∃y,r=[y,Z (.ref (T.length+1)),Z (.int (x.1:Nat)),Z (.int (x.2:Nat))]) O (Z7 (oM w x.1)) _ ⟨_,O⟩ ?_ ?_
    ·rintro d k r ⟨y,rfl⟩;have n1:=(Aa hw all ag (au.mp k)).1;walk_at"w";refine W.of (Jx (gs _) n1) ⟨O,O,_,O⟩
    ·rintro r' _;refine⟨dA (by rw[lM1,ci];lia),?_⟩;walk_at"w"
   rintro r S ⟨rfl,rfl⟩;walk_at"w";refine gK ?_;walk_at"w";refine⟨V.length+2,_,O,N _ _ _,?_⟩;refine dW wm ?_;refine jZ (f:=λd=>CU (hW F x d)) (λd=>pD (BM met (hW F x d).1,(hW F x d).2)) (λr=>∃y,r=[y,Z (.ref (V.length+1))]) (eY wm) (Z7 (oM w x.1)) _ ⟨_,O⟩ ?_ ?_
   ·rintro d k r ⟨y,rfl⟩;have ah:=cl i d x u (au.mp k) (.inl P);walk_at"w";refine gK ?_;walk_at"w";refine⟨V.length+1,_,O,A _ _,?_⟩;refine EO (xs:=[.int (hW F x d).1.1,.int (hW F x d).1.2,.int (hW F x d).2]) (a:=Y) (b:=Z 2) O O O ?_;rw[K9];walk_at"w";refine HA (e:=(hW F x d).1) (A _ _) (by lia) (u5 ah).1 ?_;refine lG (i:=2) (xs:=[.int (hW F x d).1.1,.int (hW F x d).1.2,.int (hW F x d).2]) (x:=.int (hW F x d).2) O ?_;walk_at"w";exact⟨O,_,O⟩
   ·rintro r' _;refine⟨dA (by rw[lM1,ci];lia),?_⟩;walk_at"w";refine dW (xs:=(Z7 (oM w x.1)).map λd=>pD (BM met (hW F x d).1,(hW F x d).2)) ?_ ?_
    ·rw[show∀(a b:Ob),G2++[a,b]=(G2++[a])++[b]from λa b=>by simp];have:=wm (o:=o') (a:=.lst (met.map pD)) (b:=.lst (((uv w F met).take i).map rD)) (V:=V) (G:=G2++[.lst ((Z7 (oM w x.1)).map λd=>CU (hW F x d))]) (X:=.lst ((Z7 (oM w x.1)).map λd=>pD (BM met (hW F x d).1,(hW F x d).2)));rw[<- this]
     congr 1
     simp
     try lia
    refine(jc (N _ _ _)).mpr ⟨dA (by rw[lM1,aL];lia),?_⟩;refine⟨G2++[.lst ((Z7 (oM w x.1)).map λd=>CU (hW F x d)),.lst ((Z7 (oM w x.1)).map λd=>pD (BM met (hW F x d).1,(hW F x d).2))],_,_,_,by lia,?_,O⟩
    ·rw[cm,cQ _ _ (by lia),show V.length+1-V.length=1 by lia,cy];rw[show(uv w F met)[i]?=Z (sI w F met x) by unfold uv;rw[gP1,u];rfl];rw[Option.toList_some,cx];rw[show[sI w F met x].map rD=[.tup ((Z7 (oM w x.1)).map λd=>pD (BM met (hW F x d).1,(hW F x d).2))] by simp[rD,sI,Function.comp_def]];rfl
  ·rintro r S ⟨G2,z4,z9,H,hi,rfl,rfl⟩;rw[lM1,bH,bZ (by unfold uv;rw[lM1];exact nR1 _)];exact⟨O,G2,_,_,_,O,O⟩
 rintro r S ⟨G2,z4,z9,H,rfl,rfl⟩;have hcl:(uv w F met).length=met.length:=by unfold uv;rw[lM1]
 walk_at"w";refine dW (N _ _ _) ?_;refine dW (A _ _) ?_;refine jZ (f:=pD) (λx:Nat×Nat=>D.int (x.1:Nat)) (λr=>∃y0 y1,r=[y0,y1]) (eY (A _ _)) met _ ⟨_,_,O⟩ ?_ ?_
 ·rintro x u r ⟨y0,y1,rfl⟩;rw[pD];walk_at"w";exact⟨_,_,O⟩
 ·rintro r' _;refine⟨dA (by rw[lM1];lia),?_⟩;walk_at"w";refine dW (xs:=met.map λx:Nat×Nat=>D.int (x.1:Nat)) wm ?_;walk_at"w";have e:met.map (λx:Nat×Nat=>D.int (x.1:Nat))=nmD (met.map (·.1)):=by rw[nmD,bm];rfl
  rw[e];refine⟨.tup [webD (uv w F met),.tup (nmD (met.map (·.1)))],o',(dO F::G)++(.lst (met.map pD) :: .lst ((uv w F met).map rD)::(G2++[.lst (nmD (met.map (·.1)))])),?_,?_,I.und,q met.length _ _ o' hp hf (yJ hw L.nd cl jn) (by rw[lM1]) (λx u=>by obtain⟨y,hy,rfl⟩:=b6.mp u;have:=(L.inn y hy).1;lia) I⟩
  ·rw[<- hV,bx];rfl
  ·rw[D.und,D.unds,d6,D.unds,D.unds,D.und,fq];rfl
theorem ER{m:FA}{r:Ev}{S S1:Sto}{k:Nat}{Q:D×Sto->Prop}(h:m r S=Z ([.int k],S1))(hk:k<=1000)(q:Q (.tup (nmD (Z7 k)),S1)):W (Au m r S) Q:=by
 refine W.of ?_ q;unfold Au;rw[h,oS1];dsimp only;have:mm 0 (k:Int)=M:=by
  unfold mm;simp only[bA1,af];lia
 rw[ae this,Int.toNat_natCast,la];rfl
theorem K5{a:Nat}{S:Sto}(h1:1<=a)(b:a<=4):rE (.int 8) (.int a) S=Z (.int ((8/a:Nat):Int),S):=by
 match a,h1,b with
 |1,_,_=>rfl
 |2,_,_=>rfl
 |3,_,_=>rfl
 |4,_,_=>rfl
theorem lj{w:dr}{S:Sto}:dN (webD w) S=Z (.int w.length,S):=by
 unfold webD;rw[fr,lM1]
theorem LY{d:Nat}(h:d<6):∃a:Nat,([.int 1,.int 1,.int 2,.int 2,.int 3,.int 4]:List D)[d]?=Z (.int a)/\1<=a/\a<=4:=by
 match d,h with
 |0,_=>exact⟨1,O,by decide,by decide⟩
 |1,_=>exact⟨1,O,by decide,by decide⟩
 |2,_=>exact⟨2,O,by decide,by decide⟩
 |3,_=>exact⟨2,O,by decide,by decide⟩
 |4,_=>exact⟨3,O,by decide,by decide⟩
 |5,_=>exact⟨4,O,by decide,by decide⟩
theorem KS{m a:Nat}(h:m<=8/a):m*a<=8:=av (Nat.mul_le_mul_right a h) (Nat.div_mul_le_self 8 a)
theorem HS{o:Ob}{n:Nat}{T:Sto}{Q:D×Sto->Prop}(ho:Hnd o n)(hn:n<=2^39)(C:T.all (Ob.und (T.length+1))=M)(q:∀m w rs o',0<m->m<=8->WebJ m w->rs.length=m->(∀x∈rs,x<8)->Hnd o' (n+300)->Q (.tup [webD w,.tup (nmD rs)],o'::T)):W (dn 1 hE [.ref 0] (o::T)) Q:=by
 refine ue O O C ?_;unfold hE;refine jg ?_;unfold oG;generalize u:T++[Ob.lst [.int 1,.int 1,.int 2,.int 2,.int 3,.int 4]]=X;have j:X.all (Ob.und (X.length+1))=M:=by rw[<- u];exact Ld C O
 refine dL (λr S=>∃(cp:Nat) (g:Ob),1<=cp/\cp<=4/\Hnd g (n+1)/\S=g::X/\r=[Z (.ref 0),Z (.int cp),Y]) ?_ ?_
 ·walk_at"w";refine f0 ho (by lia) (by lia) (by lia) λd g e L=>?_;obtain⟨cp,h1,h2,K⟩:=LY (d:=d) (by lia);walk_at"w";refine iL (i:=d) (xs:=[.int 1,.int 1,.int 2,.int 2,.int 3,.int 4]) (x:=.int cp) (by rw[gC1,dz];rfl) h1 ?_;exact⟨cp,g,h2,K,e,by rw[u],O⟩
 rintro r S ⟨cp,g,h1,F,e,rfl,rfl⟩;refine dL (λr S=>∃(m:Nat) (w:dr) (b:Ob),0<m/\m<=8/cp/\se m w/\Hnd b (n+101)/\S=b::X/\r=[Z (.ref 0),Z (.int cp),Z (webD w)]) ?_ ?_
 ·((try walk_at"w");repeat(simp only[K5 h1 F];try walk_at"w"))
  have ag:1<=8/cp:=Nat.div_pos (by lia) (by lia);refine Cz e (by lia) j ag (Nat.div_le_self 8 cp) λm w b c t f a=>?_;exact⟨m,w,b,c,t,f,a.more (by lia),O,O⟩
 rintro r S ⟨m,w,b,c,t,f,a,rfl,rfl⟩;have B:m<=8:=av t (Nat.div_le_self 8 cp);have G:((cp:Int) == 1)=decide (cp=1):=by
  rw[bJ,beq_iff_eq,af];lia
 unfold dw eB;rw[dk];have l:mB (m2 (b2 gEq) (mV 1) (mC (D.int (1)))) [Z (.ref 0),Z (.int cp),Z (webD w)] (b::X)=Z (decide (cp=1),b::X):=by
  rw[<- G];rfl
 rw[dk];refine W.of l ?_;dsimp only;by_cases h:cp=1
 ·rw[Z9 h,ae O];simp(implicitDefEqProofs:=J) only[dX,mN,di,mV,dj,oS1,dk,dt,sf,gC1,cG,lC1,aW,cJ,LI,LG,true_and];refine ER (k:=m) (S1:=b::X) ?_ (by lia) ?_
  ·simp only[di,dj,mN,mV,b1,gC1,cG,cK,oP1,oS1,lj,f.len]
  walk_at"w";refine⟨.tup [webD w,.tup (nmD (Z7 m))],b,[Ob.lst [.int 1,.int 1,.int 2,.int 2,.int 3,.int 4]],by rw[u],?_,a.und,q m w _ b c B f.toWebJ ci (λx H=>by have:=au.mp H;lia) (a.more (by lia))⟩;rw[D.und,D.unds,d6,D.unds,D.unds,D.und,fq];rfl
 ·rw[aa h,ab (by decide)];walk_at"w";refine DT f c (by lia) F (KS t) a (by lia) j λI cw rs E p z A y v s=>?_;refine⟨.tup [webD cw,.tup (nmD rs)],E,[Ob.lst [.int 1,.int 1,.int 2,.int 2,.int 3,.int 4]],by rw[u],?_,s.und,q I cw rs E p z A y v (s.more (by lia))⟩;rw[D.und,D.unds,d6,D.unds,D.unds,D.und,fq];rfl
open Classical in
def tf(P:Prop):Bool:=decide P
theorem xj{P:Prop}:tf P=M↔P:=by unfold tf;exact @decide_eq_true_iff P (Classical.propDecidable P)
theorem oP{P:Prop}(h:P):tf P=M:=xj.mpr h
theorem xk{P:Prop}{b:Bool}(h:b=M↔P):b=tf P:=by rw[bJ,xj];exact h
theorem uI{P:Prop}(h:¬ P):tf P=J:=(xk ⟨λz=>(by cases z),λz=>(h z).elim⟩).symm
theorem Kp{P Q:Prop}(h:P↔Q):tf P=tf Q:=xk (xj.trans h)
section
variable{α β:Type}
def isF(k:Nat->α)(r:Nat):Prop:=∀s,s<r->k s≠k r
theorem wK(k:Nat->α)(r:Nat):∃s,s<=r/\k s=k r/\isF k s:=by
 induction r using Nat.strongRecOn with
 |ind r ih=>
  by_cases h:isF k r
  ·exact⟨r,nR1 _,O,h⟩
  ·obtain⟨s,h1,h2⟩:∃s,s<r/\k s=k r:=Classical.byContradiction λz=>h λs c e=>z ⟨s,c,e⟩;obtain⟨u,d,a,b⟩:=ih s h1;exact⟨u,by lia,a.trans h2,b⟩
def fs(k:Nat->α)(r:Nat):Nat:=Classical.choose (wK k r)
theorem pJ(k:Nat->α)(r:Nat):fs k r<=r:=(Classical.choose_spec (wK k r)).1
theorem tS(k:Nat->α)(r:Nat):k (fs k r)=k r:=(Classical.choose_spec (wK k r)).2.1
theorem u8(k:Nat->α)(r:Nat):isF k (fs k r):=(Classical.choose_spec (wK k r)).2.2
theorem wL{k:Nat->α}{r s:Nat}(h:k s=k r)(hf:isF k s):s=fs k r:=by
 rcases cv s (fs k r)with z|z|z
 ·exact(u8 k r s z (h.trans (tS k r).symm)).elim
 ·exact z
 ·exact(hf _ z ((tS k r).trans h.symm)).elim
theorem oj{k:Nat->α}{r s:Nat}:fs k r=fs k s↔k r=k s:=by
 constructor
 ·intro h;rw[<- tS k r,h];exact tS k s
 ·intro h;exact wL ((tS k r).trans h) (u8 k r)
def cnt(k:Nat->α)(n:Nat):Nat:=((Z7 n).filter λs=>tf (isF k s)).length
def cn(k:Nat->α)(r:Nat):Nat:=cnt k (fs k r)
theorem ua{k:Nat->α}{n:Nat}:cnt k (n+1)=cnt k n+if tf (isF k n)=M then 1 else 0:=by
 unfold cnt;rw[cU,cP,lA1]
 congr 1
 cases h:tf (isF k n)with
 |true=>rw[cV (by exact h)];rfl
 |false=>rw[cW (by rw[h];decide)];rfl
theorem ub{k:Nat->α}{a b:Nat}(h:a<=b):cnt k a<=cnt k b:=by
 induction b with
 |zero=>rw[show a=0 by lia];exact nR1 _
 |succ b ih=>
  rcases cT.mp (Nat.lt_succ_of_le h)with z|z
  ·rw[ua];have:=ih (by lia);lia
  ·rw[z];exact nR1 _
theorem vf{k:Nat->α}{a b:Nat}(h:a<b)(hf:isF k a):cnt k a<cnt k b:=by
 have h1:=ub (k:=k) (show a+1<=b from h);rw[ua,oP hf,ae O]at h1;lia
theorem Bh{k:Nat->α}{r s:Nat}:cn k r=cn k s↔k r=k s:=by
 constructor
 ·intro h;rw[<- oj];rcases cv (fs k r) (fs k s)with z|z|z
  ·have:=vf z (u8 k r);unfold cn at h;lia
  ·exact z
  ·have:=vf z (u8 k s);unfold cn at h;lia
 ·intro h;unfold cn;rw[oj.mpr h]
theorem pC{k:Nat->α}{k':Nat->β}{m r:Nat}(h:∀a b,a<m->b<m->(k a=k b↔k' a=k' b))(hr:r<m):isF k r↔isF k' r:=
 ⟨λf s c e=>f s c ((h s r (by lia) hr).mpr e),λf s c e=>f s c ((h s r (by lia) hr).mp e)⟩
theorem AZ{k:Nat->α}{k':Nat->β}{m r:Nat}(h:∀a b,a<m->b<m->(k a=k b↔k' a=k' b))(hr:r<m):fs k r=fs k' r:=by
 have h1:=pJ k r;exact wL ((h _ _ (by lia) hr).mp (tS k r)) ((pC h (by lia)).mp (u8 k r))
theorem yf{k:Nat->α}{k':Nat->β}{m n:Nat}(h:∀a b,a<m->b<m->(k a=k b↔k' a=k' b))(hn:n<=m):cnt k n=cnt k' n:=by
 unfold cnt
 congr 1
 refine List.filter_congr λs c=>?_;exact Kp (pC h (by have:=au.mp c;lia))
theorem uc{k:Nat->α}{k':Nat->β}{m r:Nat}(h:∀a b,a<m->b<m->(k a=k b↔k' a=k' b))(hr:r<m):cn k r=cn k' r:=by
 unfold cn;have h1:=pJ k r;rw[<- AZ h hr];exact yf h (by lia)
theorem JG{k:Nat->α}{r:Nat}:cn (cn k) r=cn k r:=uc (m:=r+1) (λ_ _ _ _=>Bh) (bt r)
end
def fg(w:dr)(r:Nat):List (Nat×Nat):=w[r]?.getD []
theorem qm{w:dr}{r:Nat}{row:List (Nat×Nat)}(h:w[r]?=Z row):fg w r=row:=by unfold fg;rw[h];rfl
def gh(sg:List Int)(r:Nat):Int:=sg.getD r 0
def Gh(c:Nat->Nat)(e:Nat×Nat):Nat×Nat:=(c e.1,e.2)
def lk(w:dr)(sg:List Int)(c:Nat->Nat)(r:Nat):Nat×Int×List (Nat×Nat):=(c r,gh sg r,(fg w r).map (Gh c))
def col(w:dr)(sg:List Int):Nat->Nat->Nat
 |0=>λ_=>0
 |n+1=>cn (lk w sg (col w sg n))
def Dr(w:dr)(R:Nat->Nat->Prop)(r s:Nat):Prop:=(fg w r).length=(fg w s).length /\ ∀(d:Nat) (e e':Nat×Nat),(fg w r)[d]?=Z e->(fg w s)[d]?=Z e'->R e.1 e'.1/\e.2=e'.2
theorem Dr.imp{w:dr}{R f:Nat->Nat->Prop}{r s:Nat}(h:Dr w R r s)(i:∀a b,R a b->f a b):Dr w f r s:=⟨h.1,λd e c h1 h2=>⟨i _ _ (h.2 d e c h1 h2).1,(h.2 d e c h1 h2).2⟩⟩
theorem GI{γ:Type}{w:dr}{c:Nat->γ}{r s:Nat}:(fg w r).map (λe=>(c e.1,e.2))=(fg w s).map (λe=>(c e.1,e.2))↔Dr w (λa b=>c a=c b) r s:=by
 constructor
 ·intro h;refine⟨by have:=congrArg List.length h;rwa [lM1,lM1]at this,λd e e' h1 h2=>?_⟩;have:=congrArg (λl:List (γ×Nat)=>l[d]?) h;simp only[gP1,h1,h2,oP1,Option.some.injEq,Prod.mk.injEq]at this;exact this
 ·rintro⟨h1,h2⟩;refine bR λd=>?_;rw[gP1,gP1];cases he:(fg w r)[d]? with
  |none=>
   rw[List.getElem?_eq_none_iff]at he;rw[bS (by lia)]
  |some e=>
   have j:=(gE1.mp he).1;obtain⟨e',f⟩:∃e',(fg w s)[d]?=some e':=⟨_,gG1 (by lia)⟩;rw[f];obtain⟨g,i⟩:=h2 d e e' he f;simp only[oP1,g,i]
def RA(w:dr)(sg:List Int):Nat->Nat->Nat->Prop
 |0=>λ_ _=>True
 |n+1=>λr s=>RA w sg n r s/\gh sg r=gh sg s/\Dr w (RA w sg n) r s
theorem iY{w:dr}{c:List Int}:∀{n r s:Nat},col w c n r=col w c n s↔RA w c n r s
 |0,r,s=>⟨λ_=>trivial,λ_=>rfl⟩
 |n+1,r,s=>by
  have ih:=@iY w c n;rw[col,Bh,lk,lk,Prod.mk.injEq,Prod.mk.injEq,RA,ih];refine and_congr_right λ_=>and_congr_right λ_=>?_;exact GI.trans ⟨λh=>h.imp λa b=>ih.mp,λh=>h.imp λa b=>ih.mpr⟩
theorem ve{w:dr}{a:List Int}:∀{n r:Nat},col w a n r=cn (col w a n) r
 |0,r=>by
  have:fs (col w a 0) r=0:=(wL (k:=col w a 0) (s:=0) (r:=r) O λs b=>absurd b (bo s)).symm;unfold cn;rw[this];rfl
 |n+1,r=>by rw[col,JG]
def EB(w:dr)(sg:List Int):Nat->Nat->Nat->Prop
 |0=>λr s=>(fg w r).length=(fg w s).length/\gh sg r=gh sg s
 |n+1=>λr s=>EB w sg n r s/\Dr w (EB w sg n) r s
theorem RA.eb{w:dr}{c:List Int}:∀{n r s:Nat},RA w c (n+1) r s->EB w c n r s
 |0,r,s,h=>⟨h.2.2.1,h.2.1⟩
 |n+1,r,s,h=>⟨RA.eb h.1,h.2.2.imp λa b=>RA.eb⟩
def Stl(m:Nat)(w:dr)(sg:List Int)(n:Nat):Prop:=∀r s,r<m->s<m->RA w sg n r s->RA w sg (n+1) r s
theorem Dr.lt{m:Nat}{w:dr}{R j:Nat->Nat->Prop}{r s:Nat}(hw:WebJ m w)(h:Dr w R r s)(i:∀a b,a<m->b<m->R a b->j a b):Dr w j r s:=by
 have at_:∀{r d:Nat} {e:Nat×Nat},(fg w r)[d]?=Z e->e.1<m:=λ{r d e} c=>by
  unfold fg at c;cases hr:w[r]? with
  |none=>rw[hr]at c;simp at c
  |some f=>rw[hr]at c;exact hw.to r d e ⟨f,hr,c⟩
 exact⟨h.1,λd e g h1 h2=>⟨i _ _ (at_ h1) (at_ h2) (h.2 d e g h1 h2).1,(h.2 d e g h1 h2).2⟩⟩
theorem Stl.next{m n:Nat}{w:dr}{a:List Int}(hw:WebJ m w)(h:Stl m w a n):Stl m w a (n+1):=λr s c b q=>
 ⟨q,q.2.1,q.2.2.lt hw h⟩
theorem Stl.on{m n:Nat}{w:dr}{a:List Int}(hw:WebJ m w)(h:Stl m w a n):∀k,Stl m w a (n+k)
 |0=>h
 |k+1=>(h.on hw k).next hw
theorem Stl.up{m n:Nat}{w:dr}{a:List Int}(hw:WebJ m w)(h:Stl m w a n):∀k r s,r<m->s<m->(RA w a n r s↔RA w a (n+k) r s)
 |0,r,s,_,_=>Iff.rfl
 |k+1,r,s,hr,hs=>(h.up hw k r s hr hs).trans ⟨λq=>h.on hw k r s hr hs q,λq=>q.1⟩
theorem t9{m n k:Nat}{w:dr}{c:List Int}(h:∀r s,r<m->s<m->(RA w c n r s↔RA w c k r s)){r:Nat}(hr:r<m):col w c n r=col w c k r:=by
 rw[ve (n:=n),ve (n:=k)];exact uc (m:=m) (λa b e d=>by rw[iY,iY];exact h a b e d) hr
theorem B4{m n:Nat}{w:dr}{b:List Int}:(∀r,r<m->col w b (n+1) r=col w b n r)↔Stl m w b n:=by
 constructor
 ·intro h r s a c q;rw[<- iY]at q ⊢;rw[h r a,h s c,q]
 ·intro h r a;exact(t9 (λr s a c=>⟨λq=>h r s a c q,λq=>q.1⟩) a).symm
theorem wO{p q:Nat->Bool}(h:∀x,p x=M->q x=M):∀l:List Nat,(l.filter p).length<=(l.filter q).length/\((l.filter p).length=(l.filter q).length -> ∀x∈l,q x=M->p x=M)
 |[]=>⟨nR1 _,λ_ x b=>by cases b⟩
 |a::l=>by
  obtain⟨h1,h2⟩:=wO h l;cases hp:p a with
  |true=>
   rw[cV hp,cV (h a hp),lC1,lC1];refine⟨by lia,λe x b d=>?_⟩;rcases ay.mp b with rfl|b
   ·exact hp
   ·exact h2 (by lia) x b d
  |false=>
   rw[cW (by rw[hp];decide)];cases d:q a with
   |true=>
    rw[cV d,lC1];exact⟨by lia,λe=>by lia⟩
   |false=>
    rw[cW (by rw[d];decide)];refine⟨h1,λe x b c=>?_⟩;rcases ay.mp b with rfl|b
    ·rw[d]at c;cases c
    ·exact h2 e x b c
theorem more{m n:Nat}{w:dr}{a:List Int}(h:¬ Stl m w a n):cnt (col w a n) m<cnt (col w a (n+1)) m:=by
 have c:∀r,isF (col w a n) r->isF (col w a (n+1)) r:=λr d s f e=>d s f (by rw[iY]at e ⊢;exact e.1);obtain⟨h1,h2⟩:=wO (p:=λs=>tf (isF (col w a n) s)) (q:=λs=>tf (isF (col w a (n+1)) s)) (λx b=>oP (c x (xj.mp b))) (Z7 m);refine Nat.lt_of_le_of_ne h1 λe=>h λr s g f q=>?_;have back:∀x,x<m->isF (col w a (n+1)) x->isF (col w a n) x:=λx b d=>xj.mp (h2 e x (au.mpr b) (oP d))
 -- both have one first place
 have one:∀x,x<m->fs (col w a (n+1)) x=fs (col w a n) x:=λx b=>by
  have i:=pJ (col w a (n+1)) x;refine wL ?_ (back _ (by lia) (u8 _ x));have:=tS (col w a (n+1)) x;rw[iY]at this ⊢;exact this.1
 rw[<- iY]at q ⊢;rw[<- oj,one r g,one s f,oj];exact q
theorem Bg(k:Nat->Nat)(m:Nat):cnt k m<=m:=by
 unfold cnt;exact av (cN ..) (by rw[ci];exact nR1 _)
theorem zx{m n:Nat}{w:dr}{a:List Int}(hm:0<m)(h:∀k,k<n -> ¬ Stl m w a k):n<m:=by
 have:∀k,k<=n->k+1<=cnt (col w a k) m:=λk=>by
  induction k with
  |zero=>
   intro _;have:=vf (k:=col w a 0) hm (λs b=>by lia);lia
  |succ k ih=>
   intro c;have h1:=ih (by lia);have h2:=more (h k (by lia));lia
 have h1:=this n (nR1 _);have h2:=Bg (col w a n) m;lia
def ip(m:Nat)(w:dr)(sg:List Int):List Nat:=(Z7 m).map (col w sg m)
theorem B5{m n:Nat}{w:dr}{sg:List Int}(hw:WebJ m w)(h:Stl m w sg n)(hn:n<=m):(Z7 m).map (col w sg n)=ip m w sg:=by
 refine cB λr d=>?_;refine t9 (λa b e c=>?_) (au.mp d);have:=h.up hw (m-n) a b e c
 rwa [show n+(m-n)=m by lia]at this
theorem zY{n:Nat}{o:Ob}(h:o.und 0=M):o.sh n=o:=by
 have a:∀{κ:Type} (l:List (κ×D)),D.unds 0 (l.map (·.2))=M->(l.map λp=>(p.1,p.2.sh n))=l:=λl=>by
  induction l with
  |nil=>intro _;rfl
  |cons x l ih=>
   intro h;rw[mP1,D.unds,bA1]at h;rw[mP1,ih h.2,zp h.1]
 cases o with
 |lst xs=>rw[Ob.und]at h;rw[Ob.sh,kN h]
 |dct l=>rw[Ob.und]at h;rw[Ob.sh,a l h]
 |dcT l=>rw[Ob.und]at h;rw[Ob.sh,a l h]
 |dcF l=>rw[Ob.und]at h;rw[Ob.sh,a l h]
 |iset l=>rfl
 |tst l=>rfl
theorem zh{n:Nat}{S:Sto}(h:S.all (Ob.und 0)=M):S.map (Ob.sh n)=S:=by
 have:S.map (Ob.sh n)=S.map id:=cB λo a=>zY (br.mp h o a);rw[this,List.map_id]
theorem EL{n:Nat}{f:FN}{ds:List D}{S:Sto}{Q:D×Sto->Prop}(hn:ds.length=n)(c:D.unds 0 ds=M)(h:W (f ds []) λp=>∃k xs,p.1 = .ref k/\p.2[k]?=Z (.lst xs)/\p.2.all (Ob.und 0)=M /\ ∀G j,(S++G)[j]?=Z (.lst xs)->G.all (Ob.und 0)=M->S.length<=j->Q (.ref j,S++G)):W (dn n f ds S) Q:=by
 obtain⟨⟨d,G⟩,e,k,xs,rfl,b,a,q⟩:=h;refine⟨_,oB e hn c O,?_⟩;dsimp only at b a;rw[zh a];exact q G _ (by rw[ej];exact b) a (bj _ _)
theorem Le{S:Sto}(h:S.all (Ob.und 0)=M):S.all (Ob.und S.length)=M:=by
 rw[br]at *
 exact λo a=>fI (a0 _) (h o a)
abbrev sgD(sg:List Int):D:=.tup (sg.map D.int)
theorem g6(a:List Int):(sgD a).und 0=M:=by rw[D.und];exact eI λ_ _=>rfl
abbrev EJ(m:Nat)(c:Nat->Nat):List Nat:=(Z7 m).map c
abbrev rR(m:Nat)(c:Nat->Nat):D:=.tup (nmD (EJ m c))
theorem JW{m r:Nat}{c:Nat->Nat}{S:Sto}{Q:D×Sto->Prop}(hr:r<m)(q:Q (.int (c r:Nat),S)):W (dv (rR m c) (.int r) S) Q:=
 lG (i:=r) (x:=.int (c r:Nat)) (by rw[nmD,gP1,gP1,ca hr];rfl) q
theorem By{m r:Nat}{a:List Int}{S:Sto}{Q:D×Sto->Prop}(b:a.length=m)(hr:r<m)(q:Q (.int (gh a r),S)):W (dv (sgD a) (.int r) S) Q:=
 lG (i:=r) (x:=.int (gh a r)) (by rw[gP1,gG1 (by lia)];unfold gh;rw[bC,gG1 (by lia)];rfl) q
abbrev Lk:=Nat×Int×List (Nat×Nat)
def rh(x:Lk):D:=.tup [.int (x.1:Nat),.int x.2.1,.tup (x.2.2.map pD)]
theorem Dh(x:Lk):(rh x).und 0=M:=by
 unfold rh;rw[D.und,D.unds,D.unds,D.unds,D.und,eI (λ_ _=>rfl)];rfl
theorem Dd{m:Nat}{w:dr}{b:List Int}{c:Nat->Nat}(hw:WebJ m w)(hm:m<=8)(hs:b.length=m):W (ge [webD w,sgD b,rR m c] []) λp=>∃k,p.1 = .ref k/\p.2[k]?=Z (.lst ((Z7 m).map λr=>rh (lk w b c r)))/\p.2.all (Ob.und 0)=M:=by
 unfold ge;refine jg ?_;unfold sd;refine dL (λr V=>V=[.lst []]/\r=[Z (webD w),Z (sgD b),Z (rR m c),Z (.ref 0),Y,Y,Y]) ?_ ?_
 ·walk_at"w"
  try exact⟨O,trivial⟩
 rintro r V ⟨rfl,rfl⟩;refine dL (λr V=>∃G h j x6,G.all (Ob.und 0)=M/\V = .lst ((Z7 m).map λr=>rh (lk w b c r))::G/\r=[Z (webD w),Z (sgD b),Z (rR m c),Z (.ref 0),h,j,x6]) ?_ ?_
 ·unfold eR;rw[dk];refine oK (xs:=w.map λa=>.tup (a.map pD)) O ?_;refine ez (λi r V=>∃G h j x6,i<=m/\G.all (Ob.und 0)=M/\V = .lst ((Z7 i).map λr=>rh (lk w b c r))::G/\r=[Z (webD w),Z (sgD b),Z (rR m c),Z (.ref 0),h,j,x6]) _ 0 _ _ ⟨[],_,_,_,by lia,O,O,O⟩ (λ_ _ _ _=>rfl) ?_ ?_
  ·rintro i B o r V ⟨G,h,j,x6,hi,l,rfl,rfl⟩;rw[fO,gP1]at o;obtain⟨z,x,rfl⟩:=oM1.mp o;obtain⟨a,g,rfl⟩:=oM1.mp x;have q:i<m:=by rw[<- hw.len];exact(gE1.mp g).1
   have A:=hw.le i a g;rw[bH]at *
   walk_at"w";unfold lR;refine dL (λr V=>V = .lst ((Z7 i).map λr=>rh (lk w b c r))::(G++[.lst (a.map λe=>pD (Gh c e))])/\r=[Z (webD w),Z (sgD b),Z (rR m c),Z (.ref 0),Z (.int (i:Nat)),Z (.tup (a.map pD)),Z (.tup (a.map λe=>pD (Gh c e)))]) ?_ ?_
   ·walk_at"w";rw[kq];refine jZ (f:=pD) (λe=>pD (Gh c e)) (λs=>∃u t,s=[u,t,Z (rR m c)]) O a _ ⟨_,_,O⟩ ?_ ?_
    ·rintro e y s ⟨u,t,rfl⟩;obtain⟨d,v⟩:=bi y;have:=hw.to i d e ⟨a,g,v⟩;rw[pD];walk_at"w";refine JW this ?_;walk_at"w";exact⟨O,_,_,O⟩
    ·rintro s _;refine⟨dA (by rw[lM1];lia),?_⟩;walk_at"w";refine dW (xs:=a.map λe=>pD (Gh c e)) (by rw[gC1,dz];rfl) ?_
     first|exact⟨rfl,rfl⟩|exact⟨rfl,trivial⟩|rfl
   rintro r V ⟨rfl,rfl⟩;unfold eK;rw[dk];refine gK ?_;walk_at"w";refine⟨0,(Z7 i).map λr=>rh (lk w b c r),O,O,?_⟩;refine JW q ?_;walk_at"w";refine By hs q ?_;walk_at"w";refine(jc (n:=0) (xs:=(Z7 i).map λr=>rh (lk w b c r)) O).mpr ⟨dA (by rw[lM1,ci];lia),?_⟩;refine⟨G++[.lst (a.map λe=>pD (Gh c e))],_,_,_,by lia,?_,?_,O⟩
   ·rw[cD,l,bI,Ob.und,eI (λ_ _=>rfl)];rfl
   ·have e:rh (lk w b c i)=D.tup [D.int (c i:Nat),D.int (gh b i),D.tup (a.map fun e=>pD (Gh c e))]:=by
     unfold lk;rw[qm g,rh,bm];rfl
    rw[cU,cx,mP1,e];rfl
  ·rintro r V ⟨G,h,j,x6,hi,l,rfl,rfl⟩;rw[fN,lM1,bH,hw.len];exact⟨O,G,_,_,_,l,O,O⟩
 rintro r V ⟨G,h,j,x6,l,rfl,rfl⟩;walk_at"w";refine⟨0,O,O,?_⟩;rw[bI,l,Ob.und,eI (λ_ _=>Dh _)];rfl
def Dg(x:Lk):TK:=.tup [.int (x.1:Nat),.int x.2.1,.tup (x.2.2.map HK)]
theorem Ey:∀l:List (Nat×Nat),xS (l.map pD)=Z (l.map HK)
 |[]=>rfl
 |e::l=>by
  rw[mP1,xS,Ey l];rfl
theorem EI:∀l:List (Nat×Nat),TK.depAll (l.map HK)<=2
 |[]=>by simp[TK.depAll]
 |e::l=>by
  have:=EI l;rw[mP1,TK.depAll];have:(HK e).dep<=2:=by simp[HK,TK.dep,TK.depAll]
  lia
theorem n0(x:Lk):iG (rh x)=Z (Dg x):=by
 have e:xS [.int (x.1:Nat),.int x.2.1,.tup (x.2.2.map pD)]=Z [.int (x.1:Nat),.int x.2.1,.tup (x.2.2.map HK)]:=by
  simp only[xS,kD,Ey,oP1,oS1]
 unfold rh;rw[iG,e,oS1,ae]
 ·rfl
 ·have:=EI x.2.2;simp[TK.dep,TK.depAll];lia
theorem Di{x y:Lk}(h:rh x=rh y):x=y:=by
 obtain⟨a,b,l⟩:=x;obtain⟨g,i,l'⟩:=y;unfold rh at h;injection h with h;injection h with h1 h;injection h with h2 h;injection h with c h;injection h1 with h1;injection h2 with h2;injection c with c;have:l=l':=(List.map_inj_right λx y e=>by
  unfold pD at e;injection e with e;injection e with d e;injection e with f e;injection d with d;injection f with f;exact Prod.ext (by lia) (by lia)).mp c
 dsimp only at h1 h2;rw[this,h2,show a=g by lia]
theorem ww{x y:Lk}(h:Dg x=Dg y):x=y:=by
 have h1:=(na (n0 x)).1;have h2:=(na (n0 y)).1;exact Di (by rw[<- h1,<- h2,h])
def nF(k:Nat->Lk)(i:Nat):List (TK×D):=((Z7 i).filter λf=>tf (isF k f)).map λf=>(Dg (k f),.int (cnt k f:Nat))
theorem nF_len{k:Nat->Lk}{i:Nat}:(nF k i).length=cnt k i:=by unfold nF cnt;rw[lM1]
theorem q0{k:Nat->Lk}{i:Nat}:nF k (i+1)=nF k i++if tf (isF k i)=M then[(Dg (k i),.int (cnt k i:Nat))]else[]:=by
 unfold nF;rw[cU,cP,cx]
 congr 1
 cases h:tf (isF k i)with
 |true=>rw[cV (by exact h)];rfl
 |false=>rw[cW (by rw[h];decide)];rfl
theorem q9{k:Nat->Lk}:∀{i r:Nat},fs k r<i->dF (nF k i) (Dg (k r))=Z (.int (cn k r:Nat))
 |0,r,h=>by lia
 |i+1,r,h=>by
  rw[q0,nY];by_cases hi:fs k r<i
  ·rw[q9 hi];rfl
  ·have e:fs k r=i:=by lia
   have c:=u8 k r;have a:=tS k r;rw[e]at c a;rw[oP c,ae O];have j:dF (nF k i) (Dg (k r))=Y:=by
    refine jU ?_;rw[cE];intro z;obtain⟨p,l,g⟩:=bK.mp z;obtain⟨f,d,rfl⟩:=b6.mp l;have b:=au.mp (ar.mp d).1;have:=ww (of_decide_eq_true g);exact c f b (by rw[a];exact this)
   rw[j,Option.none_or,fF,ae (by rw[a])];unfold cn;rw[e]
theorem Ag{k:Nat->Lk}{i:Nat}(h:isF k i):((nF k i).any λp=>decide (p.1=Dg (k i)))=J:=by
 rw[cE];intro z;obtain⟨p,b,d⟩:=bK.mp z;obtain⟨f,c,rfl⟩:=b6.mp b;have a:=au.mp (ar.mp c).1;exact h f a (ww (of_decide_eq_true d))
theorem Gd{S:Sto}{n:Nat}{F:List (TK×D)}{d:D}{k:TK}(h:S[n]?=Z (dO F))(hk:iG d=Z k):jW d (.ref n) S=Z (.bl (!(dF F k).isSome),S):=by
 unfold dO at h;by_cases a:F=[]
 ·subst a;rw[ae O]at h;simp only[jW,h,hk];rfl
 ·rw[ab a]at h;simp only[jW,ft,h,hk,oP1]
theorem KZ{S:Sto}{n:Nat}{F:List (TK×D)}(h:S[n]?=Z (dO F)):pI (.ref n) S=Z (.int (F.length:Nat),S):=by
 unfold dO at h;by_cases a:F=[]
 ·subst a;rw[ae O]at h;simp only[pI,oi,h];rfl
 ·rw[ab a]at h;simp only[pI,h]
theorem Gc{m n:Nat}{S:Sto}{k:Nat->Lk}{Q:D×Sto->Prop}(u:S.all (Ob.und 0)=M)(hn:S[n]?=Z (.lst ((Z7 m).map λr=>rh (k r))))(hm:m<=8)(q:Q (rR m (cn k),S)):W (dn 1 fU [.ref n] S) Q:=by
 refine oC O O ?_;unfold fU;refine jg ?_;unfold oE;have gn:∀(X:Ob),(S++[X])[n]?=Z (.lst ((Z7 m).map λr=>rh (k r))):=λX=>by rw[gL1 (gE1.mp hn).1];exact hn
 have h:∀(X:Ob),(S++[X])[S.length]?=Z X:=λX=>by rw[dz];rfl
 have st:∀(X ai:Ob),(S++[X]).set S.length ai=S++[ai]:=λX ai=>by rw[cQ _ _ (nR1 _),cr];rfl
 refine dL (λr V=>V=S++[dO (nF k 0)]/\r=[Z (.ref n),Z (.ref S.length),Y]) ?_ ?_
 ·have p:dO (nF k 0) = .dct []:=ae O;rw[p]
  ((try walk_at"w");repeat(simp only[ik];try walk_at"w"))
 rintro r V ⟨rfl,rfl⟩;refine dL (λr V=>∃x2,V=S++[dO (nF k m)]/\r=[Z (.ref n),Z (.ref S.length),x2]) ?_ ?_
 ·walk_at"w";refine dW (gn _) ?_;refine ez (λi r V=>∃x2,i<=m/\V=S++[dO (nF k i)]/\r=[Z (.ref n),Z (.ref S.length),x2]) _ 0 _ _ ⟨_,by lia,O,O⟩ ?_ ?_ ?_
  ·rintro i r V ⟨_,_,rfl,_⟩;exact eY (gn _)
  ·rintro i d g r V ⟨x2,hi,rfl,rfl⟩;dsimp only at g;have a:=(gE1.mp g).1;rw[lM1,ci]at a;rw[gP1,ca a]at g;cases g;rw[bH]at *
   walk_at"w";unfold k6;have t:=Gd (S:=S++[dO (nF k i)]) (d:=rh (k i)) (h _) (n0 _)
   ((try walk_at"w");repeat(simp only[t];try walk_at"w"))
   by_cases c:isF k i
   ·have b:dF (nF k i) (Dg (k i))=Y:=jU (Ag c);rw[b,ae (by rfl)];have v:=KZ (S:=S++[dO (nF k i)]) (h _)
    ((try walk_at"w");repeat(simp only[v];try walk_at"w"))
    refine vt (F:=nF k i) (h _) (n0 _) (by rw[nF_len];have:=ub (k:=k) hi;have w:cnt k m<=m:=(by unfold cnt;exact av (cN ..) (by rw[ci];exact nR1 _));lia) ?_;rw[st];refine⟨_,a,?_,O⟩;rw[q0,oP c,ae O,nF_len];unfold gO;rw[Ag c,ab (by decide)]
   ·obtain⟨s,o,l⟩:∃s,s<i/\k s=k i:=Classical.byContradiction λz=>c λs o e=>z ⟨s,o,e⟩;have j:fs k i<i:=bA (by rw[<- oj.mpr l];exact pJ k s) o;rw[q9 j,ab (by simp)];refine⟨_,a,?_,O⟩;rw[q0,uI c,ab (by decide),aG]
  ·rintro r V ⟨x2,hi,rfl,rfl⟩;rw[lM1,ci,bH];exact⟨O,_,O,O⟩
 rintro r V ⟨x2,rfl,rfl⟩;walk_at"w";refine dW (gn _) ?_;refine jZ (f:=λr=>rh (k r)) (λr=>D.int (cn k r:Nat)) (λr=>∃x,r=[x,Z (.ref S.length)]) (eY (gn _)) (Z7 m) _ ⟨_,O⟩ ?_ ?_
 ·rintro i hi r ⟨x,rfl⟩;walk_at"w";refine BB (h _) (n0 _) (q9 (by have:=pJ k i;have:=au.mp hi;lia)) ?_;exact⟨O,O,_,O⟩
 ·rintro y _;refine⟨dA (by rw[lM1,ci];lia),?_⟩;walk_at"w";refine dW (xs:=nmD (EJ m (cn k))) (by first|(rw[ej,nmD,bm];rfl)|simp[nmD]) ?_;have:=rz (d:=rR m (cn k)) (S:=S) (G:=[dO (nF k m),.lst ((Z7 m).map λr=>D.int (cn k r:Nat))]) (by rw[D.und];exact fq _) (Le u)
  first|(rw[this];exact q)|(show Q (gc _ _);rw[this];exact q)
theorem A3{S:Sto}{n:Nat}:∀a b:List Nat,A4 (kx S (n+1)) (nmD a) (nmD b)=Z (tf (a=b))
 |[],[]=>by rw[oP O];rfl
 |[],_::_=>by rw[uI (by simp)];rfl
 |_::_,[]=>by rw[uI (by simp)];rfl
 |x::a,y::b=>by
  have c:kx S (n+1) (.int x) (.int y)=Z ((x:Int) == (y:Int)):=rfl;show A4 _ (.int x::nmD a) (.int y::nmD b)=_;rw[A4,c,A3 a b,oS1];refine congrArg Z (xk ?_);rw[bA1,beq_iff_eq,xj,List.cons.injEq];constructor
  ·rintro⟨h1,h2⟩;exact⟨by lia,h2⟩
  ·rintro⟨h1,h2⟩;exact⟨by lia,h2⟩
theorem Hd{S:Sto}{n:Nat}{a b:List Nat}:kx S (n+2) (.tup (nmD a)) (.tup (nmD b))=Z (tf (a=b)):=by
 rw[show n+2=n+1+1 from rfl,kx];simp only[jO,A3 (S:=S) (n:=n) a b];simp
theorem IV{S:Sto}{a b:List Nat}:gNe (.tup (nmD a)) (.tup (nmD b)) S=Z (.bl (!tf (a=b)),S):=by
 show(kx S dV _ _).map _=_;rw[show dV=58+2 from rfl,Hd];rfl
theorem JH{m:Nat}{c c':Nat->Nat}:EJ m c=EJ m c' ↔ ∀r,r<m->c r=c' r:=by
 unfold EJ;rw[List.map_inj_left];exact⟨λh r a=>h r (au.mpr a),λh r a=>h r (au.mp a)⟩
theorem Hz{i:Nat}{x:Str}{g:FN}{a:FA}{r:Ev}{S:Sto}{Q:D×Sto->Prop}(h:r[i]?=Z (Z (.fn x)))(q:W (mN g a r S) Q):W (tE i x g a r S) Q:=by
 unfold tE;rw[h];dsimp only;rw[ae O];exact q
theorem vZ{m n:Nat}{w:dr}{b:List Int}{c:Nat->Nat}{S:Sto}{x4:Option D}{Q:D×Sto->Prop}(hw:WebJ m w)(hm:m<=8)(hs:b.length=m)(f:S.all (Ob.und 0)=M)(q:∀G,(S++G).all (Ob.und 0)=M->Q (rR m (cn (lk w b c)),S++G)):W (tE 2 "numbered" (dn 1 fU) (di (mN (dn 3 ge) (di (mV 0) (di (mV 1) (di (mV 3) dj)))) dj) [Z (webD w),Z (sgD b),Z (.fn "numbered"),Z (rR m c),x4] S) Q:=by
 refine Hz O ?_;simp(implicitDefEqProofs:=J) only[mN,di,mV,dj,cG,gC1,oS1,dk,dt];refine EL O (by rw[D.unds,d6,D.unds,g6,D.unds,D.und,fq];rfl) ((Dd (c:=c) hw hm hs).mono ?_);rintro p ⟨k,h1,h2,e⟩;refine⟨k,_,h1,h2,e,λG j g d h=>?_⟩;have a:(S++G).all (Ob.und 0)=M:=by rw[cD,f,d];rfl
 exact Gc a g hm (q G a)
theorem xz{m:Nat}{w:dr}{a:List Int}{S:Sto}{Q:D×Sto->Prop}(hw:WebJ m w)(o:0<m)(hm:m<=8)(hs:a.length=m)(q:Q (.tup (nmD (ip m w a)),S)):W (dn 3 iD [webD w,sgD a,.fn "numbered"] S) Q:=by
 refine iJ O (by rw[D.unds,d6,D.unds,g6];rfl) ?_;unfold iD;refine jg ?_;unfold pX;refine dL (λr V=>V.all (Ob.und 0)=M/\r=[Z (webD w),Z (sgD a),Z (.fn "numbered"),Z (rR m (col w a 0)),Y]) ?_ ?_
 ·walk_at"w";rw[show webD w = .tup (w.map λd=>.tup (d.map pD))from rfl,kq];refine jZ (f:=λd:List (Nat×Nat)=>D.tup (d.map pD)) (λ_=>.int 0) (λr=>∃x,r=[x]) O w _ ⟨_,O⟩ ?_ ?_
  ·rintro d B r ⟨x,rfl⟩;walk_at"w";exact⟨_,O⟩
  ·rintro u _;refine ⟨dA (by rw [lM1,hw.len];lia),?_⟩;walk_at"w";refine dW (xs:=w.map fun _=>D.int 0) rfl ?_;have e:(w.map fun _=>D.int 0)=nmD (EJ m (col w a 0)):=by
    have h1:(w.map λ_=>D.int 0)=aJ m (D.int 0):=by rw[List.map_const',hw.len]
    have h2:nmD (EJ m (col w a 0))=aJ m (D.int 0):=by
     unfold nmD EJ;rw[bm];have:((λi:Nat=>D.int i)∘col w a 0)=λ_=>D.int 0:=rfl;rw[this,List.map_const',ci]
    rw[h1,h2]
   rw[e];refine⟨?_,O⟩;rw[bI,Ob.und,fq];rfl
 rintro r V ⟨l,rfl⟩;refine dL (λr V=>V.all (Ob.und 0)=M/\r=[Z (webD w),Z (sgD a),Z (.fn "numbered"),Z (rR m (col w a 0)),Z (rR m (col w a 1))]) ?_ ?_
 ·unfold dE;rw[dk];refine vZ (n:=0) hw hm hs l λG t=>?_;exact W.of O ⟨O,t,O⟩
 rintro r V ⟨l,rfl⟩;refine dL (λr V=>r[3]?=Z (Z (.tup (nmD (ip m w a))))) ?_ ?_
 ·refine vI (λk r V=>(∀j,j<k -> ¬ Stl m w a j)/\V.all (Ob.und 0)=M/\r=[Z (webD w),Z (sgD a),Z (.fn "numbered"),Z (rR m (col w a k)),Z (rR m (col w a (k+1)))]) 8 ?_ 100000 0 _ _ (by lia) ⟨λj h=>by lia,l,O⟩;rintro k r V ⟨s,l,rfl⟩;unfold ms
  ((try walk_at"w");repeat(simp only[IV];try walk_at"w"))
  have p:=(JH (m:=m) (c:=col w a (k+1)) (c':=col w a k)).trans B4;by_cases b:Stl m w a k
  ·rw[oP (p.mpr b),ab (by decide)];have z:=zx o s;show Z (Z (rR m (col w a k)))=_;rw[<- B5 hw b (by lia)]
  ·rw [uI (fun h=>b (p.mp h)),if_pos (show (!false)=true from rfl)];have g:∀ j,j<k+1 -> ¬ Stl m w a j:=fun j A=>by
    rcases cT.mp A with h|rfl
    ·exact s j h
    ·exact b
   have z:=zx o g;refine⟨by lia,?_⟩;unfold mr;refine dL (λu v=>v=V/\u=[Z (webD w),Z (sgD a),Z (.fn "numbered"),Z (rR m (col w a (k+1))),Z (rR m (col w a (k+1)))]) ?_ ?_
   ·walk_at"w"
   rintro u v ⟨rfl,rfl⟩;unfold dE;rw[dk];refine vZ (n:=0) hw hm hs l λG t=>?_;exact W.of O ⟨O,g,t,O⟩
 rintro r V y;unfold dX;rw[dk];unfold mV;rw[y,dt];exact dt.mpr ⟨by rw[D.und];exact fq _,q⟩
theorem mI{m:Nat}{w:dr}{a:List Int}{S:Sto}{Q:D×Sto->Prop}(hw:WebJ m w)(b:0<m)(hm:m<=8)(hs:a.length=m)(q:Q (.tup (nmD (ip m w a)),S)):W (dn 2 fw [webD w,sgD a] S) Q:=by
 refine iJ O (by rw[D.unds,d6,D.unds,g6];rfl) ?_;unfold fw;refine jg ?_;unfold mK;walk_at"w";refine xz hw b hm hs ?_;exact⟨by rw[D.und];exact fq _,q⟩
theorem xG{S:Sto}{x n:Nat}{cs:List Nat}(h:S[n]?=Z (.lst (nmD cs))):ft (.int x) (.ref n) S=Z (.bl (!cs.contains x),S):=by
 simp only[ft,iU,l0,h,dH,oS1,dV,show(60:Nat)=59+1 from rfl,rp,oP1]
def xp(ws cs:List Nat)(b:Bool)(r:Nat):Int:=(if cs.contains r then 1 else 0)+(if(b&&ws.contains r)=M then 2 else 0)
def sgL(m:Nat)(ws cs:List Nat)(b:Bool):List Int:=(Z7 m).map (xp ws cs b)
theorem kO{m:Nat}{ws cs:List Nat}{b:Bool}:(sgL m ws cs b).length=m:=by unfold sgL;rw[lM1,ci]
def stD(ws cs:List Nat):D:=.tup [.tup (nmD ws),.tup (nmD cs)]
theorem nw{ws cs:List Nat}:(stD ws cs).und 0=M:=by unfold stD;rw[D.und,D.unds,D.unds,D.und,D.und,fq,fq];rfl
theorem rT{m:Nat}{w:dr}{ws cs:List Nat}{S:Sto}{Q:D×Sto->Prop}(hw:WebJ m w)(hm:m<=8)(q:Q (sgD (sgL m ws cs J),S)):W (dn 2 ei [webD w,.tup (nmD cs)] S) Q:=by
 refine iJ O (by rw[D.unds,d6,D.unds,D.und,fq];rfl) ?_;unfold ei;refine jg ?_;unfold kh
 ((try walk_at"w");repeat(simp only[lj];try walk_at"w"))
 rw[hw.len];refine⟨fQ (by lia),?_⟩;rw[la,Int.toNat_natCast];refine jZ (f:=λi:Nat=>D.int i) (λr=>D.int (xp ws cs J r)) (λr=>∃x,r=[x,Z (.tup (nmD cs))]) O (Z7 m) _ ⟨_,O⟩ ?_ ?_
 ·rintro r b a ⟨x,rfl⟩
  ((try walk_at"w");repeat(simp only[wF];try walk_at"w"))
  unfold xp;cases cs.contains r with
  |true=>exact⟨O,_,O⟩
  |false=>exact⟨O,_,O⟩
 ·rintro a _;refine⟨dA (by rw[lM1,ci];lia),?_⟩;walk_at"w";have e:((Z7 m).map λr=>D.int (xp ws cs J r))=(sgL m ws cs J).map D.int:=by unfold sgL;rw[bm];rfl
  rw[e];refine dW (xs:=(sgL m ws cs J).map D.int) O ?_;exact⟨g6 _,q⟩
theorem Bv{m:Nat}{w:dr}{ws cs:List Nat}{S:Sto}{Q:D×Sto->Prop}(hw:WebJ m w)(hm:m<=8)(q:Q (sgD (sgL m ws cs M),S)):W (dn 2 fx [webD w,stD ws cs] S) Q:=by
 refine iJ O (by rw[D.unds,d6,D.unds,nw];rfl) ?_;unfold fx;refine jg ?_;unfold mL;refine dL (λr V=>V=[]/\r=[Z (webD w),Z (stD ws cs),Z (.tup (nmD ws)),Z (.tup (nmD cs)),Y]) ?_ ?_
 ·unfold stD;walk_at"w"
 rintro r V ⟨rfl,rfl⟩;refine dL (λr V=>V=[]/\r=[Z (webD w),Z (stD ws cs),Z (.tup (nmD ws)),Z (.tup (nmD cs)),Z (sgD (sgL m ws cs J))]) ?_ ?_
 ·walk_at"w";refine rT (ws:=ws) hw hm ?_
  first|exact⟨rfl,rfl⟩|exact⟨rfl,trivial⟩|rfl
 rintro r V ⟨rfl,rfl⟩;walk_at"w";refine oK (xs:=(sgL m ws cs J).map D.int) O ?_;have c:sv 0 ((sgL m ws cs J).map D.int)=(Z7 m).map λr=>D.tup [.int (r:Nat),.int (xp ws cs J r)]:=by
  refine bR λi=>?_;rw[fO,gP1,gP1];unfold sgL;rw[gP1];by_cases h:i<m
  ·rw[ca h,bH];rfl
  ·rw[bS (by rw[ci];lia)];rfl
 rw[c];refine jZ (f:=λr:Nat=>D.tup [.int (r:Nat),.int (xp ws cs J r)]) (λr=>D.int (xp ws cs M r)) (λr=>∃b a,r=[b,a,Z (.tup (nmD ws))]) O (Z7 m) _ ⟨_,_,O⟩ ?_ ?_
 ·rintro r g d ⟨b,a,rfl⟩
  ((try walk_at"w");repeat(simp only[wF];try walk_at"w"))
  unfold xp;cases ws.contains r with
  |true=>
   cases cs.contains r with
   |true=>exact⟨O,_,_,O⟩
   |false=>exact⟨O,_,_,O⟩
  |false=>exact⟨O,_,_,O⟩
 ·rintro d _;refine⟨dA (by rw[lM1,ci];lia),?_⟩;walk_at"w";have e:((Z7 m).map λr=>D.int (xp ws cs M r))=(sgL m ws cs M).map D.int:=by unfold sgL;rw[bm];rfl
  rw[e];refine dW (xs:=(sgL m ws cs M).map D.int) O ?_;exact⟨g6 _,q⟩
theorem AA{m:Nat}{w:dr}{ws cs:List Nat}{b:Bool}(hw:WebJ m w)(hm:m<=8):W (fc [webD w,stD ws cs,.bl b] []) λp=>p=(.ref 0,[.lst ((sgL m ws cs b).map D.int)]):=by
 unfold fc;refine jg ?_;unfold lB
 ((try walk_at"w");repeat(simp only[lj];try walk_at"w"))
 rw[hw.len];refine⟨fQ (by lia),?_⟩;rw[la,Int.toNat_natCast];have a:∀(k:Bool) (S:Sto),j1 (.int 2) (.int (if k=M then 1 else 0)) S=Z (.int (if k=M then 2 else 0),S):=λk S=>by cases k<;>rfl
 refine jZ (f:=λi:Nat=>D.int i) (λr=>D.int (xp ws cs b r)) (λr=>∃x,r=[x,Z (stD ws cs),Z (.bl b)]) O (Z7 m) _ ⟨_,O⟩ ?_ ?_
 ·rintro r j h ⟨x,rfl⟩;have d:∀S,dv (stD ws cs) (.int 1) S=Z (.tup (nmD cs),S):=λS=>rfl;have g:∀S,dv (stD ws cs) (.int 0) S=Z (.tup (nmD ws),S):=λS=>rfl;cases b with
  |true=>
   ((try walk_at"w");repeat(simp only[wF,d,g,a];try walk_at"w"))
   unfold xp;exact⟨O,_,O⟩
  |false=>
   have c:∀S:Sto,j1 (.int 2) (.int 0) S=Z (.int 0,S):=λS=>rfl
   ((try walk_at"w");repeat(simp only[wF,d,g,c];try walk_at"w"))
   unfold xp;exact⟨O,_,O⟩
 ·rintro h _;refine⟨dA (by rw[lM1,ci];lia),?_⟩;walk_at"w";have e:((Z7 m).map λr=>D.int (xp ws cs b r))=(sgL m ws cs b).map D.int:=by unfold sgL;rw[bm];rfl
  rw[e]
  try exact⟨O,O⟩
theorem G5{S:Sto}{x n:Nat}{cs:List Nat}(h:S[n]?=Z (.lst (nmD cs))):mU (.int x) (.ref n) S=Z (.bl (cs.contains x),S):=by
 simp only[mU,u7,HN,h,dH,oS1,dV,show(60:Nat)=59+1 from rfl,rp,oP1]
abbrev Rms(m:Nat)(l:List Nat):Prop:=(∀x∈l,x<m)/\l.length<=m
theorem zk{o:Ob}{n m:Nat}{wq:Sto}{p:Nat}{r:Ev}{Q:D×Sto->Prop}(ho:Hnd o n)(hn:n<=2^40)(hm:m<=8)(hp:wq[p]? = Z (.lst (nmD (Z7 m))))(y:r[0]? = Z (Z (.ref 0)))(z:r[4]? = Z (Z (.ref (p+1))))(q:∀o' l,Hnd o' (n+8)->Rms m l->Q (.ref (wq.length+1),o'::(wq++[.lst (nmD l)]))):W (eF 1 [0] (gJ (mV 4)) (gN 0) (mB (m2 (b2 gEq) (mN (dn 2 dq) (di (mV 1) (di (mC (D.int (2))) dj))) (mC (D.int (0))))) (ea (mV 0)) r (o::wq)) Q:=by
 have A:mV 4 r (o::wq)=Z (.ref (p+1),o::wq):=by unfold mV;rw[z]
 have u:∀o:Ob,(o::wq)[p+1]?=Z (.lst (nmD (Z7 m))):=λo=>by rw[gC1];exact hp
 rw[lH,ma,A,dt];refine dW (u o) ?_;have t:lZ 1 [0] r=[Y,Z (.ref 0)]:=by
  simp[lZ,y]
 rw[t];refine il (λi f r S=>∃o' l x,i<=m/\f=nmD l/\(∀x∈l,x<m)/\l.length<=i/\Hnd o' (n+i)/\S=o'::wq/\r=[x,Z (.ref 0)]) _ 0 [] _ _ ⟨o,[],_,by lia,O,λx h=>(by cases h),by simp,ho,O,O⟩ ?_ ?_ ?_
 ·rintro i f r S ⟨o',l,x,_,_,_,_,_,rfl,_⟩;exact eY (u o')
 ·rintro i d j f r S ⟨o',l,x,hi,rfl,s,k,a,rfl,rfl⟩;dsimp only at j;have b:=(gE1.mp j).1;rw[d4,ci]at b;rw[nmD,gP1,ca b]at j;cases j;rw[bH]at *
  walk_at"w";refine f0 a (by lia) (by lia) (by lia) λc v g hc=>?_;walk_at"w";split
  ·refine⟨v,l++[i],_,by lia,lb,λx w=>?_,by rw[lA1];simp;lia,g.more (by lia),O,O⟩;rcases az.mp w with h|h
   ·exact s x h
   ·rw[cc]at h;subst h;exact b
  ·exact⟨v,l,_,by lia,O,s,by lia,g.more (by lia),O,O⟩
 ·rintro xs r S ⟨o',l,x,hi,e,s,k,a,rfl,rfl⟩;rw[cI]at e;subst e;dsimp only at k hi a;rw[d4,ci,bH]at k hi a;refine⟨dA (by dsimp only;rw[d4];lia),?_⟩;exact q o' l (a.more (by lia)) ⟨s,k⟩
theorem Be{o:Ob}{m:Nat}{wq:Sto}{p k:Nat}{kept rs:List Nat}{r:Ev}{Q:D×Sto->Prop}(hm:m<=8)(t:rs.length=m)(hp:wq[p]? = Z (.lst (nmD (Z7 m))))(hk:wq[k]? = Z (.lst (nmD kept)))(h2:r[2]? = Z (Z (.tup (nmD rs))))(u:r[4]? = Z (Z (.ref (p+1))))(s:r[7]? = Z (Z (.ref (k+1))))(q:∀l,Rms m l->Q (.ref (wq.length+1),o::(wq++[.lst (nmD l)]))):W (eF 1 [2,7] (gJ (mV 4)) (gN 0) (mB (m2 (b2 mU) (m2 (b2 dv) (mV 1) (mV 0)) (mV 2))) (ea (mV 0)) r (o::wq)) Q:=by
 have v:mV 4 r (o::wq)=Z (.ref (p+1),o::wq):=by unfold mV;rw[u]
 have n:(o::wq)[p+1]?=Z (.lst (nmD (Z7 m))):=by rw[gC1];exact hp
 have w:(o::wq)[k+1]?=Z (.lst (nmD kept)):=by rw[gC1];exact hk
 rw[lH,ma,v,dt];refine dW n ?_;have j:lZ 1 [2,7] r=[Y,Z (.tup (nmD rs)),Z (.ref (k+1))]:=by
  simp[lZ,h2,s]
 rw[j];refine il (λi b r S=>∃l x,i<=m/\b=nmD l/\(∀x∈l,x<m)/\l.length<=i/\S=o::wq/\r=[x,Z (.tup (nmD rs)),Z (.ref (k+1))]) _ 0 [] _ _ ⟨[],_,by lia,O,λx h=>(by cases h),by simp,O,O⟩ ?_ ?_ ?_
 ·rintro i b r S ⟨l,x,_,_,_,_,rfl,_⟩;exact eY n
 ·rintro i d c b r S ⟨l,x,hi,rfl,g,f,rfl,rfl⟩;dsimp only at c;have a:=(gE1.mp c).1;rw[d4,ci]at a;rw[nmD,gP1,ca a]at c;cases c;rw[bH]at *
  walk_at"w";refine lG (i:=i) (x:=.int (rs.getD i 0:Nat)) (by rw[nmD,gP1,bC,gG1 (by lia)];rfl) ?_
  ((try walk_at"w");repeat(simp only[G5 w];try walk_at"w"))
  split
  ·refine⟨l++[i],_,by lia,lb,λx y=>?_,by rw[lA1];simp;lia,O⟩;rcases az.mp y with h|h
   ·exact g x h
   ·rw[cc]at h;subst h;exact a
  ·exact⟨l,_,by lia,O,g,by lia,O⟩
 ·rintro xs r S ⟨l,x,hi,e,g,f,rfl,rfl⟩;rw[cI]at e;subst e;dsimp only at f hi;rw[d4,ci,bH]at f hi;refine⟨dA (by dsimp only;rw[d4];lia),?_⟩;exact q l ⟨g,f⟩
structure HQ (m N:Nat)(G:Sto)(ks:List Nat):Prop where
 at_:∀k∈ks,∃l,G[k]?=some (.lst (nmD l))/\Rms m l
 up:ks.Pairwise (· < ·)
theorem HQ.snoc{m N:Nat}{G i:Sto}{ks:List Nat}{l:List Nat}(h:HQ m N G ks)(n:Rms m l):HQ m N (G++i++[.lst (nmD l)]) (ks++[(G++i).length]):=by
 refine⟨λk c=>?_,?_⟩
 ·rcases az.mp c with c|c
  ·obtain⟨g,e,d⟩:=h.at_ k c;have:=(gE1.mp e).1;exact⟨g,by rw[bx,gL1 this];exact e,d⟩
  ·rw[cc]at c;subst c;exact⟨l,by rw[dz];rfl,n⟩
 ·rw[List.pairwise_append];refine⟨h.up,List.pairwise_singleton _ _,λa j b f=>?_⟩;rw[cc]at f;subst f;obtain⟨g,e,_⟩:=h.at_ a j;have:=(gE1.mp e).1;rw[lA1];lia
theorem zi{m n i:Nat}{w:dr}{rs ks:List Nat}{o:Ob}{T G:Sto}{x3 x6 B:Option D}{Q:Fl×Ev×Sto->Prop}(hm:m<=8)(y:rs.length=m)(ho:Hnd o n)(hn:n<=2^39)(h2:HQ m T.length G ks)(N:ks.length<=2)(q:∀o' a g u,Hnd o' (n+20)->HQ m T.length a g->g.length=ks.length+1->Q (.nx,[some (.ref 0),some (webD w),some (.tup (nmD rs)),x3,some (.ref (T.length+1)),some (.ref (T.length+2)),x6,u,none,none,none],o'::(T ++ .lst (nmD (List.range m)) :: .lst (g.map fun k=>D.ref (T.length+3+k))::a))):
  W (gb [Z (.ref 0),Z (webD w),Z (.tup (nmD rs)),x3,Z (.ref (T.length+1)),Z (.ref (T.length+2)),x6,B,Y,Y,Y] (o::(T ++ .lst (nmD (Z7 m)) :: .lst (ks.map λk=>D.ref (T.length+3+k))::G))) Q:=by
 generalize K:Ob.lst (nmD (Z7 m))=A;have C:∀ai,(T++A::ai)[T.length]?=Z (.lst (nmD (Z7 m))):=λai=>by rw[dz,<- K];rfl
 have E:∀(o X:Ob) (ai:Sto),(o::(T++A::X::ai))[T.length+2]?=Z X:=λo X ai=>by rw[gC1,ej];rfl
 have st:∀(o X F:Ob) (ai:Sto),(o::(T++A::X::ai)).set (T.length+2) F=o::(T++A::F::ai):=λo X F ai=>by
  rw[cm,cQ _ _ (by lia),show T.length+1-T.length=1 by lia];rfl
 generalize ag:Ob.lst (ks.map λk=>D.ref (T.length+3+k))=X at *
 unfold gb eB;rw[dk];have s:W (mB (m2 (b2 gEq) (mN (dn 2 dq) (di (mV 0) (di (mC (D.int (3))) dj))) (mC (D.int (0)))) [Z (.ref 0),Z (webD w),Z (.tup (nmD rs)),x3,Z (.ref (T.length+1)),Z (.ref (T.length+2)),x6,B,Y,Y,Y] (o::(T++A::X::G))) λp=>∃o',Hnd o' (n+1)/\p.2=o'::(T++A::X::G):=by
  walk_at"w";refine f0 ho (by lia) (by lia) (by lia) λc v d hc=>?_;walk_at"w";exact⟨v,d,O⟩
 -- the last step of both
 have j:∀(o':Ob) (a:Sto) (l:List Nat) (z:Option D),Hnd o' (n+20)->Rms m l->W (gB (.ref (T.length+2)) (.ref ((T++A::X::(G++a)).length+1)) (o'::((T++A::X::(G++a))++[.lst (nmD l)]))) λp=>Q (.nx,[Z (.ref 0),Z (webD w),Z (.tup (nmD rs)),x3,Z (.ref (T.length+1)),Z (.ref (T.length+2)),x6,z,Y,Y,Y],p.2):=λo' a l z I h=>by
  have ah:o'::((T++A::X::(G++a))++[Ob.lst (nmD l)])=o'::(T++A::X::(G++a++[.lst (nmD l)])):=by simp
  rw[ah];refine(jc (xs:=ks.map λk=>D.ref (T.length+3+k)) (by rw[E,ag])).mpr ⟨dA (by rw[lM1];lia),?_⟩;rw[st];have:=q o' (G++a++[.lst (nmD l)]) (ks++[(G++a).length]) z I (h2.snoc h) (by rw[lA1];rfl);rw[cx]at this;have el:(T++A::X::(G++a)).length+1=T.length+3+(G++a).length:=by simp;lia
  rw[el,<- K];exact this
 refine s.mono ?_;rintro⟨t,aj⟩ ⟨v,d,e⟩;dsimp only at e ⊢;subst e;cases t with
 |true=>
  rw[ae O];unfold eK;rw[dk];refine gK ?_;refine W.of (x:=(.ref (T.length+2),v::(T++A::X::G))) O ?_;refine⟨T.length+2,_,O,by rw[E,<- ag],?_⟩;unfold di;rw[dk];refine zk (p:=T.length) d (by lia) hm (C _) O O λf l b h=>?_;refine W.of O ?_;have:=j f [] l B (b.more (by lia)) h;rw[aG]at this;exact this.mono λp H=>dt.mpr H
 |false=>
  rw[ab (by decide)];refine dL (λr V=>∃f kept,Hnd f (n+9)/\V=f::(T++A::X::(G++[.lst (nmD kept)]))/\r=[Z (.ref 0),Z (webD w),Z (.tup (nmD rs)),x3,Z (.ref (T.length+1)),Z (.ref (T.length+2)),x6,Z (.ref ((T++A::X::G).length+1)),Y,Y,Y]) ?_ ?_
  ·unfold dE;rw[dk];refine zk (p:=T.length) d (by lia) hm (C _) O O λf l b h=>?_;refine W.of O ⟨O,f,l,b.more (by lia),by simp,O⟩
  rintro r V ⟨f,kept,b,rfl,rfl⟩;unfold eK;rw[dk];refine gK ?_;refine W.of (x:=(.ref (T.length+2),f::(T++A::X::(G++[.lst (nmD kept)])))) O ?_;refine⟨T.length+2,_,O,by rw[E,<- ag],?_⟩;unfold di;rw[dk];have L:(T++A::X::(G++[Ob.lst (nmD kept)]))[(T++A::X::G).length]?=Z (.lst (nmD kept)):=by
   have:T++A::X::(G++[Ob.lst (nmD kept)])=(T++A::X::G)++[.lst (nmD kept)]:=by simp
   rw[this,dz];rfl
  refine Be (p:=T.length) (k:=(T++A::X::G).length) hm y (C _) L O O O λl h=>?_;refine W.of O ?_;exact(j f [.lst (nmD kept)] l _ (b.more (by lia)) h).mono λp H=>dt.mpr H
theorem tP:∀l:List Nat,mD (nmD l)=Z (l.map λ(r:Nat)=>(r:Int))
 |[]=>rfl
 |x::l=>by
  show mD (.int x::nmD l)=_;rw[mD,tP l];rfl
theorem B8{m n:Nat}{S:Sto}{l:List Nat}(h:S[n]?=Z (.lst (nmD l)))(b:l.length<64)(hr:∀x∈l,x<m):∃ws:List Nat,jC (.ref n) S=Z (.ref S.length,S++[.lst (nmD ws)])/\(∀x∈ws,x<m)/\ws.length=l.length:=by
 have a:=gj (l.map λ(r:Nat)=>(r:Int));refine⟨(i5 (l.map λ(r:Nat)=>(r:Int))).map Int.toNat,?_,λx c=>?_,by rw[lM1,a.length_eq,lM1]⟩
 ·unfold jC;rw [ga h];dsimp only;rw [tP];dsimp only;rw [if_pos (by rw [lM1];exact b)];have e:(i5 (l.map fun (r:Nat)=>(r:Int))).map D.int=nmD ((i5 (l.map fun (r:Nat)=>(r:Int))).map Int.toNat):=by
   rw[nmD,bm];refine cB λi hi=>?_;obtain⟨k,_,rfl⟩:=b6.mp (a.mem_iff.mp hi);rfl
  rw[e]
 ·obtain⟨i,hi,rfl⟩:=b6.mp c;obtain⟨k,d,rfl⟩:=b6.mp (a.mem_iff.mp hi);rw[Int.toNat_natCast];exact hr k d
theorem B7{m n:Nat}{w:dr}{rs:List Nat}{a:Int}{o:Ob}{T:Sto}{Q:D×Sto->Prop}(hw:WebJ m w)(hm0:0<m)(hm:m<=8)(hrs:rs.length=m)(ho:Hnd o n)(hn:n<=2^38)(hT:T.all (Ob.und (T.length+1))=M)(q:∀ws cs o',Hnd o' (n+50)->(∀x∈ws,x<m)->ws.length<=20->cs.length<=8->Q (stD ws cs,o'::T)):W (dn 4 fh [.ref 0,webD w,.tup (nmD rs),.int a] (o::T)) Q:=by
 refine ue O O hT ?_;unfold fh;refine jg ?_;unfold jb;refine dL (λr V=>V=o::(T++[.lst (nmD (Z7 m))])/\r=[Z (.ref 0),Z (webD w),Z (.tup (nmD rs)),Z (.int a),Z (.ref (T.length+1)),Y,Y,Y,Y,Y,Y]) ?_ ?_
 ·unfold dE;rw[dk];refine ES (k:=m) (S1:=o::T) ?_ (by lia) ?_
  ·unfold e6;simp only[di,dj,mN,mV,b1,mP1,ba,gC1,cG,oS1,lj,hw.len]
  rw[la];exact W.of O ⟨O,O,O⟩
 rintro r V ⟨rfl,rfl⟩;refine dL (λr V=>V=o::(T ++ .lst (nmD (Z7 m)) :: .lst (([]:List Nat).map λk=>D.ref (T.length+3+k))::[])/\r=[Z (.ref 0),Z (webD w),Z (.tup (nmD rs)),Z (.int a),Z (.ref (T.length+1)),Z (.ref (T.length+2)),Y,Y,Y,Y,Y]) ?_ ?_
 ·walk_at"w"
  try exact⟨O,trivial⟩
 rintro r V ⟨rfl,rfl⟩;refine dL (λr V=>∃o' G b f B ag x6 y,Hnd o' (n+40)/\b<f/\G[b]?=Z (.lst (nmD B))/\Rms m B/\G[f]?=Z (.lst (nmD ag))/\Rms m ag/\V=o'::(T ++ .lst (nmD (Z7 m)) :: .lst [.ref (T.length+3+b),.ref (T.length+3+f)]::G)/\r=[Z (.ref 0),Z (webD w),Z (.tup (nmD rs)),Z (.int a),Z (.ref (T.length+1)),Z (.ref (T.length+2)),x6,y,Y,Y,Y]) ?_ ?_
 ·unfold eR;rw[dk,w5];refine W.of (x:=([.int 2],_)) O ?_;refine⟨rZ (by decide) (by decide),?_⟩;refine ez (λi r V=>∃o' G ks x6 y,i<=2/\Hnd o' (n+20*i)/\HQ m T.length G ks/\ks.length=i/\V=o'::(T ++ .lst (nmD (Z7 m)) :: .lst (ks.map λk=>D.ref (T.length+3+k))::G)/\r=[Z (.ref 0),Z (webD w),Z (.tup (nmD rs)),Z (.int a),Z (.ref (T.length+1)),Z (.ref (T.length+2)),x6,y,Y,Y,Y]) _ 0 _ _ ⟨o,[],[],_,_,by lia,ho,⟨λk hk=>(by cases hk),List.Pairwise.nil⟩,O,O,O⟩ (λ_ _ _ _=>rfl) ?_ ?_
  ·rintro i d C r V ⟨o',G,ks,x6,y,hi,I,h2,u,rfl,rfl⟩;have s:=(gE1.mp C).1;rw[eJ]at s;have s:i<2:=s;rw[bH]at *
   refine W.of O ?_;refine zi (i:=0) hm hrs I (by lia) h2 (by lia) λc G2 ks2 x7' g h22 hk2=>?_;exact⟨O,c,G2,ks2,_,_,by lia,g.more (by lia),h22,by lia,O,O⟩
  ·rintro r V ⟨o',G,ks,x6,y,hi,I,h2,u,rfl,rfl⟩;have u:ks.length=2:=u
   match ks,u with
   |[b,f],_=>
    obtain⟨B,R,U⟩:=h2.at_ b (by simp);obtain⟨ag,e2,r2⟩:=h2.at_ f (by simp);have L:=h2.up;rw[b4]at L;exact⟨O,o',G,b,f,B,ag,_,_,I.more (by rw[eJ];show n+20*(0+2)<=n+40;lia),L.1 f (by simp),R,U,e2,r2,O,O⟩
 rintro r V ⟨o1,G,b,f,B,ag,x6,y,wq,ah,R,U,e2,r2,rfl,rfl⟩;generalize hA:Ob.lst (nmD (Z7 m))=A;generalize hX:Ob.lst [D.ref (T.length+3+b),D.ref (T.length+3+f)]=X;have gG:∀(o:Ob) (ai:Sto) (k:Nat) (x:Ob),(G++ai)[k]?=Z x->(o::(T++A::X::(G++ai)))[T.length+3+k]?=Z x:=λo ai k x e=>by
  rw[show T.length+3+k=T.length+(k+1+1)+1 by lia,gC1,ej,gC1,gC1];exact e
 have gl:∀{k:Nat} {x:Ob} (ai:Sto),G[k]?=Z x->(G++ai)[k]?=Z x:=λ{k x} ai e=>by rw[gL1 (gE1.mp e).1];exact e
 have gs:∀(o:Ob) (ai:Sto),(o::(T++A::X::ai))[T.length+2]?=Z (.lst [D.ref (T.length+3+b),D.ref (T.length+3+f)]):=λo ai=>by rw[gC1,ej,<- hX];rfl
 -- walkers and chalk
 refine dL (λr V=>∃o' kc H,Hnd o' (n+41)/\b<kc/\H.length<=8/\(G++[.lst [],.lst [.ref (T.length+3+f),.ref (T.length+3+G.length)]])[kc]?=Z (.lst (nmD H))/\V=o'::(T++A::X::(G++[.lst [],.lst [.ref (T.length+3+f),.ref (T.length+3+G.length)]]))/\r=[Z (.ref 0),Z (webD w),Z (.tup (nmD rs)),Z (.int a),Z (.ref (T.length+1)),Z (.ref (T.length+2)),x6,y,Z (.ref (T.length+3+b)),Z (.ref (T.length+3+kc)),Y]) ?_ ?_
 ·have i0:∀ (o:Ob) (ai:Sto),dv (.ref (T.length+2)) (.int 0) (o::(T++A::X::ai))=some (.ref (T.length+3+b),o::(T++A::X::ai)):=fun o ai=>by
   obtain⟨p,e,rfl⟩:=iL (i:=0) (x:=.ref (T.length+3+b)) (Q:=λp=>p=(.ref (T.length+3+b),o::(T++A::X::ai))) (gs o ai) O O;exact e
  have i1:∀(o:Ob) (ai:Sto),dv (.ref (T.length+2)) (.int 1) (o::(T++A::X::ai))=Z (.ref (T.length+3+f),o::(T++A::X::ai)):=λo ai=>by
   obtain⟨p,e,rfl⟩:=iL (i:=1) (x:=.ref (T.length+3+f)) (Q:=λp=>p=(.ref (T.length+3+f),o::(T++A::X::ai))) (gs o ai) O O;exact e
  ((try walk_at"w");repeat(simp only[i0,i1];try walk_at"w"))
  refine f0 wq (by lia) (by lia) (by lia) λd c g C=>?_;have eL:T.length+(G.length+2)+1=T.length+3+G.length:=by lia
  have eM:T.length+(G.length+2)+2=T.length+3+(G.length+1):=by lia
  have hk1:=(gE1.mp R).1;dsimp only;rw[eL,eM];have g2:=gG c [Ob.lst [],Ob.lst [D.ref (T.length+3+f),D.ref (T.length+3+G.length)]] (G.length+1) _ (by rw[ej];rfl)
  match d,C with
  |0,_=>
   refine iL (i:=0) (x:=.ref (T.length+3+f)) g2 O ?_;exact⟨c,f,ag,g,ah,by have:=r2.2;lia,gl _ e2,O,O⟩
  |1,_=>
   refine iL (i:=1) (x:=.ref (T.length+3+G.length)) g2 O ?_;exact⟨c,G.length,[],g,hk1,by simp,by rw[dz];rfl,O,O⟩
 rintro r V ⟨c,kc,H,g,hkc,hlc,ec,rfl,rfl⟩;obtain⟨G2,N⟩:∃G2,G2=G++[Ob.lst [],.lst [.ref (T.length+3+f),.ref (T.length+3+G.length)]]:=⟨_,O⟩;have E:G2[b]?=Z (.lst (nmD B)):=by rw[N];exact gl _ R
 rw[<- N]at ec ⊢;clear gG gl gs;have gW:∀(l:List Nat) (ai:Sto),(c::(T++A::X::(G2.set b (.lst (nmD l))++ai)))[T.length+3+b]?=Z (.lst (nmD l)):=λl ai=>by
  have F:=(gE1.mp E).1;rw[show T.length+3+b=T.length+(b+1+1)+1 by lia,gC1,ej,gC1,gC1,gL1 (by rw[aQ];exact F),aB F]
 have v:∀(l:List Nat),(c::(T++A::X::(G2.set b (.lst (nmD l)))))[T.length+3+b]?=Z (.lst (nmD l)):=λl=>by
  have:=gW l []
  rwa [aG]at this
 have gA:∀(ai:Sto),(c::(T++A::ai))[T.length+1]?=Z (.lst (nmD (Z7 m))):=λai=>by rw[gC1,dz,<- hA];rfl
 have stW:∀(l l':List Nat),(c::(T++A::X::(G2.set b (.lst (nmD l))))).set (T.length+3+b) (.lst (nmD l'))=c::(T++A::X::(G2.set b (.lst (nmD l')))):=λl l'=>by
  rw[show T.length+3+b=(T.length+(b+1+1))+1 by lia,cm,cQ _ _ (by lia),show T.length+(b+1+1)-T.length=b+1+1 by lia,cm,cm,List.set_set]
 have aj:G2.set b (.lst (nmD B))=G2:=by
  refine bR λj=>?_;by_cases h:b=j
  ·subst h;rw[aB (gE1.mp E).1,E]
  ·rw[gS1 h]
 refine dL (λr V=>∃l x10,(∀x∈l,x<m)/\l.length<=16/\V=c::(T++A::X::(G2.set b (.lst (nmD l))))/\r=[Z (.ref 0),Z (webD w),Z (.tup (nmD rs)),Z (.int a),Z (.ref (T.length+1)),Z (.ref (T.length+2)),x6,y,Z (.ref (T.length+3+b)),Z (.ref (T.length+3+kc)),x10]) ?_ ?_
 ·walk_at"w";refine dW (gA _) ?_;refine ez (λi r V=>∃l x10,i<=m/\(∀x∈l,x<m)/\l.length<=m+i/\V=c::(T++A::X::(G2.set b (.lst (nmD l))))/\r=[Z (.ref 0),Z (webD w),Z (.tup (nmD rs)),Z (.int a),Z (.ref (T.length+1)),Z (.ref (T.length+2)),x6,y,Z (.ref (T.length+3+b)),Z (.ref (T.length+3+kc)),x10]) _ 0 _ _ ⟨B,_,by lia,U.1,by have:=U.2;lia,by rw[aj],O⟩ ?_ ?_ ?_
  ·rintro i r V ⟨l,x10,_,_,_,rfl,_⟩;exact eY (gA _)
  ·rintro i d C r V ⟨l,x10,hi,K,F,rfl,rfl⟩;dsimp only at C;have s:=(gE1.mp C).1;rw[d4,ci]at s;rw[nmD,gP1,ca s]at C;cases C;rw[bH]at *
   have z:∀S,u6 (.int a) (.int m) S=Z (.int (if(m:Int)<a then(m:Int)else a),S):=λS=>rfl;refine W.of O ?_;unfold ib eB;rw[dk];have P:W (rf (mB (m2 (b2 gLt) (mN (b1 dN) (di (mV 8) dj)) (mN (b2 u6) (di (mV 3) (di (mN (b1 dN) (di (mV 1) dj)) dj))))) (mB (m2 (b2 ft) (mV 10) (mV 8))) [Z (.ref 0),Z (webD w),Z (.tup (nmD rs)),Z (.int a),Z (.ref (T.length+1)),Z (.ref (T.length+2)),x6,y,Z (.ref (T.length+3+b)),Z (.ref (T.length+3+kc)),Z (.int (i:Nat))] (c::(T++A::X::(G2.set b (.lst (nmD l)))))) λp=>p.2=c::(T++A::X::(G2.set b (.lst (nmD l)))):=by
    walk_at"w";refine dW (v l) ?_
    ((try walk_at"w");repeat(simp only[lj];try walk_at"w"))
    rw[hw.len];generalize (if(m:Int)<a then(m:Int)else a)=mn at z
    ((try walk_at"w");repeat(simp only[z,xG (v l)];try walk_at"w"))
    split<;>trivial
   refine P.mono ?_;rintro⟨t,S1⟩ e;dsimp only at e ⊢;subst e;cases t with
   |true=>
    rw[ae O];unfold eK;rw[dk];refine gK ?_;walk_at"w";refine⟨T.length+3+b,nmD l,O,v l,?_⟩;refine(jc (v l)).mpr ⟨dA (by rw[d4];lia),?_⟩;rw[lb,stW];refine⟨l++[i],_,by lia,λx hx=>?_,by rw[lA1];simp;lia,O,O⟩;rcases az.mp hx with h|h
    ·exact K x h
    ·rw[cc]at h;subst h;exact s
   |false=>
    rw[ab (by decide)];exact W.of O ⟨O,l,_,by lia,K,by lia,O,O⟩
  ·rintro r V ⟨l,x10,hi,K,F,rfl,rfl⟩;dsimp only at F;rw[d4,ci,bH]at F;exact⟨O,l,_,K,by lia,O,O⟩
 rintro r V ⟨l,x10,K,F,rfl,rfl⟩;obtain⟨ws,es,hws,hwl⟩:=B8 (m:=m) (v l) (by lia) K;have gc_:∀ai,(c::(T++A::X::(G2.set b (.lst (nmD l))++ai)))[T.length+3+kc]?=Z (.lst (nmD H)):=λai=>by
  have u:=(gE1.mp ec).1;rw[show T.length+3+kc=T.length+(kc+1+1)+1 by lia,gC1,ej,gC1,gC1,gL1 (by rw[aQ];exact u),gS1 (by lia)];exact ec
 ((try walk_at"w");repeat(simp only[es];try walk_at"w"))
 have gws:(c::(T++A::X::(G2.set b (.lst (nmD l))++[Ob.lst (nmD ws)])))[T.length+3+G2.length]?=Z (.lst (nmD ws)):=by
  have hgl:(G2.set b (.lst (nmD l))).length=G2.length:=aQ ..
  rw[show T.length+3+G2.length=T.length+(G2.length+1+1)+1 by lia,gC1,ej,gC1,gC1,<- hgl,dz];rfl
 refine dW (xs:=nmD ws) (by rw[<- gws];congr 1;simp;try lia) ?_;refine dW (xs:=nmD H) (gc_ _) ?_;walk_at"w";exact⟨stD ws H,c,A::X::(G2.set b (.lst (nmD l))++[.lst (nmD ws)]),O,nw,g.und,q ws H c (g.more (by lia)) hws (by lia) hlc⟩
theorem rQ:∀(ns acc:List Int),acc.Nodup->((ns.foldl step_dedup acc).length<=acc.length+ns.length/\((ns.foldl step_dedup acc).length=acc.length+ns.length↔(acc++ns).Nodup))
 |[],acc,h=>by simp[h]
 |n::ns,acc,h=>by
  rw[bX];by_cases c:n∈acc
  ·have e:step_dedup acc n=acc:=by
    unfold step_dedup;rw[ae (bK.mpr ⟨n,c,by simp⟩)]
   rw[e];obtain⟨h1,h2⟩:=rQ ns acc h;rw[lC1];refine⟨by lia,⟨λz=>by lia,λz=>?_⟩⟩;rw[bp]at z;exact(z.2.2 n c n mS1 O).elim
  ·have e:step_dedup acc n=acc++[n]:=by
    unfold step_dedup;rw[ab (by rw[bK];rintro⟨x,i,d⟩;exact c (by rw[<- beq_iff_eq.mp d];exact i))]
   rw[e];have hnd:(acc++[n]).Nodup:=by
    rw[bp];exact⟨h,by simp,λa g b f z=>by rw[cc]at f;subst f;subst z;exact c g⟩
   obtain⟨h1,h2⟩:=rQ ns (acc++[n]) hnd;rw[lA1,aS,bx,List.singleton_append]at *
   rw[lC1];refine⟨by lia,?_⟩;rw[<- h2];constructor<;>intro z<;>lia
theorem yQ{rs:List Nat}:(rs.map λ(r:Nat)=>(r:Int)).Nodup↔rs.Nodup:=by
 unfold List.Nodup;rw[List.pairwise_map];exact⟨λh=>h.imp λz e=>z (by rw[e]),λh=>h.imp λz e=>z (by lia)⟩
theorem yR{rs:List Nat}{S:Sto}{Q:D×Sto->Prop}(a:rs.length<=100)(q:Q (.bl (tf rs.Nodup),S)):W (dn 1 eE [.tup (nmD rs)] S) Q:=by
 refine iJ O (by rw[D.unds,D.und,fq];rfl) ?_;unfold eE;refine jg ?_;unfold i3;have e:gP (.tup (nmD rs)) []=Z (.ref 0,[.iset (ddI (rs.map λ(r:Nat)=>(r:Int)))]):=by
  unfold gP;rw[jO];dsimp only;rw[Dv,oS1,ae (by rw[lM1];unfold scanBound;lia)];rfl
 ((try walk_at"w");repeat(simp only[e];try walk_at"w"))
 refine si O ?_;walk_at"w";refine⟨O,?_⟩;have:((((ddI (rs.map λ(r:Nat)=>(r:Int))).length:Nat):Int) == (((nmD rs).length:Nat):Int))=tf rs.Nodup:=xk (by
  have:=(rQ (rs.map λ(r:Nat)=>(r:Int)) [] bh).2;rw[aW,bH,lM1,cI,yQ]at this;rw[beq_iff_eq,d4,<- this];unfold ddI;lia)
 rw[this];exact q
theorem lh{c:List (Nat×List D)}{g:FG}{b:FS}{Q:Fl×Ev×Sto->Prop}(I:Nat->Ev->Sto->Prop):∀ (items:List D) (k:Nat) (r:Ev) (S:Sto),I k r S ->
  (∀i r S,I i r S->oW S c=M) ->
  (∀i d,items[i]?=Z d -> ∀r S,I (k+i) r S->W (g d r S) λp=>W (b p.1 p.2) λq=>(q.1 = .nx/\I (k+i+1) q.2.1 q.2.2) \/ ∃v,q.1 = .rt v/\Q (.rt v,q.2)) ->
  (∀r S,I (k+items.length) r S->Q (.nx,r,S))->W (i9 c g b items r S) Q:=by
 intro items
 induction items with
 |nil=>intro k r S hi a _ j;rw[i9];dsimp only;rw[ae (a _ _ _ hi),dt];exact j r S (by simpa using hi)
 |cons d ds ih=>
  intro k r S hi a l j;rw[i9];dsimp only;rw[ae (a _ _ _ hi),dk];obtain⟨p,n,⟨f,s,o⟩,t,h⟩:=l 0 d O r S (by simpa using hi);refine⟨p,n,?_⟩;dsimp only;rw[dk];refine⟨_,t,?_⟩;dsimp only at h ⊢;rcases h with⟨rfl,e⟩|⟨v,rfl,u⟩
  ·exact ih (k+1) s o e a (fun i d m r S e=>by
    have:=l (i+1) d m r S (by rw[show k+(i+1)=k+1+i by lia];exact e);rw[show k+(i+1)+1=k+1+i+1 by lia]at this;exact this) λr S e=>j r S (by rw[lC1,show k+(ds.length+1)=k+1+ds.length by lia];exact e)
  ·exact dt.mpr u
theorem Io{a b:FS}{r:Ev}{S:Sto}{Q:Fl×Ev×Sto->Prop}(h:W (a r S) λp=>(p.1 = .nx/\W (b p.2.1 p.2.2) Q) \/ ∃v,p.1 = .rt v/\Q (.rt v,p.2)):W (dw a b r S) Q:=by
 obtain⟨⟨f,c,d⟩,e,h⟩:=h;unfold dw;rw[e];dsimp only at h;rcases h with⟨rfl,h⟩|⟨v,rfl,h⟩
 ·exact h
 ·exact dt.mpr h
theorem G6{c:FT}{m:FE}{b:FS}{r:Ev}{S:Sto}{Q:Fl×Ev×Sto->Prop}(C:Bool×Sto->Prop)(h1:W (c r S) C)(h2:∀V,C (M,V)->W (m r V) λp=>Q (.rt p.1,r,p.2))(f:∀V,C (J,V)->W (b r V) Q):W (dw (eB c (dX m) je) b r S) Q:=by
 obtain⟨⟨t,V⟩,e,a⟩:=h1;unfold dw eB;simp only[e,oS1];cases t with
 |true=>
  rw[ae O];unfold dX;rw[dk,dk];exact(h2 V a).mono λp d=>dt.mpr (dt.mpr d)
 |false=>
  rw[ab (by decide)];exact f V a
theorem ff{T:Ty}{m:FE}{r:Ev}{S:Sto}{Q:D×Sto->Prop}:W (iE T m r S) Q↔W (m r S) λp=>W (jz p.2 T p.1) λb=>Q (.bl b,p.2):=by
 unfold iE;rw[dk];simp only[kl]
theorem AO{S:Sto}{T:Ty}{xs:List D}:jz S T (.tup xs)=Z (decide (T = .tuple)):=rfl
theorem AQ{S:Sto}{T:Ty}{i:Int}:jz S T (.int i)=Z (decide (T = .int)):=rfl
theorem JS{m:FA}{r:Ev}{S:Sto}{xs ys:List D}{Q:yr×Sto->Prop}(hm:m r S=Z ([.tup xs,.tup ys],S))(q:Q (⟨ux xs ys,[]⟩,S)):W (Js m r S) Q:=by
 refine W.of ?_ q;unfold Js;rw[hm];rfl
def cw(cl ws:List Nat)(i:Nat):Nat:=cl.getD (ws.getD i 0) 0
def alD(i j:Nat)(cl:List Nat):D:=.tup [.str "alike",.int (i:Nat),.int (j:Nat),.tup (nmD cl)]
inductive Al (cl ws:List Nat):D->Prop
 |yes (i j:Nat) (h1:i<j) (h2:j<ws.length) (h3:cw cl ws i=cw cl ws j) (h4:∀i' j',i'<j'->j'<ws.length->(i'<i\/(i'=i/\j'<j))->cw cl ws i'≠cw cl ws j'):Al cl ws (alD i j cl)
 |no (h:∀i j,i<j->j<ws.length->cw cl ws i≠cw cl ws j):Al cl ws .non
theorem Al.und{a ws:List Nat}{d:D}(h:Al a ws d):d.und 0=M:=by
 cases h with
 |no _=>rfl
 |yes i j _ _ _ _=>unfold alD;rw[D.und,D.unds,D.unds,D.unds,D.unds,D.und,D.und,D.und,D.und,fq];rfl
theorem BD{rs:List Nat}{i:Nat}{S:Sto}{Q:D×Sto->Prop}(hi:i<rs.length)(q:Q (.int (rs.getD i 0:Nat),S)):W (dv (.tup (nmD rs)) (.int i) S) Q:=
 lG (i:=i) (x:=.int (rs.getD i 0:Nat)) (by rw[nmD,gP1,bC,gG1 hi];rfl) q
theorem jV{m i:Nat}{rs:List Nat}(hm:0<m)(h:∀x∈rs,x<m):rs.getD i 0<m:=by
 rw[bC];cases e:rs[i]? with
 |none=>exact hm
 |some x=>exact h x (gM1 e)
theorem oA{m:Nat}{w:dr}{a:List Int}:(ip m w a).length=m:=by unfold ip;rw[lM1,ci]
theorem Hu{a b:Nat}:((a:Int) == (b:Int))=tf (a=b):=xk (by rw[beq_iff_eq];lia)
theorem D6{m:Nat}{w:dr}{ws cs:List Nat}{S:Sto}{Q:D×Sto->Prop}(hw:WebJ m w)(l:0<m)(hm:m<=8)(u:∀x∈ws,x<m)(A:ws.length<=20)(q:∀d,Al (ip m w (sgL m ws cs J)) ws d->Q (d,S)):W (dn 2 lg [webD w,stD ws cs] S) Q:=by
 refine iJ O (by rw[D.unds,d6,D.unds,nw];rfl) ?_;unfold lg;refine jg ?_;unfold wZ;generalize o:ip m w (sgL m ws cs J)=cl at *
 have f:cl.length=m:=by rw[<- o];exact oA
 refine dL (λr V=>V=[]/\r=[Z (webD w),Z (stD ws cs),Z (.tup (nmD ws)),Z (.tup (nmD cs)),Y,Y,Y]) ?_ ?_
 ·unfold stD;walk_at"w"
 rintro r V ⟨rfl,rfl⟩;refine dL (λr V=>V=[]/\r=[Z (webD w),Z (stD ws cs),Z (.tup (nmD ws)),Z (.tup (nmD cs)),Z (.tup (nmD cl)),Y,Y]) ?_ ?_
 ·walk_at"w";refine rT (ws:=ws) hw hm ?_;walk_at"w";refine mI hw l hm kO ?_;rw[o]
  first|exact⟨rfl,rfl⟩|exact⟨rfl,trivial⟩|rfl
 rintro r V ⟨rfl,rfl⟩;refine Io ?_;walk_at"w";rw[d4];refine⟨fQ (by lia),?_⟩;rw[Int.toNat_natCast];refine lh (λi r V=>∃y x6,i<=ws.length/\(∀c a,c<a->a<ws.length->c<i->cw cl ws c≠cw cl ws a)/\V=[]/\r=[Z (webD w),Z (stD ws cs),Z (.tup (nmD ws)),Z (.tup (nmD cs)),Z (.tup (nmD cl)),y,x6]) _ 0 _ _ ⟨_,_,by lia,λc a _ _ h=>by lia,O,O⟩ (λ_ _ _ _=>rfl) ?_ ?_
 ·rintro i d g r V ⟨y,x6,hi,b,rfl,rfl⟩;have s:=(gE1.mp g).1;rw[eJ]at s;rw[la,gP1,ca s]at g;cases g;rw[bH]at *
  walk_at"w";unfold pq;unfold eR;rw[dk];walk_at"w";rw[d4];refine⟨rZ (by lia) (by lia),fQ (by lia),?_⟩;have z:gy ((i:Int)+1) (((ws.length:Nat):Int)-((i:Int)+1)).toNat=(Z7 (ws.length-(i+1))).map λk:Nat=>D.int ((i+1+k:Nat):Int):=by
   rw[m6,show(((ws.length:Nat):Int)-((i:Int)+1)).toNat=ws.length-(i+1) by lia];refine cB λk _=>?_
   push_cast;rfl
  rw[z];refine lh (λk r V=>∃x6,(∀a,i<a->a<i+1+k->cw cl ws i≠cw cl ws a)/\V=[]/\r=[Z (webD w),Z (stD ws cs),Z (.tup (nmD ws)),Z (.tup (nmD cs)),Z (.tup (nmD cl)),Z (.int (i:Nat)),x6]) _ 0 _ _ ⟨_,λa h h'=>by lia,O,O⟩ (λ_ _ _ _=>rfl) ?_ ?_
  ·rintro k d g r V ⟨x6,t,rfl,rfl⟩;have p:=(gE1.mp g).1;rw[lM1,ci]at p;rw[gP1,ca p]at g;cases g;rw[bH]at *
   walk_at"w";unfold pr;walk_at"w";refine BD (by lia) ?_;refine BD (by rw[f];exact jV l u) ?_;refine BD (by lia) ?_;refine BD (by rw[f];exact jV l u) ?_;walk_at"w";rw[show((((cl.getD (ws.getD i 0) 0:Nat):Int) == ((cl.getD (ws.getD (i+1+k) 0) 0:Nat):Int)))=tf (cw cl ws i=cw cl ws (i+1+k))from Hu];by_cases v:cw cl ws i=cw cl ws (i+1+k)
   ·rw [oP v];walk_at"w";have e:Al cl ws (alD i (i+1+k) cl):=.yes i (i+1+k) (by lia) (by lia) v fun c a h1 h2 n=>by
     rcases n with n|⟨rfl,n⟩
     ·exact b c a h1 h2 n
     ·exact t a h1 n
    exact .inr ⟨_,O,.inr ⟨_,O,.inr ⟨_,O,e.und,q _ e⟩⟩⟩
   ·rw[uI v];walk_at"w";refine .inl ⟨_,λa h1 h2=>?_,O⟩;rcases(show a<i+1+k\/a=i+1+k by lia)with h|rfl
    ·exact t a h1 h
    ·exact v
  ·rintro r V ⟨x6,t,rfl,rfl⟩;rw[lM1,ci,bH]at t;refine .inl ⟨O,_,_,by lia,λc a h1 h2 n=>?_,O,O⟩;rcases(show c<i\/c=i by lia)with h|rfl
   ·exact b c a h1 h2 h
   ·exact t a h1 (by lia)
 ·rintro r V ⟨y,x6,hi,b,rfl,rfl⟩;rw[eJ,bH]at b;refine .inl ⟨O,?_⟩
  try walk_at"w"
  have e:Al cl ws .non:=.no λi j h1 h2=>b i j h1 h2 (by lia);exact⟨O,q _ e⟩
def La(cl:List Nat):D:=.tup [.str "colours",.tup (nmD cl)]
theorem Hi{a:List Nat}:(La a).und 0=M:=by unfold La;rw[D.und,D.unds,D.unds,D.und,D.und,fq];rfl
inductive Nv (m:Nat)(w:dr)(ws cs:List Nat)(b:Bool):D->Prop
 |co (h:¬ (ip m w (sgL m ws cs true)).Nodup):Nv m w ws cs b (La (ip m w (sgL m ws cs true)))
 |al (d:D) (h:(ip m w (sgL m ws cs true)).Nodup) (hb:b=true) (hd:Al (ip m w (sgL m ws cs false)) ws d):Nv m w ws cs b d
 |no (h:(ip m w (sgL m ws cs true)).Nodup) (hb:b=false):Nv m w ws cs b .non
theorem CS{m:Nat}{w:dr}{ws cs:List Nat}{b:Bool}{S:Sto}{Q:D×Sto->Prop}(hw:WebJ m w)(c:0<m)(hm:m<=8)(i:∀x∈ws,x<m)(g:ws.length<=20)(q:∀d,Nv m w ws cs b d->Q (d,S)):W (dn 3 lf [webD w,stD ws cs,.bl b] S) Q:=by
 refine iJ O (by rw[D.unds,d6,D.unds,nw];rfl) ?_;unfold lf;refine jg ?_;unfold wY;refine dL (λr V=>V=[]/\r=[Z (webD w),Z (stD ws cs),Z (.bl b),Z (.tup (nmD (ip m w (sgL m ws cs M))))]) ?_ ?_
 ·walk_at"w";refine Bv hw hm ?_;walk_at"w";refine mI hw c hm kO ?_
  first|exact⟨rfl,rfl⟩|exact⟨rfl,trivial⟩|rfl
 rintro r V ⟨rfl,rfl⟩;have j:(ip m w (sgL m ws cs M)).length=m:=oA;refine G6 (λt=>t=(!tf (ip m w (sgL m ws cs M)).Nodup,[])) ?_ (λV e=>?_) λV e=>?_
 ·walk_at"w";refine yR (by lia) ?_;walk_at"w"
 ·injection e with a h;subst h;have f:¬ (ip m w (sgL m ws cs M)).Nodup:=λz=>by rw[oP z]at a;cases a
  walk_at"w";exact⟨Hi,q _ (.co f)⟩
 ·injection e with a h;subst h;have f:(ip m w (sgL m ws cs M)).Nodup:=Classical.byContradiction λz=>by rw[uI z]at a;cases a
  cases b with
  |true=>
   walk_at"w";refine D6 (cs:=cs) hw c hm i g λd k=>?_;exact⟨k.und,q d (.al d f O k)⟩
  |false=>
   walk_at"w";exact⟨O,q _ (.no f O)⟩
theorem Bc(xs:List Int)(x:Int):ddI (xs++[x])=step_dedup (ddI xs) x:=by unfold ddI;rw[List.foldl_append];rfl
theorem wU{y:Int}:∀(xs a:List Int),y∈xs.foldl step_dedup a↔y∈a\/y∈xs
 |[],a=>by simp
 |x::xs,a=>by
  rw[bX,wU xs];unfold step_dedup;split
  ·rename_i h;obtain⟨z,b,e⟩:=bK.mp h;have e:=beq_iff_eq.mp e;subst e;rw[ay];exact⟨λh=>h.elim .inl λh=>.inr (.inr h),λh=>h.elim .inl λh=>h.elim (λe=>.inl (e ▸ b)) .inr⟩
  ·rw[az,cc,ay,or_assoc]
theorem wT{y:TK}:∀(xs a:List TK),y∈xs.foldl j3 a↔y∈a\/y∈xs
 |[],a=>by simp
 |x::xs,a=>by
  rw[bX,wT xs];unfold j3;split
  ·rename_i h;rw[ay];exact⟨λh=>h.elim .inl λh=>.inr (.inr h),λq=>q.elim .inl λq=>q.elim (λe=>.inl (e ▸ h)) .inr⟩
  ·rw[az,cc,ay,or_assoc]
theorem DR(xs:List Int)(x:Int):(ddI (xs++[x])).length=(ddI xs).length+if x∈xs then 0 else 1:=by
 rw[Bc];unfold step_dedup;have a:x∈ddI xs↔x∈xs:=by unfold ddI;rw[wU];simp
 by_cases h:x∈xs
 ·rw[ae h,ae (bK.mpr ⟨x,a.mpr h,by simp⟩)];rfl
 ·rw[ab h,ab λz=>?_,lA1];rfl;obtain⟨y,b,e⟩:=bK.mp z;have e:=beq_iff_eq.mp e;subst e;exact h (a.mp b)
theorem DQ(xs:List TK)(x:TK):(ddK (xs++[x])).length=(ddK xs).length+if x∈xs then 0 else 1:=by
 have e:ddK (xs++[x])=j3 (ddK xs) x:=by unfold ddK;rw[List.foldl_append];rfl
 rw[e];unfold j3;have a:x∈ddK xs↔x∈xs:=by unfold ddK;rw[wT];simp
 by_cases h:x∈xs
 ·rw[ae h,ae (a.mpr h)];rfl
 ·rw[ab h,ab λz=>h (a.mp z),lA1];rfl
theorem lU{α:Type}{f:Nat->α}{x:α}{i:Nat}:x∈(Z7 i).map f ↔ ∃j,j<i/\f j=x:=by
 rw[b6];exact⟨λ⟨j,h,e⟩=>⟨j,au.mp h,e⟩,λ⟨j,h,e⟩=>⟨j,au.mpr h,e⟩⟩
theorem w4{f:Nat->TK}{g:Nat->Int}(h:∀ i j,f i=f j->g i=g j):∀ m:Nat,(ddI ((List.range m).map g)).length<=(ddK ((List.range m).map f)).length /\
  ((ddK ((Z7 m).map f)).length=(ddI ((Z7 m).map g)).length ↔ ∀i,i<m->(∃j,j<i/\g j=g i) -> ∃j,j<i/\f j=f i)
 |0=>⟨nR1 _,λ_ i hi=>absurd hi (bo _),λ_=>rfl⟩
 |m + 1=>by
  obtain⟨h1,h2⟩:=w4 h m;rw[cU,cx,cx,List.map_singleton,List.map_singleton,DR,DQ];by_cases b:f m∈(Z7 m).map f
  ·have a:g m∈(List.range m).map g:=by
    obtain⟨j,d,e⟩:=lU.mp b;exact lU.mpr ⟨j,d,h _ _ e⟩
   rw[ae b,ae a];refine⟨h1,h2.trans ⟨λq i hi c=>?_,λq i hi=>q i (by lia)⟩⟩;rcases bN i m with z|z
   ·exact q i z c
   ·have:i=m:=by lia
    subst this;exact lU.mp b
  ·rw[ab b];by_cases a:g m∈(Z7 m).map g
   ·rw[ae a];refine⟨by lia,λq=>absurd q (by lia),λq=>?_⟩;exact absurd (lU.mpr (q m (bt m) (lU.mp a))) b
   ·rw[ab a];refine⟨by lia,⟨λq i hi c=>?_,λq=>?_⟩⟩
    ·rcases bN i m with z|z
     ·exact h2.mp (by lia) i z c
     ·have:i=m:=by lia
      subst this;exact absurd (lU.mpr c) a
    ·rw[h2.mpr λi hi=>q i (by lia)]
theorem va{α β:Type}{f:Nat->α}{g:Nat->β}{m:Nat}(h:∀i j,f i=f j->g i=g j):(∀i,i<m->(∃j,j<i/\g j=g i) -> ∃j,j<i/\f j=f i) ↔ ∀i j,i<m->j<m->g i=g j->f i=f j:=by
 constructor
 ·intro q;have a:∀ n i,i<n->i<m -> ∀ j,j<i->g j=g i->f j=f i:=by
   intro n
   induction n with
   |zero=>intro i hi;exact absurd hi (bo _)
   |succ n ih=>
    intro i hi d j b e;obtain⟨k,l,c⟩:=q i d ⟨j,b,e⟩;rcases cv k j with z|z|z
    ·exact(ih j (by lia) (by lia) k z ((h _ _ c).trans e.symm)).symm.trans c
    ·rw[<- z];exact c
    ·exact(ih k (by lia) (by lia) j z (e.trans (h _ _ c).symm)).trans c
  intro i j hi b e;rcases cv i j with z|z|z
  ·exact a (j+1) j (by lia) b i z e
  ·rw[z]
  ·exact(a (i+1) i (by lia) hi j z e.symm).symm
 ·rintro q i hi ⟨j,b,e⟩;exact⟨j,b,q j i (by lia) hi e⟩
abbrev HJ:=Int×Int×List (Int×Nat)
def zD(e:Int×Nat):D:=.tup [.int e.1,.int (e.2:Nat)]
def zT(e:Int×Nat):TK:=.tup [.int e.1,.int (e.2:Nat)]
def BJ(ts:List Int)(e:Nat×Nat):Int×Nat:=(gh ts e.1,e.2)
def lJ(w:dr)(sg ts:List Int)(r:Nat):HJ:=(gh ts r,gh sg r,(fg w r).map (BJ ts))
def li(x:HJ):D:=.tup [.int x.1,.int x.2.1,.tup (x.2.2.map zD)]
def mR(x:HJ):TK:=.tup [.int x.1,.int x.2.1,.tup (x.2.2.map zT)]
theorem Df(x:HJ):(li x).und 0=M:=by
 unfold li;rw[D.und,D.unds,D.unds,D.unds,D.und,Mi.eI (λ_ _=>rfl)];rfl
theorem Ex:∀l:List (Int×Nat),xS (l.map zD)=Z (l.map zT)
 |[]=>rfl
 |e::l=>by rw[mP1,xS,Ex l];rfl
theorem EH:∀l:List (Int×Nat),TK.depAll (l.map zT)<=2
 |[]=>by decide
 |e::l=>by
  have:=EH l;rw[mP1,TK.depAll];have:(zT e).dep=1:=rfl;lia
theorem Jm(x:HJ):iG (li x)=Z (mR x):=by
 have e:xS [.int x.1,.int x.2.1,.tup (x.2.2.map zD)]=Z [.int x.1,.int x.2.1,.tup (x.2.2.map zT)]:=by
  simp only[xS,kD,Ex,oP1,oS1]
 unfold li;rw[iG,e,oS1,ae]
 ·rfl
 ·have:=EH x.2.2;simp[TK.dep,TK.depAll];lia
theorem yB:∀{a b:List (Int×Nat)},a.map zT=b.map zT->a=b
 |[],[],_=>rfl
 |[],_::_,h=>by cases h
 |_::_,[],h=>by cases h
 |x::a,y::b,h=>by
  rw[mP1,mP1]at h;injection h with h1 h2;unfold zT at h1;injection h1 with h1;injection h1 with c h1;injection h1 with d h1;injection c with c;injection d with d;rw[yB h2,show x=y from Prod.ext c (by lia)]
theorem tF{x y:HJ}(h:mR x=mR y):x=y:=by
 unfold mR at h;injection h with h;injection h with c h;injection h with b h;injection h with a h;injection c with c;injection b with b;injection a with a;exact Prod.ext c (Prod.ext b (yB a))
def Eb(m:Nat)(w:dr)(sg ts:List Int):Prop:=∀i j,i<m->j<m->gh ts i=gh ts j->lJ w sg ts i=lJ w sg ts j
theorem DO(m:Nat)(w:dr)(a ts:List Int):(ddK ((Z7 m).map λr=>mR (lJ w a ts r))).length=(ddI ((Z7 m).map (gh ts))).length↔Eb m w a ts:=by
 have h:∀i j,mR (lJ w a ts i)=mR (lJ w a ts j)->gh ts i=gh ts j:=λi j e=>by
  have:=tF e;exact congrArg (·.1) this
 rw[(w4 (f:=λr=>mR (lJ w a ts r)) h m).2,va h];exact⟨λq i j hi b e=>tF (q i j hi b e),λq i j hi b e=>congrArg mR (q i j hi b e)⟩
theorem wB(f:Nat->HJ):∀l:List Nat,py (l.map λr=>li (f r))=Z (l.map λr=>mR (f r))
 |[]=>rfl
 |r::l=>by rw[mP1,py,Jm,oS1,wB f l];rfl
theorem Ce{ts:List Int}{m:Nat}(h:ts.length=m):(Z7 m).map (gh ts)=ts:=by
 subst h;apply bR;intro i;rw[gP1];by_cases hi:i<ts.length
 ·rw[ca hi,gG1 hi];unfold gh;rw[oP1,bC,gG1 hi];rfl
 ·rw[bS (by simpa using hi),bS (by lia)];rfl
theorem AF{m:Nat}{w:dr}{c b:List Int}(hw:WebJ m w)(hm:m<=8)(hs:c.length=m)(ht:b.length=m):W (ge [webD w,sgD c,sgD b] []) λp=>∃k,p.1 = .ref k/\p.2[k]?=Z (.lst ((Z7 m).map λr=>li (lJ w c b r)))/\p.2.all (Ob.und 0)=M:=by
 unfold ge;refine jg ?_;unfold sd;refine dL (λr V=>V=[.lst []]/\r=[Z (webD w),Z (sgD c),Z (sgD b),Z (.ref 0),Y,Y,Y]) ?_ ?_
 ·walk_at"w"
  try exact⟨O,trivial⟩
 rintro r V ⟨rfl,rfl⟩;refine dL (λr V=>∃G h j x6,G.all (Ob.und 0)=M/\V = .lst ((Z7 m).map λr=>li (lJ w c b r))::G/\r=[Z (webD w),Z (sgD c),Z (sgD b),Z (.ref 0),h,j,x6]) ?_ ?_
 ·unfold eR;rw[dk];refine oK (xs:=w.map λa=>.tup (a.map pD)) O ?_;refine ez (λi r V=>∃G h j x6,i<=m/\G.all (Ob.und 0)=M/\V = .lst ((Z7 i).map λr=>li (lJ w c b r))::G/\r=[Z (webD w),Z (sgD c),Z (sgD b),Z (.ref 0),h,j,x6]) _ 0 _ _ ⟨[],_,_,_,by lia,O,O,O⟩ (λ_ _ _ _=>rfl) ?_ ?_
  ·rintro i B o r V ⟨G,h,j,x6,hi,l,rfl,rfl⟩;rw[fO,gP1]at o;obtain⟨z,x,rfl⟩:=oM1.mp o;obtain⟨a,g,rfl⟩:=oM1.mp x;have q:i<m:=by rw[<- hw.len];exact(gE1.mp g).1
   have A:=hw.le i a g;rw[bH]at *
   walk_at"w";unfold lR;refine dL (λr V=>V = .lst ((Z7 i).map λr=>li (lJ w c b r))::(G++[.lst (a.map λe=>zD (BJ b e))])/\r=[Z (webD w),Z (sgD c),Z (sgD b),Z (.ref 0),Z (.int (i:Nat)),Z (.tup (a.map pD)),Z (.tup (a.map λe=>zD (BJ b e)))]) ?_ ?_
   ·walk_at"w";rw[kq];refine jZ (f:=pD) (λe=>zD (BJ b e)) (λs=>∃u t,s=[u,t,Z (sgD b)]) O a _ ⟨_,_,O⟩ ?_ ?_
    ·rintro e y s ⟨u,t,rfl⟩;obtain⟨d,v⟩:=bi y;have:=hw.to i d e ⟨a,g,v⟩;rw[pD];walk_at"w";refine By ht this ?_;walk_at"w";exact⟨O,_,_,O⟩
    ·rintro s _;refine⟨dA (by rw[lM1];lia),?_⟩;walk_at"w";refine dW (xs:=a.map λe=>zD (BJ b e)) (by rw[gC1,dz];rfl) ?_
     first|exact⟨rfl,rfl⟩|exact⟨rfl,trivial⟩|rfl
   rintro r V ⟨rfl,rfl⟩;unfold eK;rw[dk];refine gK ?_;walk_at"w";refine⟨0,(Z7 i).map λr=>li (lJ w c b r),O,O,?_⟩;refine By ht q ?_;walk_at"w";refine By hs q ?_;walk_at"w";refine(jc (n:=0) (xs:=(Z7 i).map λr=>li (lJ w c b r)) O).mpr ⟨dA (by rw[lM1,ci];lia),?_⟩;refine⟨G++[.lst (a.map λe=>zD (BJ b e))],_,_,_,by lia,?_,?_,O⟩
   ·rw[cD,l,bI,Ob.und,Mi.eI (λ_ _=>rfl)];rfl
   ·have e:li (lJ w c b i)=D.tup [D.int (gh b i),D.int (gh c i),D.tup (a.map fun e=>zD (BJ b e))]:=by
     unfold lJ;rw[qm g,li,bm];rfl
    rw[cU,cx,mP1,e];rfl
  ·rintro r V ⟨G,h,j,x6,hi,l,rfl,rfl⟩;rw[fN,lM1,bH,hw.len];exact⟨O,G,_,_,_,l,O,O⟩
 rintro r V ⟨G,h,j,x6,l,rfl,rfl⟩;walk_at"w";refine⟨0,O,O,?_⟩;rw[bI,l,Ob.und,Mi.eI (λ_ _=>Df _)];rfl
def iM(S:Sto):Prop:=S.all (Ob.und S.length)=M
mutual
def vd(S:Sto):D->Bool
 | .non=>M
 | .bl _=>M
 | .int _=>M
 | .str _=>M
 | .tup xs=>fG S xs
 | .rol xs=>fG S xs
 | .ref n=>match S[n]? with
  |some (.lst _)=>M
  |some (.dct _)=>M
  |some (.dcT _)=>M
  |_=>J
 | .fn _=>J
def fG(S:Sto):List D->Bool
 |[]=>M
 |d::ds=>vd S d&&fG S ds
end
mutual
theorem HU{S T:Sto}:∀{d:D},vd S d=M->d.und 0=M->vd T d=M
 | .non,_,_=>by rw[vd]
 | .bl _,_,_=>by rw[vd]
 | .int _,_,_=>by rw[vd]
 | .str _,_,_=>by rw[vd]
 | .tup xs,v,h=>by rw[D.und]at h;rw[vd]at v ⊢;exact p9 v h
 | .rol xs,v,h=>by rw[D.und]at h;rw[vd]at v ⊢;exact p9 v h
 | .ref k,_,h=>by simp[D.und]at h
 | .fn x,v,_=>by simp[vd]at v
theorem p9{S T:Sto}:∀{ds:List D},fG S ds=M->D.unds 0 ds=M->fG T ds=M
 |[],_,_=>by rw[fG]
 |d::ds,v,h=>by
  rw[D.unds,bA1]at h;rw[fG,bA1]at v;rw[fG,HU v.1 h.1,p9 v.2 h.2];rfl
end
theorem iN{S:Sto}{d:D}:∀{ds:List D},fG S ds=M->d∈ds->vd S d=M
 |[],_,h=>by cases h
 |x::ds,h,m=>by
  rw[fG,bA1]at h;rcases ay.mp m with z|z
  ·rw[z];exact h.1
  ·exact iN h.2 z
theorem ly{n:Nat}{f:FN}{ds:List D}{S:Sto}{Q:D×Sto->Prop}(hn:ds.length=n)(b:iM S)(hv:fG S ds=M)(h:∀T,iM T->fG T ds=M->W (f ds T) λp=>(∃G,p.2=T++G)/\p.1.und 0=M/\Q (p.1,S)):W (dn n f ds S) Q:=by
 cases hu:D.unds 0 ds with
 |true=>exact iJ hn hu ((h [] rfl (p9 hv hu)).mono λp q=>⟨q.2.1,q.2.2⟩)
 |false=>
  refine oC hn hu ((h S b hv).mono ?_);rintro⟨d,V⟩ ⟨⟨G,e⟩,a,q⟩;dsimp only at e a q;subst e;rw[rz a b];exact q
def EA:D->Bool
 | .tup _=>M
 |_=>J
def whD:D->Bool
 | .int _=>M
 |_=>J
def LF:D->Bool
 | .bl _=>M
 |_=>J
theorem nt{S:Sto}{d:D}(h:vd S d=M):jz S .tuple d=Z (EA d):=by
 cases d with
 |ref n=>
  rw[vd]at h;rw[jz];split at h<;>first|(rename_i e;rw[e];rfl)|rfl|cases h
 |fn x=>simp[vd]at h
 |_=>rfl
theorem yU{S:Sto}{d:D}(h:vd S d=M):jz S .int d=Z (whD d||LF d):=by
 cases d with
 |ref n=>
  rw[vd]at h;rw[jz];split at h<;>first|(rename_i e;rw[e];rfl)|rfl|cases h
 |fn x=>simp[vd]at h
 |_=>rfl
theorem vL{S:Sto}{d:D}(h:vd S d=M):jz S .bool d=Z (LF d):=by
 cases d with
 |ref n=>
  rw[vd]at h;rw[jz];split at h<;>first|(rename_i e;rw[e];rfl)|rfl|cases h
 |fn x=>simp[vd]at h
 |_=>rfl
theorem Lv{S:Sto}{d:D}(h:vd S d=M):fG S [d]=M:=by rw[fG,fG,h];rfl
theorem vd1'{S:Sto}{d:D}{ds:List D}(h:fG S (d::ds)=M):vd S d=M:=iN h mS1
theorem vH{d:D}{S:Sto}{Q:D×Sto->Prop}(c:iM S)(hv:vd S d=M)(q:Q (.bl (whD d),S)):W (dn 1 eU [d] S) Q:=by
 refine ly O c (Lv hv) λT _ a=>?_;have h1:=yU (vd1' a);have h2:=vL (vd1' a);unfold eU;refine jg ?_;unfold kA
 ((try walk_at"w");repeat(simp only[iE,h1,h2];try walk_at"w"))
 cases d with
 |int i=>exact⟨⟨[],(aG T).symm⟩,O,q⟩
 |bl b=>exact⟨⟨[],(aG T).symm⟩,O,q⟩
 |_=>exact⟨⟨[],(aG T).symm⟩,O,q⟩
theorem JO{f g:FN}{a b c:FE}{r:Ev}{S:Sto}{Q:D×Sto->Prop}:W (GL f g a b c r S) Q↔W (a r S) λp=>W (b r p.2) λq=>W (f [p.1,q.1] q.2) λt=>W (match t.1 with | .bl k=>if k=true then(c r t.2).bind λz=>g [q.1,z.1] z.2 else some (.bl false,t.2)|_=>none) Q:=by
 unfold GL;simp only[dk]
 try exact Iff.rfl
theorem gR{d:D}{S:Sto}{Q:D×Sto->Prop}(c:iM S)(hv:vd S d=M)(q:Q (.bl (whD d),S)):W (dn 1 dP [d] S) Q:=by
 refine ly O c (Lv hv) λT _ a=>?_;have h1:=yU (vd1' a);have h2:=vL (vd1' a);unfold dP;refine jg ?_;unfold i4
 ((try walk_at"w");repeat(simp only[iE,h1,h2];try walk_at"w"))
 cases d with
 |int i=>exact⟨⟨[],(aG T).symm⟩,O,q⟩
 |bl b=>exact⟨⟨[],(aG T).symm⟩,O,q⟩
 |_=>exact⟨⟨[],(aG T).symm⟩,O,q⟩
def lA(m:Nat):D->Bool
 | .int i=>decide (0<=i)&&decide (i<m)
 |_=>J
theorem D1{m:Nat}{d:D}(h:whD d=J):lA m d=J:=by
 cases d with
 |int i=>cases h
 |_=>rfl
theorem r0{d:D}(h:whD d=M):∃i,d = .int i:=by
 cases d with
 |int i=>exact⟨i,O⟩
 |_=>cases h
theorem DV{r:Ev}{S:Sto}{m i:Nat}{j:Int}{c:FE}{Q:D×Sto->Prop}(hi:r[i]?=Z (Z (.int j)))(hc:c r S=Z (.int m,S))(q:Q (.bl (decide (0<=j)&&decide (j<m)),S)):W (GL (b2 (iV λi j=>decide (i<=j))) (b2 gLt) (mC (D.int (0))) (mV i) c r S) Q:=by
 have e:mV i r S=Z (.int j,S):=by unfold mV;rw[hi]
 rw[JO];unfold mC;rw[dt];dsimp only;rw[e,dt];dsimp only;unfold b2 iV;dsimp only;rw[dt];dsimp only;cases h:decide (0<=j)with
 |false=>
  rw[ab (by decide),dt];rw[h]at q;exact q
 |true=>
  rw[ae O,hc,dk,dt];rw[h]at q;exact W.of O q
theorem lz{m:Nat}{d:D}{S:Sto}{Q:D×Sto->Prop}(c:iM S)(hv:vd S d=M)(q:Q (.bl (lA m d),S)):W (dn 2 gp [d,.int m] S) Q:=by
 refine ly O c (by rw[fG,hv,fG,fG,vd];rfl) λT e a=>?_;have b:=vd1' a;unfold gp;refine jg ?_;unfold oF;walk_at"w";refine vH e b ?_;walk_at"w";cases hw:whD d with
 |false=>
  rw[ab (by decide)];rw[D1 hw]at q
  first|exact⟨⟨[],(aG T).symm⟩,rfl,q⟩|(rw[dt];exact⟨⟨[],(aG T).symm⟩,O,q⟩)
 |true=>
  rw[ae O];obtain⟨i,rfl⟩:=r0 hw;refine DV (m:=m) O O ?_
  try walk_at"w"
  exact⟨⟨[],(aG T).symm⟩,O,q⟩
mutual
def bd(k:Nat):D->Bool
 | .tup xs=>decide (xs.length<=k)&&yw k xs
 | .non=>M
 | .bl _=>M
 | .int _=>M
 | .str _=>M
 | .rol _=>J
 | .ref _=>M
 | .fn _=>J
def yw(k:Nat):List D->Bool
 |[]=>M
 |d::ds=>bd k d&&yw k ds
end
mutual
theorem wX{k k':Nat}(h:k<=k'):∀{d:D},bd k d=M->bd k' d=M
 | .tup xs,q=>by
  rw[bd,bA1,af]at q;rw[bd,ui h q.2,Z9 (by lia)];rfl
 | .non,_=>by rw[bd]
 | .bl _,_=>by rw[bd]
 | .int _,_=>by rw[bd]
 | .str _,_=>by rw[bd]
 | .rol _,q=>by simp[bd]at q
 | .ref _,_=>by rw[bd]
 | .fn _,q=>by simp[bd]at q
theorem ui{k k':Nat}(h:k<=k'):∀{ds:List D},yw k ds=M->yw k' ds=M
 |[],_=>by rw[yw]
 |d::ds,q=>by
  rw[yw,bA1]at q;rw[yw,wX h q.1,ui h q.2];rfl
end
theorem iZ{k:Nat}:∀xs:List D,yw k xs=xs.all (bd k)
 |[]=>by rw[yw];rfl
 |x::xs=>by rw[yw,iZ xs];rfl
theorem uD{S:Sto}:∀xs:List D,fG S xs=xs.all (vd S)
 |[]=>by rw[fG];rfl
 |x::xs=>by rw[fG,uD xs];rfl
theorem mZ{n:Nat}:∀xs:List D,D.unds n xs=xs.all (D.und n)
 |[]=>rfl
 |x::xs=>by rw[D.unds,mZ xs];rfl
structure Ok (k:Nat)(S:Sto)(d:D):Prop where
 v:vd S d=true
 u:d.und S.length=true
 b:bd k d=true
theorem Ok.tup{k:Nat}{S:Sto}{xs:List D}(b:xs.length<=k)(h:∀x∈xs,Ok k S x):Ok k S (.tup xs):=by
 refine⟨?_,?_,?_⟩
 ·rw[vd,uD,br];exact λx a=>(h x a).v
 ·rw[D.und,mZ,br];exact λx a=>(h x a).u
 ·rw[bd,iZ,bA1,af,br];exact⟨b,λx a=>(h x a).b⟩
theorem Ok.of{k:Nat}{S:Sto}{xs:List D}(h:Ok k S (.tup xs)):xs.length<=k /\ ∀x∈xs,Ok k S x:=by
 obtain⟨h1,h2,a⟩:=h;rw[vd,uD,br]at h1;rw[D.und,mZ,br]at h2;rw[bd,iZ,bA1,af,br]at a;exact⟨a.1,λx b=>⟨h1 x b,h2 x b,a.2 x b⟩⟩
theorem Ok.more{k k':Nat}{S:Sto}{d:D}(h:Ok k S d)(hk:k<=k'):Ok k' S d:=⟨h.v,h.u,wX hk h.b⟩
mutual
theorem sB{k:Nat}{S:Sto}:∀{d:D},bd k d=M->d.und 0=M->vd S d=M
 | .non,_,_=>by rw[vd]
 | .bl _,_,_=>by rw[vd]
 | .int _,_,_=>by rw[vd]
 | .str _,_,_=>by rw[vd]
 | .tup xs,v,h=>by
  rw[D.und]at h;rw[bd,bA1]at v;rw[vd];exact yM v.2 h
 | .rol xs,v,h=>by simp[bd]at v
 | .ref k,_,h=>by simp[D.und]at h
 | .fn x,v,_=>by simp[bd]at v
theorem yM{k:Nat}{S:Sto}:∀{ds:List D},yw k ds=M->D.unds 0 ds=M->fG S ds=M
 |[],_,_=>by rw[fG]
 |d::ds,v,h=>by
  rw[D.unds,bA1]at h;rw[yw,bA1]at v;rw[fG,sB v.1 h.1,yM v.2 h.2];rfl
end
theorem Ok.shut{k:Nat}{S:Sto}{d:D}(h:d.und 0=M)(hb:bd k d=M):Ok k S d:=⟨sB hb h,kJ h,hb⟩
theorem Ok.lst{k n:Nat}{S:Sto}{xs:List D}(h:S[n]?=Z (.lst xs)):Ok k S (.ref n):=⟨by rw[vd,h],by rw[D.und,af];exact(gE1.mp h).1,by rw[bd]⟩
theorem Ok.dct{k n:Nat}{S:Sto}{xs:List (Key×D)}(h:S[n]?=Z (.dct xs)):Ok k S (.ref n):=⟨by rw[vd,h],by rw[D.und,af];exact(gE1.mp h).1,by rw[bd]⟩
theorem Ok.nm{k:Nat}{S:Sto}{rs:List Nat}(h:rs.length<=k):Ok k S (.tup (nmD rs)):=Ok.tup (by rw[d4];exact h) λx a=>by
 obtain⟨i,_,rfl⟩:=b6.mp a;exact .shut O (by rw[bd])
mutual
theorem qa{S a:Sto}(h:∀n,vd S (.ref n)=M->vd a (.ref n)=M):∀{d:D},vd S d=M->vd a d=M
 | .non,_=>by rw[vd]
 | .bl _,_=>by rw[vd]
 | .int _,_=>by rw[vd]
 | .str _,_=>by rw[vd]
 | .tup xs,q=>by rw[vd]at q ⊢;exact np h q
 | .rol xs,q=>by rw[vd]at q ⊢;exact np h q
 | .ref n,q=>h n q
 | .fn x,q=>by simp[vd]at q
theorem np{S a:Sto}(h:∀n,vd S (.ref n)=M->vd a (.ref n)=M):∀{ds:List D},fG S ds=M->fG a ds=M
 |[],_=>by rw[fG]
 |d::ds,q=>by
  rw[fG,bA1]at q;rw[fG,qa h q.1,np h q.2];rfl
end
mutual
theorem yN{A B:Sto}:∀{d:D},vd (A++B) d=M->d.und A.length=M->vd A d=M
 | .non,_,_=>by rw[vd]
 | .bl _,_,_=>by rw[vd]
 | .int _,_,_=>by rw[vd]
 | .str _,_,_=>by rw[vd]
 | .tup xs,q,u=>by rw[vd]at q ⊢;rw[D.und]at u;exact p8 q u
 | .rol xs,q,u=>by rw[vd]at q ⊢;rw[D.und]at u;exact p8 q u
 | .ref n,q,u=>by
  rw[D.und,af]at u;rw[vd]at q ⊢;rw[gL1 u]at q;exact q
 | .fn x,q,_=>by simp[vd]at q
theorem p8{A B:Sto}:∀{ds:List D},fG (A++B) ds=M->D.unds A.length ds=M->fG A ds=M
 |[],_,_=>by rw[fG]
 |d::ds,q,u=>by
  rw[fG,bA1]at q;rw[D.unds,bA1]at u;rw[fG,yN q.1 u.1,p8 q.2 u.2];rfl
end
theorem Dy{o:Ob}{n:Nat}(h:Hnd o n):∃xs,o = .lst xs:=by
 obtain⟨g,m,c,rfl,_⟩:=h;exact⟨_,O⟩
theorem Ok.on{k n n':Nat}{o o':Ob}{T G:Sto}{d:D}(h:Ok k (o::T) d)(ho:Hnd o' n'):Ok k (o'::(T++G)) d:=by
 refine⟨qa (λi hi=>?_) h.v,yS (by simp) h.u,h.b⟩;obtain⟨xs,rfl⟩:=Dy ho;cases i with
 |zero=>rw[vd];rfl
 |succ i=>
  rw[vd,gC1]at hi ⊢;cases e:T[i]? with
  |none=>rw[e]at hi;cases hi
  |some x=>
   rw[gL1 (gE1.mp e).1,e];rw[e]at hi;exact hi
abbrev ClT(T:Sto):Prop:=T.all (Ob.und (T.length+1))=M
theorem Bm{m k n':Nat}{f:FN}{ds:List D}{o:Ob}{T:Sto}{Q:D×Sto->Prop}(hn:ds.length=m)(d:D.unds 0 ds=J)(g:ClT T)(h:W (f ds (o::T)) λp=>∃x o' G,p=(x,o'::(T++G))/\Hnd o' n'/\ClT (T++G)/\Ok k (o'::(T++G)) x)(q:∀x o' G,Hnd o' n'->ClT (T++G)->Ok k (o'::(T++G)) x->Q (x,o'::(T++G))):W (dn m f ds (o::T)) Q:=by
 refine oC hn d (h.mono ?_);rintro p ⟨x,o',G,rfl,c,hc,b⟩;unfold gc;split
 ·rename_i a;have e:(o'::(T++G)).take (o::T).length=o'::(T++[]):=by rw[aG,lC1,cO,List.take_left]
  rw[e];refine q x o' [] c (by rw[aG];exact g) ⟨?_,?_,b.b⟩
  ·rw[bA1]at a;rw[aG];refine yN (A:=o'::T) (B:=G) (by rw[ba];exact b.v) ?_;have:=a.1
   rwa [lC1]at this
  ·rw[bA1]at a;rw[aG];have:=a.1
   rwa [lC1]at this
 ·exact q x o' G c hc b
theorem Bk{T G:Sto}(h:ClT T)(hg:∀o∈G,o.und ((T++G).length+1)=M):ClT (T++G):=by
 rw[ClT,br]at h ⊢;intro o a;rcases az.mp a with a|a
 ·exact fI (by rw[lA1];lia) (h o a)
 ·exact hg o a
theorem ID:∃B:Int,∀S:Sto,oe (.int 10) (.int 30) S=Z (.int B,S):=⟨10^30,λS=>by
 unfold oe;dsimp only;rw[ae ⟨by decide,by decide,by decide⟩];rfl⟩
theorem FF{o:Ob}{n k p:Nat}{T G:Sto}{L:List D}{r:Ev}{Q:D×Sto->Prop}(ho:Hnd o n)(hn:n<=2^40)(hp:(T++G)[p]? = Z (.lst L))(l:0<L.length)(m:L.length<=100)(h:r[0]? = Z (Z (.ref 0)))(h2:r[2]? = Z (Z (.ref (p+1))))(hx:∀ o',Hnd o' (n+1) -> ∀ x∈L,Ok k (o'::(T++G)) x)(q:∀x o',Hnd o' (n+1)->Ok k (o'::(T++G)) x->Q (x,o'::(T++G))):W (m2 (b2 dv) (mV 2) (mN (dn 2 dq) (di (mV 0) (di (mN (b1 dN) (di (mV 2) dj)) dj))) r (o::(T++G))) Q:=by
 have f:∀o:Ob,(o::(T++G))[p+1]?=Z (.lst L):=λo=>by rw[gC1];exact hp
 have g:∀S:Sto,mV 0 r S=Z (.ref 0,S):=λS=>by unfold mV;rw[h]
 have e:∀S:Sto,mV 2 r S=Z (.ref (p+1),S):=λS=>by unfold mV;rw[h2]
 have el:dN (.ref (p+1)) (o::(T++G))=Z (.int L.length,o::(T++G)):=by unfold dN;rw[ga (f o)];rfl
 refine JP ?_;rw[e,dt];dsimp only;unfold mN di;simp only[g,e,dj,oS1,b1,el];refine f0 ho (by lia) (by lia) (by lia) λd c a j=>?_;have b:d<L.length:=by lia
 unfold b2;refine iL (i:=d) (x:=L[d]) (f c) (gG1 b) ?_;exact q _ c a (hx c a _ (bL b))
def EK(k:Nat)(r:Ev)(o:Ob)(T:Sto)(e:FE):Prop:=∀G,ClT (T++G)->W (e r (o::(T++G))) λp=>∃G',p.2=o::(T++(G++G'))/\ClT (T++(G++G'))/\Ok k (o::(T++(G++G'))) p.1
def AK(k:Nat)(r:Ev)(o:Ob)(T:Sto)(n:Nat)(a:FA):Prop:=∀G,ClT (T++G)->W (a r (o::(T++G))) λp=>∃G',p.2=o::(T++(G++G'))/\ClT (T++(G++G'))/\p.1.length=n /\ ∀x∈p.1,Ok k (o::(T++(G++G'))) x
section
variable{k n N:Nat}{r:Ev}{o:Ob}{T:Sto}{e:FE}{a:FA}{d:D}
theorem d8(ho:Hnd o N)(h:∀S,e r S=Z (d,S))(hd:Ok k (o::T) d):EK k r o T e:=λG a=>by
 refine W.of (h _) ⟨[],by rw[aG],by rw[aG];exact a,?_⟩;rw[aG];exact hd.on (n:=N) ho
theorem d3:AK k r o T 0 dj:=λG a=>W.of O ⟨[],by rw[aG],by rw[aG];exact a,O,λx h=>by cases h⟩
theorem dm(ho:Hnd o N)(he:EK k r o T e)(ha:AK k r o T n a):AK k r o T (n+1) (di e a):=λG i=>by
 unfold di;rw[dk];refine(he G i).mono ?_;rintro⟨d,S⟩ ⟨G1,c,h1,h2⟩;dsimp only at c h2 ⊢;subst c;rw[dk];refine(ha (G++G1) h1).mono ?_;rintro⟨l,S⟩ ⟨G2,g,h,f,b⟩;dsimp only at g f b ⊢;subst g;rw[bx]at h b;refine dt.mpr ⟨G1++G2,by rw[bx],h,by rw[lC1,f],λx j=>?_⟩;rcases ay.mp j with z|z
 ·rw[z];have:=h2.on (n:=N) (G:=G2) ho
  rwa [bx,bx]at this
 ·exact b x z
theorem fH(ha:AK k r o T n a)(hn:n<=k)(hk:k<=1000):EK k r o T (dJ a):=λG d=>by
 rw[sf];refine(ha G d).mono ?_;rintro⟨l,S⟩ ⟨G1,c,h1,h2,b⟩;dsimp only at c h2 b ⊢;subst c;exact⟨dA (by lia),G1,O,h1,.tup (by lia) b⟩
theorem F9{k:Nat}{S:Sto}{L:List D}(h:∀x∈L,Ok k S x):D.unds S.length L=M:=by rw[mZ,br];exact λx a=>(h x a).u
theorem l8(a:ClT T){L:List D}(h:∀x∈L,Ok k (o::T) x):ClT (T++[.lst L]):=Bk a λx b=>by
 rw[cc.mp b,Ob.und];refine ia ?_ (F9 h);simp
theorem wu(ha:AK k r o T n a)(hn:n<=1000)(G:Sto)(e:ClT (T++G)):W (eG a r (o::(T++G))) λp=>∃b L,p=(.ref (T++(G++b)).length.succ,o::(T++(G++b)++[.lst L]))/\ClT (T++(G++b)++[.lst L])/\L.length=n /\ ∀x∈L,Ok k (o::(T++(G++b))) x:=by
 rw[BA];refine(ha G e).mono ?_;rintro⟨l,S⟩ ⟨G1,d,h1,h2,c⟩;dsimp only at d h2 c ⊢;subst d;exact⟨dA (by lia),G1,l,O,l8 h1 c,h2,c⟩
theorem ox(ho:Hnd o N)(ha:AK k r o T n a)(hn:n<=1000):EK k r o T (eG a):=λG b=>by
 refine(wu ha hn G b).mono ?_;rintro p ⟨G1,L,rfl,h1,h2,c⟩;refine⟨G1++[.lst L],by simp,by simpa using h1,.lst (xs:=L) ?_⟩;rw[cC,gC1,show T++(G++(G1++[Ob.lst L]))=(T++(G++G1))++[Ob.lst L] by simp,dz];rfl
theorem rP:EK k r o T ik:=λG a=>by
 refine W.of (x:=(.ref (T++G).length.succ,o::(T++G++[.dct []]))) O ⟨[.dct []],by simp,?_,.dct (xs:=[]) ?_⟩
 ·rw[<- bx];exact Bk a λx b=>by rw[cc.mp b];rfl
 ·rw[cC,gC1,<- bx,dz];rfl
theorem iX(ho:Hnd o N)(h:d.und 0=M)(hb:bd k d=M):EK k r o T (mC d):=d8 ho (λ_=>rfl) (.shut h hb)
end
theorem Bd{xs:List D}{lo hi:Option Int}:(∀x∈Mi.iI xs lo hi,x∈xs)/\(Mi.iI xs lo hi).length<=xs.length:=by
 unfold Mi.iI;refine⟨λx a=>ck (cj a),?_⟩;rw[aL,aP];lia
inductive Pk (k:Nat)(o:Ob)(T:Sto)(d:D)(n:Nat):Ev->Sto->Prop
 |mk (G:Sto) (L:List D) (p:Nat):(T++G)[p]?=some (.lst L)->L.length=n->ClT (T++G)->(∀x∈L,Ok k (o::(T++G)) x)->Pk k o T d n [some (.ref 0),some d,some (.ref (p+1))] (o::(T++G))
section
variable{k n m N:Nat}{r:Ev}{o:Ob}{T:Sto}{a:FA}{d:D}{S:Sto}
theorem zr{x2:Option D}(G:Sto)(b:ClT (T++G))(ho:Hnd o N)(ha:AK k [Z (.ref 0),Z d,x2] o T n a)(hn:n<=1000):W (dE (eG a) (gN 2) [Z (.ref 0),Z d,x2] (o::(T++G))) λp=>p.1 = .nx/\Pk k o T d n p.2.1 p.2.2:=by
 unfold dE;rw[dk];refine(wu ha hn G b).mono ?_;rintro p ⟨G1,L,rfl,h1,h2,c⟩;refine W.of O ⟨O,?_⟩;have e:T++(G++G1)++[Ob.lst L]=T++(G++(G1++[Ob.lst L])):=by simp
 dsimp only;show Pk k o T d n [Z (.ref 0),Z d,Z (.ref ((T++(G++G1)).length+1))] (o::(T++(G++G1)++[Ob.lst L]));rw[e]at h1 ⊢;refine .mk _ L _ ?_ h2 h1 λx f=>?_
 ·rw[<- e,dz];rfl
 ·have:=(c x f).on (n:=N) (G:=[Ob.lst L]) ho
  rwa [e]at this
theorem m7(ho:Hnd o N)(ha:∀x2,AK k [Z (.ref 0),Z d,x2] o T n a)(hn:n+m<=1000)(h:Pk k o T d m r S):W (dE (m2 (b2 ee) (mV 2) (eG a)) (gN 2) r S) λp=>p.1 = .nx/\Pk k o T d (m+n) p.2.1 p.2.2:=by
 obtain⟨G,L,p,h1,h2,j,l⟩:=h;have e:=(gE1.mp h1).1;unfold dE m2;rw[dk,dk];refine W.of (x:=(.ref (p+1),o::(T++G))) O ?_;rw[dk];refine(wu (ha _) (by lia) G j).mono ?_;rintro q ⟨G1,b,rfl,v,s,u⟩;dsimp only[b2];have g:T++(G++G1)++[Ob.lst b]=(T++G)++(G1++[Ob.lst b]):=by simp
 refine(BF (xs:=L) (ys:=b) ?_ ?_).mpr ⟨dA (by lia),?_⟩
 ·rw[gC1,g,gL1 e];exact h1
 ·rw[cC,gC1,dz];rfl
 refine W.of O ⟨O,?_⟩;have t:o::(T++(G++G1)++[Ob.lst b])++[Ob.lst (L++b)]=o::(T++(G++(G1++[Ob.lst b,Ob.lst (L++b)]))):=by simp
 have f:∀x∈L++b,Ok k (o::(T++(G++G1))) x:=λx c=>by
  rcases az.mp c with z|z
  ·have:=(l x z).on (n:=N) (G:=G1) ho
   rwa [bx]at this
  ·exact u x z
 have hc:ClT (T++(G++(G1++[Ob.lst b,Ob.lst (L++b)]))):=by
  have:=l8 (o:=o) v λx c=>(f x c).on (n:=N) (G:=[Ob.lst b]) ho;have i:T++(G++G1)++[Ob.lst b]++[Ob.lst (L++b)]=T++(G++(G1++[Ob.lst b,Ob.lst (L++b)])):=by simp
  rwa [i]at this
 show Pk k o T d (m+n) [Z (.ref 0),Z d,Z (.ref ((T++(G++G1)++[Ob.lst b]).length+1))] (o::(T++(G++G1)++[Ob.lst b])++[Ob.lst (L++b)]);rw[t];refine .mk _ (L++b) _ ?_ (by rw[lA1,h2,s]) hc λx c=>?_
 ·rw[show T++(G++(G1++[Ob.lst b,Ob.lst (L++b)]))=(T++(G++G1)++[Ob.lst b])++[Ob.lst (L++b)] by simp,dz];rfl
 ·have:=(f x c).on (n:=N) (G:=[Ob.lst b,Ob.lst (L++b)]) ho;simpa using this
theorem l9{e f:FE}{xs ys:List D}(ha:∀S,e r S=Z (.tup xs,S))(hb:∀S,f r S=Z (.tup ys,S))(a:xs.length+ys.length<=1000):∀S,m2 (b2 ee) e f r S=Z (.tup (xs++ys),S):=λS=>by
 unfold m2;rw[ha,oS1,hb,oS1];show(if xs.length+ys.length<=da then _ else _)=_;rw[ae (av a (by decide))]
theorem DP{xs:List D}{x2:Option D}(ho:Hnd o N)(hd:Ok m (o::T) (.tup xs)):EK k [Z (.ref 0),Z (.tup xs),x2] o T (mN (b1 rB) (di (mV 1) dj)):=λG a=>by
 refine W.of (x:=(.ref (T++G).length.succ,o::(T++G++[.lst xs]))) O ⟨[.lst xs],by simp,?_,.lst (xs:=xs) ?_⟩
 ·rw[<- bx];exact l8 (k:=m) (o:=o) a λx b=>(hd.of.2 x b).on (n:=N) ho
 ·rw[cC,gC1,<- bx,dz];rfl
theorem zU{xs ys:List D}(h:Ok m (o::T) (.tup xs))(hs:∀y∈ys,y∈xs)(b:ys.length<=k)(hk:m<=k):Ok k (o::T) (.tup ys):=.tup b λy a=>(h.of.2 y (hs y a)).more hk
theorem lS{xs ys:List D}(h:Ok k (o::T) (.tup xs))(h':Ok k (o::T) (.tup ys))(b:xs.length+ys.length<=k):Ok k (o::T) (.tup (xs++ys)):=.tup (by rw[lA1];exact b) λy a=>by
 rcases az.mp a with z|z
 ·exact h.of.2 y z
 ·exact h'.of.2 y z
end
theorem Jb{k m N:Nat}{o:Ob}{T:Sto}{d:D}{x2:Option D}(ho:Hnd o N)(hd:Ok k (o::T) d)(hk:1<=k)(b:k<=200):AK k [Z (.ref 0),Z d,x2] o T 18 (di (mC D.non) (di (mC (D.bl M)) (di (mC (D.bl J)) (di (m1 (b1 og) (mC (D.int (1)))) (di (mC (D.int (0))) (di (mC (D.int (1))) (di (mC (D.int (9))) (di (m2 (b2 oe) (mC (D.int (10))) (mC (D.int (30)))) (di (mC (D.str "")) (di (mC (D.str "colours")) (di (mC (D.str "alike")) (di (mC (D.str "0")) (di (dJ dj) (di (dJ (di (mC (D.int (0))) dj)) (di (eG dj) (di (eG (di (mC (D.int (0))) dj)) (di ik (di (dJ (di (mV 1) dj)) dj)))))))))))))))))):=by
 obtain⟨B,c⟩:=ID;have a:EK k [Z (.ref 0),Z d,x2] o T (mC (D.int 0)):=iX ho O (by rw[bd]);refine dm ho (iX ho O (by rw[bd])) (dm ho (iX ho O (by rw[bd])) (dm ho (iX ho O (by rw[bd])) (dm ho (d8 (d:=.int (-1)) ho (λ_=>rfl) (.shut O (by rw[bd]))) (dm ho a (dm ho (iX ho O (by rw[bd])) (dm ho (iX ho O (by rw[bd])) (dm ho (d8 (d:=.int B) ho (λS=>c S) (.shut O (by rw[bd]))) (dm ho (iX ho O (by rw[bd])) (dm ho (iX ho O (by rw[bd])) (dm ho (iX ho O (by rw[bd])) (dm ho (iX ho O (by rw[bd])) (dm ho (fH d3 (by lia) (by lia)) (dm ho (fH (dm ho a d3) (by lia) (by lia)) (dm ho (ox ho d3 (by lia)) (dm ho (ox ho (dm ho a d3) (by lia)) (dm ho rP (dm ho (fH (dm ho (d8 ho (λ_=>rfl) hd) d3) (by lia) (by lia)) d3)))))))))))))))))
section
variable{k N:Nat}{o:Ob}{T:Sto}{xs:List D}{x2:Option D}
theorem Ja(ho:Hnd o N)(hd:Ok k (o::T) (.tup xs))(hk:1<=k)(b:k<=50):AK (2*k+2) [Z (.ref 0),Z (.tup xs),x2] o T 5 (di (kr (mV 1) (ic (mC (D.int (1)))) ig) (di (kr (mV 1) ig (ic (m1 (b1 og) (mC (D.int (1)))))) (di (m2 (b2 ee) (mV 1) (kr (mV 1) (ic (m1 (b1 og) (mC (D.int (1))))) ig)) (di (Av (mV 1) (m1 (b1 og) (mC (D.int (1))))) (di (mN (b1 rB) (di (mV 1) dj)) dj))))):=by
 have h:=hd.of.1;have c:∀lo hi,Ok (2*k+2) (o::T) (.tup (Mi.iI xs lo hi)):=λlo hi=>by
  obtain⟨a,f⟩:=Bd (xs:=xs) (lo:=lo) (hi:=hi);exact zU hd a (by lia) (by lia)
 have g:(Mi.iI xs (Z (-1)) Y).length<=xs.length:=(Bd (xs:=xs)).2;refine dm ho (d8 ho (λ_=>rfl) (c (Z 1) Y)) (dm ho (d8 ho (λ_=>rfl) (c Y (Z (-1)))) (dm ho (d8 ho (l9 (xs:=xs) (ys:=Mi.iI xs (Z (-1)) Y) (λ_=>rfl) (λ_=>rfl) (by lia)) (lS (hd.more (by lia)) (c _ _) (by lia))) (dm ho (d8 (d:=.tup xs.reverse) ho (λ_=>rfl) (zU hd (λy e=>List.mem_reverse.mp e) (by rw[b0];lia) (by lia))) (dm ho (DP ho hd) d3))))
theorem uU{d:D}(h:d.und 0=M)(hb:bd (2*k+2) d=M):Ok (2*k+2) (o::T) (.tup [d]):=.tup (by simp) λy a=>by rw[cc.mp a];exact .shut h hb
theorem I9(ho:Hnd o N)(hd:Ok k (o::T) (.tup xs))(hk:1<=k)(b:k<=50):AK (2*k+2) [Z (.ref 0),Z (.tup xs),x2] o T 5 (di (m2 (b2 ee) (mV 1) (dJ (di (mC (D.int (0))) dj))) (di (m2 (b2 ee) (dJ (di (mC (D.int (0))) dj)) (mV 1)) (di (mC D.non) (di (m2 (b2 ee) (mV 1) (dJ (di (mC D.non) dj))) (di (mC (D.int (0))) dj))))):=by
 have d:=hd.of.1;have a:Ok (2*k+2) (o::T) (.tup [.int 0]):=uU O (by rw[bd]);have c:Ok (2*k+2) (o::T) (.tup [.non]):=uU O (by rw[bd]);refine dm ho (d8 ho (l9 (xs:=xs) (ys:=[.int 0]) (λ_=>rfl) (λ_=>rfl) (by simp;lia)) (lS (hd.more (by lia)) a (by simp;lia))) (dm ho (d8 ho (l9 (xs:=[.int 0]) (ys:=xs) (λ_=>rfl) (λ_=>rfl) (by simp;lia)) (lS a (hd.more (by lia)) (by simp;lia))) (dm ho (iX ho O (by rw[bd])) (dm ho (d8 ho (l9 (xs:=xs) (ys:=[.non]) (λ_=>rfl) (λ_=>rfl) (by simp;lia)) (lS (hd.more (by lia)) c (by simp;lia))) (dm ho (iX ho O (by rw[bd])) d3))))
theorem I7(ho:Hnd o N)(hd:Ok k (o::T) (.tup xs))(hk:1<=k)(c:k<=50):AK (2*k+2) [Z (.ref 0),Z (.tup xs),x2] o T 6 (di (mC (D.str "")) (di (dJ (di (mV 1) dj)) (di (m2 (b2 ee) (dJ (di (mC D.non) dj)) (mV 1)) (di (m2 (b2 ee) (mV 1) (mV 1)) (di (eG (di (mV 1) dj)) (di ik dj)))))):=by
 have d:=hd.of.1;have a:Ok (2*k+2) (o::T) (.tup xs):=hd.more (by lia);have b:EK (2*k+2) [Z (.ref 0),Z (.tup xs),x2] o T (mV 1):=d8 ho (λ_=>rfl) a;refine dm ho (iX ho O (by rw[bd])) (dm ho (fH (dm ho b d3) (by lia) (by lia)) (dm ho (d8 ho (l9 (xs:=[.non]) (ys:=xs) (λ_=>rfl) (λ_=>rfl) (by simp;lia)) (lS (uU O (by rw[bd])) a (by simp;lia))) (dm ho (d8 ho (l9 (xs:=xs) (ys:=xs) (λ_=>rfl) (λ_=>rfl) (by lia)) (lS a a (by lia))) (dm ho (ox ho (dm ho b d3) (by lia)) (dm ho rP d3)))))
theorem I1{i:Int}(ho:Hnd o N):AK (2*k+2) [Z (.ref 0),Z (.int i),x2] o T 3 (di (m2 (b2 gEq) (mV 1) (mC (D.int (1)))) (di (m2 (b2 ee) (mV 1) (mC (D.int (1)))) (di (m1 (b1 og) (mV 1)) dj))):=
 dm ho (d8 (d:=.bl (i == 1)) ho (λ_=>rfl) (.shut O (by rw[bd]))) (dm ho (d8 (d:=.int (i+1)) ho (λ_=>rfl) (.shut O (by rw[bd]))) (dm ho (d8 (d:=.int (-i)) ho (λ_=>rfl) (.shut O (by rw[bd]))) d3))
theorem I0{i:Int}(ho:Hnd o N)(hi:i.natAbs.log2<1920)(b:k<=50):AK (2*k+2) [Z (.ref 0),Z (.int i),x2] o T 2 (di (mN (b1 DB) (di (mV 1) dj)) (di (dJ (di (mV 1) (di (mV 1) dj))) dj)):=by
 have a:EK (2*k+2) [Z (.ref 0),Z (.int i),x2] o T (mV 1):=d8 ho (λ_=>rfl) (.shut O (by rw[bd]));refine dm ho (d8 (d:=.str (toString i)) ho (λS=>?_) (.shut O (by rw[bd]))) (dm ho (fH (dm ho a (dm ho a d3)) (by lia) (by lia)) d3);show(if i.natAbs.log2<1920 then _ else _)=_;rw[ae hi]
end
theorem n4{d:D}(h:EA d=M):∃xs,d = .tup xs:=by
 cases d with
 |tup xs=>exact⟨xs,O⟩
 |_=>cases h
def Lo(d:D):Prop:=∀i,d = .int i->i.natAbs.log2<1920
theorem vS{o:Ob}{n:Nat}{T:Sto}(ho:Hnd o n)(a:ClT T):iM (o::T):=by
 unfold iM;rw[bI,ho.und,lC1];exact a
theorem wg{o:Ob}{n k:Nat}{T:Sto}{d:D}{Q:D×Sto->Prop}(ho:Hnd o n)(hn:n<=2^40)(u:ClT T)(hd:Ok k (o::T) d)(s:Lo d)(hk:1<=k)(a:k<=50)(q:∀x o' G,Hnd o' (n+1)->ClT (T++G)->Ok (2*k+2) (o'::(T++G)) x->Q (x,o'::(T++G))):W (dn 2 fV [.ref 0,d] (o::T)) Q:=by
 refine Bm (k:=2*k+2) (n':=n+1) O O u ?_ q;unfold fV;refine jg ?_;unfold oH;refine dL (Pk (2*k+2) o T d 18) ?_ ?_
 ·have:=zr (k:=2*k+2) (x2:=Y) (d:=d) [] (by rw[aG];exact u) ho (Jb (m:=0) ho (hd.more (by lia)) (by lia) (by lia)) (by lia);rw[aG]at this;exact this
 rintro r S h;refine dL (λr S=>∃c,0<c/\c<=50/\Pk (2*k+2) o T d c r S) ?_ ?_
 ·obtain⟨G,L,p,h1,h2,b,f⟩:=h;have l:jz (o::(T++G)) .tuple d=Z (EA d):=nt (hd.on (n:=n) ho).v;cases ht:EA d with
  |false=>
   ((try walk_at"w");repeat(simp only[ff,l,ht];try walk_at"w"))
   exact⟨18,by lia,by lia,.mk G L p h1 h2 b f⟩
  |true=>
   obtain⟨xs,rfl⟩:=n4 ht;unfold eB;rw[dk];refine W.of (x:=(M,o::(T++G))) O ?_;dsimp only;rw[ae O];refine dL (Pk (2*k+2) o T (.tup xs) 5) (zr G b ho (Ja ho hd hk a) (by lia)) ?_;intro r S h;refine dL (Pk (2*k+2) o T (.tup xs) 10) (m7 ho (λ_=>I9 ho hd hk a) (by lia) h) ?_;intro r S h;refine(m7 ho (λ_=>I7 ho hd hk a) (by lia) h).mono ?_;rintro p ⟨y,w⟩;exact⟨y,16,by lia,by lia,w⟩
 rintro r S ⟨c,g,hc,h⟩;refine dL (λr S=>∃c,0<c/\c<=60/\Pk (2*k+2) o T d c r S) ?_ ?_
 ·obtain ⟨G,L,p,h1,h2,b,f⟩:=h;have l:=(hd.on (n:=n) (G:=G) ho).v;have j:W (mTr (mN (dn 1 dP) (di (mV 1) dj)) [some (.ref 0),some d,some (.ref (p+1))] (o::(T++G))) fun q=>q=(whD d,o::(T++G)):=by
   walk_at"w";refine gR (vS ho b) l ?_;walk_at"w"
  obtain⟨_,z,rfl⟩:=j;unfold eB;rw[dk];refine W.of z ?_;dsimp only;cases hw:whD d with
  |false=>
   rw[ab (by decide)];exact W.of O ⟨O,c,g,by lia,.mk G L p h1 h2 b f⟩
  |true=>
   obtain⟨i,rfl⟩:=r0 hw;rw[ae O];refine dL (Pk (2*k+2) o T (.int i) (c+3)) (m7 ho (λ_=>I1 ho) (by lia) (.mk G L p h1 h2 b f)) λr S h=>?_;exact(m7 ho (λ_=>I0 ho (s i O) a) (by lia) h).mono λp v=>⟨v.1,c+3+2,by lia,by lia,v.2⟩
 rintro r S ⟨c,g,hc,⟨G,L,p,h1,h2,b,f⟩⟩;unfold dX;rw[dk];refine FF (k:=2*k+2) ho hn h1 (by lia) (by lia) O O (λo' e x t=>?_) λx o' e t=>?_
 ·have:=(f x t).on (n:=n) (G:=[]) e
  rwa [aG]at this
 ·exact dt.mpr ⟨x,o',G,O,e,b,t⟩
def EU:Nat->D->Prop
 |0,d=>Lo d
 |n+1,d=>Lo d /\ ∀xs,d = .tup xs -> ∀x∈xs,EU n x
theorem EU.lo:∀{n:Nat} {d:D},EU n d->Lo d
 |0,_,h=>h
 |_+1,_,h=>h.1
theorem ot{xs:List D}{S:Sto}:gEq (.tup xs) (.tup []) S=Z (.bl xs.isEmpty,S):=by
 cases xs<;>rfl
theorem K8(xs:List D)(k:Nat):Mi.iI xs Y (Z (k:Int))=xs.take k:=by
 unfold Mi.iI;rw[HT.sH,HT.vW,List.drop_zero,Nat.sub_zero];by_cases h:k<=xs.length
 ·rw[bq h]
 ·rw[Nat.min_eq_right (by lia),bP,bZ (by lia)]
theorem K7(xs:List D)(k:Nat):Mi.iI xs (Z (k:Int)) Y=xs.drop k:=by
 unfold Mi.iI;rw[HT.sH,HT.vW];by_cases h:k<=xs.length
 ·rw[bq h,bZ (by simp)]
 ·rw[Nat.min_eq_right (by lia),List.drop_length,List.drop_of_length_le (by lia)];simp
theorem Ok.cast{k:Nat}{S a:Sto}{d:D}(h:Ok k S d)(e:S=a):Ok k a d:=e ▸ h
theorem Hv:∀ (b:Nat) {fuel n k:Nat} {o:Ob} {T:Sto} {d:D} {Q:D×Sto->Prop},b<fuel->Hnd o n->n+10*b<=2^39->ClT T->Ok k (o::T) d->EU b d->1<=k->k<=50 ->
  (∀x o' G,Hnd o' (n+10*(b+1))->ClT (T++G)->Ok (2*k+2) (o'::(T++G)) x->Q (x,o'::(T++G)))->W (dn 3 (fD fuel) [.ref 0,d,.int b] (o::T)) Q:=by
 intro b
 induction b with
 |zero=>
  intro fuel n k o T d Q N E L l t h w g q;obtain⟨f,rfl⟩:∃f,fuel=f+1:=⟨fuel-1,by lia⟩;refine Bm (k:=2*k+2) (n':=n+10*(0+1)) O O l ?_ q;rw[fD];refine jg ?_;unfold gC dw;rw[dk];walk_at"w";rw[ae (by decide)];refine wg E (by lia) l t h w g λx o' G e hc j=>?_;exact⟨x,o',G,O,e.more (by lia),hc,j⟩
 |succ b ih=>
  intro fuel n k o T d Q N E L l t h w g q;obtain⟨f,rfl⟩:∃f,fuel=f+1:=⟨fuel-1,by lia⟩;refine Bm (k:=2*k+2) (n':=n+10*(b+1+1)) O O l ?_ q;rw[fD];refine jg ?_;unfold gC;have I:=nt t.v;have v:decide (((b+1:Nat):Int)<1)=J:=aa (by lia);cases ht:EA d with
  |false=>
   unfold dw;rw[dk]
   ((try walk_at"w");repeat(simp only[ff,I,ht,v];try walk_at"w"))
   refine wg E (by lia) l t h.lo w g λx o' G e hc j=>?_;exact⟨x,o',G,O,e.more (by lia),hc,j⟩
  |true=>
   obtain⟨xs,rfl⟩:=n4 ht;obtain⟨aj,z⟩:=t.of;by_cases s:xs=[]
   ·subst s;unfold dw;rw[dk]
    ((try walk_at"w");repeat(simp only[ff,I,ht,v,ot];try walk_at"w"))
    simp only[List.isEmpty_nil]
    try walk_at"w"
    refine wg E (by lia) l t h.lo w g λx o' G e hc j=>?_;exact⟨x,o',G,O,e.more (by lia),hc,j⟩
   ·have C:xs.isEmpty=false:=by cases xs with
     |nil=>exact absurd O s
     |cons x xs=>rfl
    have K:0<xs.length:=List.length_pos_iff.mpr s;refine dL (λr V=>V=o::T/\r=[Z (.ref 0),Z (.tup xs),Z (.int ((b+1:Nat):Int)),Y,Y]) ?_ ?_
    ·((try walk_at"w");repeat(simp only[ff,I,ht,v,ot];try walk_at"w"))
     simp only[C]
     try walk_at"w"
     try exact⟨O,O⟩
    rintro r V ⟨rfl,rfl⟩;unfold dw;rw[dk];walk_at"w";refine f0 E (by lia) (by lia) (by lia) λc ah p hc=>?_;walk_at"w";have ag:Ok k (ah::T) (.tup xs):=(t.on (n:=n) (G:=[]) p).cast (by rw[aG]);by_cases A:((c:Int) == 0)=M
    ·rw[ae A];refine wg p (by lia) l ag h.lo w g λx o' G e hc j=>?_;exact⟨x,o',G,O,e.more (by lia),hc,j⟩
    ·rw[ab A];refine f0 p (by lia) (by lia) (by lia) λa P B R=>?_;have u:a<xs.length:=by lia
     walk_at"w";refine lG (i:=a) (x:=xs[a]) (gG1 u) ?_;walk_at"w";rw[show(((b+1:Nat):Int)-1)=(b:Int) by lia];refine ih (by lia) B (by lia) l ((((z _ (bL u)).on (n:=n) (G:=[]) B)).cast (by rw[aG])) (h.2 xs O _ (bL u)) w g λx H G F hc j=>?_
     try walk_at"w"
     refine W.of (x:=(.tup (Mi.iI xs Y (Z (a:Int))),H::(T++G))) O ?_;rw[K8];walk_at"w";rw[aL];refine⟨dA (by lia),?_⟩;refine W.of (x:=(.tup (Mi.iI xs (Z ((a:Int)+1)) Y),H::(T++G))) O ?_;rw[show((a:Int)+1)=((a+1:Nat):Int) by push_cast;rfl,K7];walk_at"w";refine⟨dA (by rw[aP];simp;lia),?_⟩;refine⟨_,H,G,O,F.more (by lia),hc,Ok.tup ?_ λy m=>?_⟩
     ·simp;lia
     ·have old:∀y∈xs,Ok (2*k+2) (H::(T++G)) y:=λy m=>((z y m).on (n:=n) F).more (by lia);simp only[bx,ba,cI,az,ay]at m;rcases m with m|rfl|m
      ·exact old y (cj m)
      ·exact j
      ·exact old y (ck m)
theorem Jp{S:Sto}{b:Bool}:jz S .bool (.bl b)=Z M:=rfl
theorem E6{xs:List D}{m:Nat}{S:Sto}{Q:D×Sto->Prop}(a:D.unds 0 xs=M)(h:xs.length=m)(q:Q (.bl M,S)):W (dn 2 d5 [.tup xs,.int m] S) Q:=by
 refine iJ O (by rw[D.unds,D.und,a];rfl) ?_;unfold d5;refine jg ?_;unfold iq
 ((try walk_at"w");repeat(simp only[ff,AO,fr];try walk_at"w"))
 rw[h];simp;exact⟨O,q⟩
theorem yH{i:Int}{S:Sto}{Q:D×Sto->Prop}(q:Q (.bl M,S)):W (dn 1 eU [.int i] S) Q:=by
 refine iJ O O ?_;unfold eU;refine jg ?_;unfold kA
 ((try walk_at"w");repeat(simp only[ff,AQ];try walk_at"w"))
 simp only[reduceCtorEq,decide_false,decide_true];walk_at"w";exact⟨O,q⟩
theorem xO{i:Int}{S:Sto}{Q:D×Sto->Prop}(q:Q (.bl M,S)):W (dn 1 dP [.int i] S) Q:=by
 refine iJ O O ?_;unfold dP;refine jg ?_;unfold i4
 ((try walk_at"w");repeat(simp only[ff,AQ];try walk_at"w"))
 simp only[reduceCtorEq,decide_false,decide_true];walk_at"w";exact⟨O,q⟩
theorem BE{n:Nat}{xs:List D}{S:Sto}{Q:D×Sto->Prop}(h:S[n]?=Z (.lst (xs.map λ_=>D.bl M)))(q:Q (.bl M,S)):W (rG (.ref n) S) Q:=by
 refine W.of ?_ q;unfold rG;rw[ga h,oS1];dsimp only;rw[oJ (f:=λ_=>M)];simp
theorem wD:∀ns:List Int,jA (ns.map D.int)=Z ns
 |[]=>rfl
 |n::ns=>by
  have:=wD ns;rw[mP1];simp only[jA,this];rfl
theorem nA{ns:List Int}{S:Sto}(a:ns.length<=100):gP (sgD ns) S=Z (.ref S.length,S++[.iset (ddI ns)]):=by
 unfold gP;rw[jO];dsimp only;rw[wD,oS1,ae (by unfold scanBound;lia)]
theorem KY{m n:Nat}{w:dr}{b a:List Int}{S:Sto}(hm:m<=8)(h:S[n]?=Z (.lst ((Z7 m).map λr=>li (lJ w b a r)))):jD (.ref n) S=Z (.int ((ddK ((Z7 m).map λr=>mR (lJ w b a r))).length:Nat),S):=by
 unfold jD;rw[ga h];dsimp only;rw[wB,oS1,ae (by rw[lM1,ci];lia)]
theorem Dt{m:Nat}{w:dr}{b a:List Int}{S:Sto}{Q:D×Sto->Prop}(hw:WebJ m w)(hm:m<=8)(hs:b.length=m)(ht:a.length=m)(q:Q (.bl (tf (Eb m w b a)),S)):W (dn 3 d7 [webD w,sgD b,sgD a] S) Q:=by
 refine iJ O (by rw[D.unds,D.unds,D.unds,d6,g6,g6];rfl) ?_;unfold d7;refine jg ?_;unfold hR;refine dL (λr V=>∃G,V=G/\r=[Z (webD w),Z (sgD b),Z (sgD a)]) ?_ ?_
 ·have c:dN (webD w) []=Z (.int (m:Nat),[]):=by rw[webD,fr,lM1,hw.len]
  ((try walk_at"w");repeat(simp only[c];try walk_at"w"))
  refine E6 (eI λ_ _=>rfl) (by rw[lM1];exact ht) ?_;walk_at"w";rw[kq];refine jZ (f:=D.int) (λ_=>D.bl M) (λr=>∃x,r=[x]) O a _ ⟨_,O⟩ ?_ ?_
  ·rintro i hi r ⟨x,rfl⟩;walk_at"w";refine yH ?_;exact⟨O,O,_,O⟩
  ·rintro t _;refine⟨dA (by rw[lM1];lia),?_⟩;refine BE (xs:=a.map D.int) (by rw[bm];rfl) ?_;walk_at"w";exact⟨_,O,trivial⟩
 rintro r V ⟨G,rfl,rfl⟩;have n:=AF hw hm hs ht;walk_at"w";refine EL O (by rw[D.unds,D.unds,D.unds,d6,g6,g6];rfl) ?_;refine n.mono ?_;rintro⟨d,V⟩ ⟨k,h1,h2,l⟩;refine⟨k,_,h1,h2,l,λG j o s p=>?_⟩;have e:=KY hm o
 ((try walk_at"w");repeat(simp only[e];try walk_at"w"))
 rw[nA (by lia),dt];dsimp only;refine si (by rw[dz];rfl) ?_;walk_at"w";refine⟨O,?_⟩;have g:((((ddK ((Z7 m).map λr=>mR (lJ w b a r))).length:Nat):Int) == (((ddI a).length:Nat):Int))=tf (Eb m w b a):=xk (by
  rw[beq_iff_eq,<- DO,Ce ht];exact⟨λh=>by exact_mod_cast h,λh=>by rw[h]⟩)
 rw[g];exact q
theorem EQ{a b:FE}{r:Ev}{S:Sto}{Q:D×Sto->Prop}:W (Ax a b r S) Q↔W (a r S) λp=>W (qf p.2 p.1) λk=>if k=M then Q p else W (b r p.2) Q:=by
 unfold Ax;rw[dk];simp only[dk,pY,dt]
theorem zp_map:∀a b:List (Nat×Nat),ux (a.map pD) (b.map pD)=(a.zip b).map λp=>.tup [pD p.1,pD p.2]
 |[],_=>rfl
 |_::_,[]=>rfl
 |x::a,y::b=>by
  have:=zp_map a b;show D.tup [pD x,pD y]::ux (a.map pD) (b.map pD)=_;rw[this];rfl
theorem JX{α:Type}{n:Nat}{xs:List α}{f:α->Bool}{S:Sto}{Q:D×Sto->Prop}(h:S[n]?=Z (.lst (xs.map λx=>D.bl (f x))))(q:Q (.bl (xs.any f),S)):W (DM (.ref n) S) Q:=by
 refine W.of ?_ q;unfold DM;rw[ga h,oS1];have:∀l:List α,Mi.Bt (l.map λx=>D.bl (f x))=Z (l.any f):=λl=>by
  induction l with
  |nil=>rfl
  |cons x l ih=>rw[mP1,Mi.Bt,ih];rfl
 dsimp only;rw[this];rfl
theorem mz{m r:Nat}{a:List Int}{S:Sto}(b:a.length=m)(hr:r<m):dv (sgD a) (.int r) S=Z (.int (gh a r),S):=by
 obtain⟨p,e,rfl⟩:=By (Q:=λp=>p=(.int (gh a r),S)) b hr O;exact e
theorem jy{i:Nat}{xs:List D}{x:D}{S:Sto}(hx:xs[i]?=Z x):dv (.tup xs) (.int i) S=Z (x,S):=by
 obtain⟨p,e,rfl⟩:=lG (Q:=λp=>p=(x,S)) hx O;exact e
theorem zw{m:Nat}{w:dr}(hw:WebJ m w){r d:Nat}{e:Nat×Nat}(he:(fg w r)[d]?=Z e):e.1<m:=by
 unfold fg at he;cases hr:w[r]? with
 |none=>rw[hr]at he;simp at he
 |some a=>rw[hr]at he;exact hw.to r d e ⟨a,hr,he⟩
theorem Ci{m:Nat}{w:dr}(hw:WebJ m w)(r:Nat):(fg w r).length<=4:=by
 unfold fg;cases h:w[r]? with
 |none=>simp
 |some a=>exact hw.le r a h
theorem Ez{m r k:Nat}{a:List Int}{S:Sto}(b:a.length=m)(hr:r<m)(hk:S[k]?=Z (.lst (a.map D.int))):dv (.ref k) (.int r) S=Z (.int (gh a r),S):=by
 obtain⟨p,e,rfl⟩:=iL (i:=r) (x:=.int (gh a r)) (Q:=λp=>p=(.int (gh a r),S)) hk (by rw[gP1,gG1 (by lia)];unfold gh;rw[bC,gG1 (by lia)];rfl) O;exact e
def El(w:dr)(ts:List Int)(i b:Nat):Prop:=∀p∈(fg w i).zip (fg w b),gh ts p.1.1=gh ts p.2.1/\p.1.2=p.2.2
theorem m9{w:dr}{e d:List Int}{i b:Nat}:lJ w e d i=lJ w e d b↔gh d i=gh d b/\gh e i=gh e b/\(fg w i).length=(fg w b).length/\El w d i b:=by
 have f:∀a c:List (Nat×Nat),a.map (BJ d)=c.map (BJ d)↔a.length=c.length /\ ∀p∈a.zip c,gh d p.1.1=gh d p.2.1/\p.1.2=p.2.2:=λa=>by
  induction a with
  |nil=>intro c;cases c<;>simp
  |cons x a ih=>
   intro c;cases c with
   |nil=>simp
   |cons y c=>
    rw[mP1,mP1,List.cons.injEq,ih c,bM,lC1,lC1];unfold BJ;rw[Prod.mk.injEq];constructor
    ·rintro⟨⟨h1,h2⟩,j,h⟩;refine⟨by lia,λp g=>?_⟩;rcases ay.mp g with z|z
     ·subst z;exact⟨h1,h2⟩
     ·exact h p z
    ·rintro⟨h1,h2⟩;exact⟨h2 (x,y) mS1,by lia,λp g=>h2 p (mC1 _ g)⟩
 unfold lJ El;rw[Prod.mk.injEq,Prod.mk.injEq,f]
abbrev EE(w:dr)(k:Nat)(ts:List Int)(x3 x4 x5 x6:Option D):Ev:=[Z (webD w),Z (.ref k),Z (sgD ts),x3,x4,x5,x6]
theorem Hc{m k i j:Nat}{w:dr}{d c:List Int}{S:Sto}(hw:WebJ m w)(hs:d.length=m)(ht:c.length=m)(hi:i<m)(v:j<m)(hk:S[k]? = some (.lst (d.map D.int))):
  W (io (EE w k c (Z (.int (i:Nat))) (Z (.tup ((fg w i).map pD))) (Z (.int (j:Nat))) (Z (.tup ((fg w j).map pD)))) S) λp=>(∃G,p.2.2=S++G)/\((p.1 = .nx/\(gh c i=gh c j->lJ w d c i=lJ w d c j)/\p.2.1=EE w k c (Z (.int (i:Nat))) (Z (.tup ((fg w i).map pD))) (Z (.int (j:Nat))) (Z (.tup ((fg w j).map pD))))\/(p.1 = .rt (.bl J) /\ ¬ (gh c i=gh c j->lJ w d c i=lJ w d c j))):=by
 have I:=(gE1.mp hk).1;unfold io;have t:=mz (S:=S) ht hi;have u:=mz (S:=S) ht v;have F:=Ez (S:=S) hs hi hk;have H:=Ez (S:=S) hs v hk;by_cases e:gh c i=gh c j
 ·((try walk_at"w");repeat(simp only[t,u];try walk_at"w"))
  rw[ae (by simp[e])];simp only[lM1];by_cases s:(fg w i).length=(fg w j).length
  ·rw[ab (by simp[s])];simp only[F,H,dt];walk_at"w";by_cases n:gh d i=gh d j
   ·rw[ab (by simp[n])];refine JS (xs:=(fg w i).map pD) (ys:=(fg w j).map pD) O ?_;rw[zp_map];refine jZ (f:=λp:(Nat×Nat)×(Nat×Nat)=>D.tup [pD p.1,pD p.2]) (λp=>D.bl (!(gh c p.1.1 == gh c p.2.1&&p.1.2 == p.2.2))) (λr=>∃x y,r=[x,y,Z (sgD c)]) O _ _ ⟨_,_,O⟩ ?_ ?_
    ·rintro⟨a,b⟩ g r ⟨x,y,rfl⟩;obtain⟨ag,C⟩:=aI g;obtain⟨N,o⟩:=bi ag;obtain⟨ah,q⟩:=bi C;have E:=mz (S:=S) ht (zw hw o);have K:=mz (S:=S) ht (zw hw q);have A:∀(p:Nat×Nat) (S:Sto),dv (pD p) (.int 0) S=Z (.int (p.1:Nat),S):=λp S=>jy (i:=0) O;have B:∀(p:Nat×Nat) (S:Sto),dv (pD p) (.int 1) S=Z (.int (p.2:Nat),S):=λp S=>jy (i:=1) O;walk_at"w";refine EQ.mpr ?_;walk_at"w";simp only[A,B,E,K,dt];walk_at"w";by_cases h1:gh c a.1=gh c b.1
     ·rw[ab (by simp[h1])];refine⟨?_,_,_,O⟩;rw[h1,beq_self_eq_true,cX]
      congr 2
      rw[bJ,beq_iff_eq,beq_iff_eq];lia
     ·rw[ae (by simpa using h1)];refine⟨?_,_,_,O⟩;rw[beq_eq_false_iff_ne.mpr h1];rfl
    ·rintro L _;refine⟨dA (by rw[lM1,List.length_zip];have:=Ci hw i;lia),?_⟩;refine JX (xs:=(fg w i).zip (fg w j)) (by rw[dz];rfl) ?_;walk_at"w";by_cases l:El w c i j
     ·rw [if_neg (by
       rw[bK];rintro⟨p,g,h⟩;obtain⟨h1,h2⟩:=l p g;simp[h1,h2]at h)]
      exact⟨⟨_,O⟩,.inl ⟨λ_=>m9.mpr ⟨e,n,s,l⟩,trivial⟩⟩
     ·rw [if_pos (by
       rw[bK];refine Classical.byContradiction λz=>l λp g=>?_;have:=λh=>z ⟨p,g,h⟩;simpa using this)]
      exact⟨⟨_,O⟩,.inr λz=>l (m9.mp (z e)).2.2.2⟩
   ·rw[ae (by simpa using n)];exact⟨⟨[],(aG _).symm⟩,.inr λz=>n (m9.mp (z e)).2.1⟩
  ·rw[ae (by simp;lia)];exact⟨⟨[],(aG _).symm⟩,.inr λz=>s (m9.mp (z e)).2.2.1⟩
 ·((try walk_at"w");repeat(simp only[t,u];try walk_at"w"))
  rw[ab (by simpa using e)];exact⟨⟨[],(aG _).symm⟩,.inl ⟨λz=>absurd z e,trivial⟩⟩
theorem Ej{m i:Nat}{w:dr}{d:D}(hw:WebJ m w)(h:(sv 0 (w.map λb=>D.tup (b.map pD)))[i]?=Z d):i<m/\d = .tup [.int (i:Nat),.tup ((fg w i).map pD)]:=by
 rw[fO,gP1]at h;obtain⟨z,c,rfl⟩:=oM1.mp h;obtain⟨b,a,rfl⟩:=oM1.mp c;refine⟨by rw[<- hw.len];exact(gE1.mp a).1,?_⟩;rw[qm a,bH]
abbrev J3(m:Nat)(w:dr)(sg ts:List Int)(i:Nat):Prop:=∀b,b<m->gh ts i=gh ts b->lJ w sg ts i=lJ w sg ts b
theorem Hb{m k i:Nat}{w:dr}{c a:List Int}{S:Sto}{x5 x6:Option D}(hw:WebJ m w)(hs:c.length=m)(ht:a.length=m)(hi:i<m)(hk:S[k]? = some (.lst (c.map D.int))):
  W (gt (EE w k a (Z (.int (i:Nat))) (Z (.tup ((fg w i).map pD))) x5 x6) S) λp=>(∃G,p.2.2=S++G)/\((p.1 = .nx/\J3 m w c a i /\ ∃x5 x6,p.2.1=EE w k a (Z (.int (i:Nat))) (Z (.tup ((fg w i).map pD))) x5 x6)\/(p.1 = .rt (.bl J) /\ ¬ Eb m w c a)):=by
 have g:=(gE1.mp hk).1;unfold gt eR;rw[dk];refine oK (xs:=w.map λl=>.tup (l.map pD)) O ?_;refine lh (λj r V=>(∃G,V=S++G)/\(∀b,b<j->gh a i=gh a b->lJ w c a i=lJ w c a b) /\ ∃x5 x6,r=EE w k a (Z (.int (i:Nat))) (Z (.tup ((fg w i).map pD))) x5 x6) _ 0 _ _ ⟨⟨[],(aG _).symm⟩,(λb h=>absurd h (bo _)),_,_,O⟩ (λ_ _ _ _=>rfl) ?_ ?_
 ·rintro j d q r V ⟨⟨G,rfl⟩,f,x5,x6,rfl⟩;obtain⟨o,rfl⟩:=Ej hw q;rw[bH]at *
  walk_at"w";refine(Hc hw hs ht hi o (by rw[gL1 g];exact hk)).mono ?_;rintro⟨t,r,V⟩ ⟨⟨n,e⟩,h⟩;dsimp only at e h ⊢;subst e;rcases h with⟨rfl,h1,rfl⟩|⟨rfl,h1⟩
  ·refine .inl ⟨O,⟨G++n,bx ..⟩,λb s=>?_,_,_,O⟩;rcases cT.mp s with z|rfl
   ·exact f b z
   ·exact h1
  ·exact .inr ⟨_,O,⟨G++n,bx ..⟩,.inr ⟨O,λz=>h1 (z i j hi o)⟩⟩
 ·rintro r V ⟨⟨G,rfl⟩,f,x5,x6,rfl⟩;rw[fN,lM1,bH,hw.len]at f;exact⟨⟨G,O⟩,.inl ⟨O,f,_,_,O⟩⟩
theorem Ha{m k:Nat}{w:dr}{f c:List Int}{S:Sto}{x3 x4 x5 x6:Option D}(hw:WebJ m w)(hs:f.length=m)(ht:c.length=m)(hk:S[k]? = some (.lst (f.map D.int))):
  W (eR (oa (di (mV 0) dj)) (gT 2 (fu (gN 3) (fu (gN 4) jf))) gt (EE w k c x3 x4 x5 x6) S) λp=>(∃G,p.2.2=S++G)/\((p.1 = .nx/\Eb m w f c)\/(p.1 = .rt (.bl J) /\ ¬ Eb m w f c)):=by
 have j:=(gE1.mp hk).1;unfold eR;rw[dk];refine oK (xs:=w.map λl=>.tup (l.map pD)) O ?_;refine lh (λi r V=>(∃G,V=S++G)/\(∀a,a<i->J3 m w f c a) /\ ∃x3 x4 x5 x6,r=EE w k c x3 x4 x5 x6) _ 0 _ _ ⟨⟨[],(aG _).symm⟩,(λb h=>absurd h (bo _)),_,_,_,_,O⟩ (λ_ _ _ _=>rfl) ?_ ?_
 ·rintro i d q r V ⟨⟨G,rfl⟩,g,x3,x4,x5,x6,rfl⟩;obtain⟨hi,rfl⟩:=Ej hw q;rw[bH]at *
  walk_at"w";refine(Hb hw hs ht hi (by rw[gL1 j];exact hk)).mono ?_;rintro⟨t,r,V⟩ ⟨⟨o,e⟩,h⟩;dsimp only at e h ⊢;subst e;rcases h with⟨rfl,h1,x5,x6,rfl⟩|⟨rfl,h1⟩
  ·refine .inl ⟨O,⟨G++o,bx ..⟩,λb n=>?_,_,_,_,_,O⟩;rcases cT.mp n with z|rfl
   ·exact g b z
   ·exact h1
  ·exact .inr ⟨_,O,⟨G++o,bx ..⟩,.inr ⟨O,h1⟩⟩
 ·rintro r V ⟨⟨G,rfl⟩,g,x3,x4,x5,x6,rfl⟩;rw[fN,lM1,bH,hw.len]at g;exact⟨⟨G,O⟩,.inl ⟨O,λa b s n=>g a s b n⟩⟩
theorem G9{m k:Nat}{w:dr}{c a:List Int}{S:Sto}{Q:D×Sto->Prop}(hw:WebJ m w)(hm:m<=8)(hs:c.length=m)(ht:a.length=m)(o:S.all (Ob.und S.length)=M)(hk:S[k]? = Z (.lst (c.map D.int)))(q:Q (.bl (tf (Eb m w c a)),S)):W (dn 3 et [webD w,.ref k,sgD a] S) Q:=by
 have j:W (et [webD w,.ref k,sgD a] S) λp=>(∃G,p.2=S++G)/\p.1 = .bl (tf (Eb m w c a)):=by
  have g:=(gE1.mp hk).1;unfold et;refine jg ?_;unfold jI;refine dL (λr V=>(∃G,V=S++G)/\r=EE w k a Y Y Y Y) ?_ ?_
  ·have n:dN (webD w) S=Z (.int (m:Nat),S):=by rw[webD,fr,lM1,hw.len]
   ((try walk_at"w");repeat(simp only[ff,AO,n];try walk_at"w"))
   simp only[lM1,ht,decide_true,bU,beq_self_eq_true,if_false,bF1]
   try rw[kq]
   refine jZ (f:=D.int) (λ_=>D.bl M) (λr=>∃x,r=[x]) O a _ ⟨_,O⟩ ?_ ?_
   ·rintro i hi r ⟨x,rfl⟩;walk_at"w";refine xO ?_;exact⟨O,O,_,O⟩
   ·rintro s _;refine⟨dA (by rw[lM1];lia),?_⟩;refine BE (xs:=a.map D.int) (by rw[dz,bm];rfl) ?_;walk_at"w";exact⟨⟨_,O⟩,trivial⟩
  rintro r V ⟨⟨G,rfl⟩,rfl⟩;obtain⟨⟨t,r,U⟩,e,⟨l,b⟩,h⟩:=Ha (k:=k) (S:=S++G) (x3:=Y) (x4:=Y) (x5:=Y) (x6:=Y) hw hs ht (by rw[gL1 g];exact hk);dsimp only at b h;unfold dw;rw[e,oS1];subst b;rcases h with⟨rfl,h⟩|⟨rfl,h⟩
  ·rw[oP h];exact W.of O ⟨⟨G++l,bx ..⟩,O⟩
  ·rw[uI h];exact W.of O ⟨⟨G++l,bx ..⟩,O⟩
 refine oC O (by rw[D.unds,d6];rfl) (j.mono ?_);rintro⟨d,V⟩ ⟨⟨G,e⟩,b⟩;dsimp only at e b;subst e;subst b;rw[rz O o];exact q
theorem ED{c:FT}{k:FS}{r:Ev}{T:Sto}{b:Bool}{Q:Fl×Ev×Sto->Prop}(hc:W (c r T) λp=>(∃G,p.2=T++G)/\p.1 = !b)(f:b=J -> ∀G,Q (.rt (.bl J),r,T++G))(h1:b=M -> ∀G,W (k r (T++G)) Q):W (dw (eB c (dX (mC (D.bl J))) je) k r T) Q:=by
 obtain⟨⟨h,g⟩,e,⟨G,a⟩,d⟩:=hc;dsimp only at a d;subst a;subst d;unfold dw eB;rw[e,oS1];cases b with
 |false=>exact dt.mpr (f O G)
 |true=>exact h1 O G
def Lx:D->Int
 | .int i=>i
 |_=>0
def tl(n:Nat):D->Bool
 | .tup xs=>decide (xs.length=n)
 |_=>J
def fm(m:Nat):D->Bool
 | .tup xs=>decide (xs.length=m)&&xs.all whD
 |_=>J
def tsD:D->List Int
 | .tup xs=>xs.map Lx
 |_=>[]
theorem pK{m:Nat}{d:D}(h:fm m d=M):d=sgD (tsD d)/\(tsD d).length=m:=by
 cases d with
 |tup xs=>
  rw[fm,bA1,af,br]at h;refine⟨?_,by rw[tsD,lM1];exact h.1⟩;rw[tsD,sgD,bm];have:xs.map (D.int∘Lx)=xs.map id:=cB λx a=>by
   have:=h.2 x a;cases x with
   |int i=>rfl
   |_=>cases this
  rw[this,List.map_id]
 |_=>cases h
theorem y2{d:D}{n:Nat}{S:Sto}{Q:D×Sto->Prop}(c:iM S)(hv:vd S d=M)(q:Q (.bl (tl n d),S)):W (dn 2 d5 [d,.int n] S) Q:=by
 refine ly O c (by rw[fG,hv,fG,fG];rfl) λT e a=>?_;have b:=nt (iN a mS1);unfold d5;refine jg ?_;unfold iq;cases hi:EA d with
 |false=>
  ((try walk_at"w");repeat(simp only[ff,b,hi];try walk_at"w"))
  have:tl n d=J:=by cases d with
   |tup xs=>cases hi
   |_=>rfl
  rw[this]at q;exact⟨⟨[],(aG _).symm⟩,O,q⟩
 |true=>
  obtain⟨xs,rfl⟩:=n4 hi
  ((try walk_at"w");repeat(simp only[ff,b,hi,fr];try walk_at"w"))
  have:((xs.length:Int) == (n:Int))=tl n (.tup xs):=by
   rw[tl,bJ,beq_iff_eq,af];lia
  rw[this];exact⟨⟨[],(aG _).symm⟩,O,q⟩
theorem HC{n:Nat}{S:Sto}{xs:List D}{f:D->Bool}{Q:D×Sto->Prop}(h:S[n]?=Z (.lst (xs.map λx=>.bl (f x))))(q:Q (.bl (xs.all f),S)):W (rG (.ref n) S) Q:=by
 refine W.of ?_ q;unfold rG;rw[ga h,oS1];dsimp only;rw[oJ (f:=f)];simp
theorem BC{a:FE}{b:FA}{r:Ev}{S:Sto}{Q:List D×Sto->Prop}(h:W (a r S) λp=>W (b r p.2) λq=>Q (p.1::q.1,q.2)):W (di a b r S) Q:=by
 unfold di;rw[dk];simp only[dk,dt];exact h
theorem JQ{f:G1}{a:FE}{r:Ev}{S:Sto}{Q:D×Sto->Prop}(h:W (a r S) λp=>W (f p.1 p.2) Q):W (mN (b1 f) (di a dj) r S) Q:=by
 unfold mN;rw[dk];exact BC (h.mono λp b=>W.of O b)
theorem Bu{g:FN}{r:Ev}{T:Sto}{xs:List D}(h2:r[2]?=Z (Z (.tup xs)))(d:xs.length<=1000)(hg:∀x∈xs,W (dn 1 g [x] T) λp=>p=(.bl (whD x),T)):W (mTr (mN (b1 rG) (di (eF 1 [] (gJ (mV 2)) (gN 0) fj (ea (mN (dn 1 g) (di (mV 0) dj)))) dj)) r T) λp=>p=(xs.all whD,T++[.lst (xs.map λx=>.bl (whD x))]):=by
 have b:∀S,mV 2 r S=Z (.tup xs,S):=λS=>by unfold mV;rw[h2]
 unfold mTr;rw[dk];refine JQ ?_;rw[lH,ma,b,dt];dsimp only;rw[kq];dsimp only;rw[show lZ 1 [] r=[Y]from rfl];refine(λh=>by rwa [List.map_id]at h:∀{Q},W (gg [] (gN 0) fj (ea (mN (dn 1 g) (di (mV 0) dj))) (xs.map id) [Y] T) Q->W (gg [] (gN 0) fj (ea (mN (dn 1 g) (di (mV 0) dj))) xs [Y] T) Q) ?_;refine jZ (f:=id) (λx=>D.bl (whD x)) (λr=>∃x,r=[x]) O xs _ ⟨_,O⟩ ?_ ?_
 ·rintro x a r ⟨y,rfl⟩;walk_at"w";refine(hg x a).mono ?_;rintro p rfl;exact⟨O,O,_,O⟩
 ·rintro c _;refine⟨dA (by rw[lM1];lia),?_⟩;refine HC (xs:=xs) (f:=whD) (by rw[dz];rfl) ?_;exact W.of O O
theorem fT{S:Sto}{xs:List D}(h:vd S (.tup xs)=M):∀x∈xs,vd S x=M:=λx a=>by
 rw[vd]at h;exact iN h a
theorem yI{m:Nat}{w:dr}(hw:WebJ m w)(hm:m<=8):bd 8 (webD w)=M:=by
 rw[webD,bd,iZ,bA1,af,lM1,hw.len,br];refine⟨hm,λx c=>?_⟩;obtain⟨a,d,rfl⟩:=b6.mp c;obtain⟨i,hi⟩:=bi d;rw[bd,iZ,bA1,af,lM1,br];refine⟨by have:=hw.le i a hi;lia,λy b=>?_⟩;obtain⟨e,_,rfl⟩:=b6.mp b;rfl
theorem Dw{k:Nat}{zs:List Int}(h:zs.length<=k):bd k (sgD zs)=M:=by
 rw[bd,iZ,bA1,af,lM1,br];refine⟨h,λy a=>?_⟩;obtain⟨e,_,rfl⟩:=b6.mp a;rw[bd]
theorem p0{m:Nat}{w:dr}(hw:WebJ m w)(hm:m<=8)(S:Sto):vd S (webD w)=M:=sB (yI hw hm) (d6 w)
theorem Im(zs:List Int)(S:Sto):vd S (sgD zs)=M:=sB (Dw (nR1 _)) (g6 zs)
def jh(m:Nat)(w:dr)(sg:List Int)(d:D):Bool:=fm m d&&tf (Eb m w sg (tsD d))
theorem tL{m:Nat}{w:dr}{c:List Int}{d:D}{S:Sto}{Q:D×Sto->Prop}(hw:WebJ m w)(hm:m<=8)(hs:c.length=m)(l:iM S)(hv:vd S d=M)(f:∀xs,d = .tup xs->xs.length<=1000)(q:Q (.bl (jh m w c d),S)):W (dn 3 d7 [webD w,sgD c,d] S) Q:=by
 unfold jh at q;cases hf:fm m d with
 |true=>
  obtain⟨e,f⟩:=pK hf;rw[hf,cX]at q;rw[e];exact Dt hw hm hs f q
 |false=>
  rw[hf,aE]at q;refine ly O l (by rw[fG,fG,fG,fG,hv,p0 hw hm,Im];rfl) λT j i=>?_;have a:vd T d=M:=iN i (by simp);unfold d7;refine jg ?_;unfold hR;refine ED (b:=J) ?_ (λ_ G=>⟨⟨G,O⟩,O,q⟩) (λh=>by cases h);have k:dN (webD w) T=Z (.int (m:Nat),T):=by rw[webD,fr,lM1,hw.len]
  unfold mOr;rw[dk];have h1:W (gz (mTr (mN (dn 2 d5) (di (mV 2) (di (mN (b1 dN) (di (mV 0) dj)) dj)))) (e6 3 [webD w,sgD c,d]) T) λp=>p=(!tl m d,T):=by
   ((try walk_at"w");repeat(simp only[k];try walk_at"w"))
   refine y2 j a ?_;walk_at"w"
  refine h1.mono ?_;rintro p rfl;dsimp only;cases ht:tl m d with
  |false=>exact W.of O ⟨⟨[],(aG _).symm⟩,O⟩
  |true=>
   cases d with
   |tup xs=>
    rw[fm,show decide (xs.length=m)=M from ht,cX]at hf;have h2:=Bu (g:=eU) (r:=e6 3 [webD w,sgD c,.tup xs]) (T:=T) (xs:=xs) O (f xs O) λx o=>vH j (fT a x o) O;obtain⟨_,n,rfl⟩:=h2;unfold gz;rw[show(if(!true)=M then _ else _)=_ from ab (by decide)];rw[n,hf];exact W.of O ⟨⟨_,O⟩,O⟩
   |_=>cases ht
theorem DN{m k:Nat}{w:dr}{l:List Int}{d:D}{S:Sto}{Q:D×Sto->Prop}(hw:WebJ m w)(hm:m<=8)(hs:l.length=m)(f:iM S)(hk:S[k]?=Z (.lst (l.map D.int)))(hv:vd S d=M)(i:∀xs,d = .tup xs->xs.length<=1000)(q:Q (.bl (jh m w l d),S)):W (dn 3 et [webD w,.ref k,d] S) Q:=by
 unfold jh at q;cases hf:fm m d with
 |true=>
  obtain⟨e,i⟩:=pK hf;rw[hf,cX]at q;rw[e];exact G9 hw hm hs i f hk q
 |false =>
  rw[hf,aE]at q;have j:W (et [webD w,.ref k,d] S) λp=>(∃G,p.2=S++G)/\p.1 = .bl J:=by
   unfold et;refine jg ?_;unfold jI;refine ED (b:=J) ?_ (λ_ G=>⟨⟨G,O⟩,O⟩) (λh=>by cases h);have n:dN (webD w) S=Z (.int (m:Nat),S):=by rw[webD,fr,lM1,hw.len]
   have u:=nt hv;cases hi:EA d with
   |false=>
    ((try walk_at"w");repeat(simp only[ff,u,hi];try walk_at"w"))
    exact⟨⟨[],(aG _).symm⟩,by first|trivial|rfl⟩
   |true=>
    obtain⟨xs,rfl⟩:=n4 hi;by_cases a:xs.length=m
    ·rw [fm,decide_eq_true a,cX] at hf;have h2:=Bu (g:=dP) (r:=e6 7 [webD w,.ref k,.tup xs]) (T:=S) (xs:=xs) rfl (i xs rfl) fun x B=>gR f (fT hv x B) rfl;obtain ⟨_,A,rfl⟩:=h2;have y:W (mOr (mB (m2 (b2 gNe) (mN (b1 dN) (di (mV 2) dj)) (mN (b1 dN) (di (mV 0) dj)))) (gz (mTr (mN (b1 rG) (di (eF 1 [] (gJ (mV 2)) (gN 0) fj (ea (mN (dn 1 dP) (di (mV 0) dj)))) dj)))) (e6 7 [webD w,.ref k,.tup xs]) S) fun p=>(∃ G,p.2=S++G)/\p.1=true:=by
      unfold mOr;rw[dk];refine W.of (x:=(J,S)) ?_ ?_
      ·have:mB (m2 (b2 gNe) (mN (b1 dN) (di (mV 2) dj)) (mN (b1 dN) (di (mV 0) dj))) (e6 7 [webD w,.ref k,.tup xs]) S=some (!((xs.length:Int) == (m:Int)),S):=by
        have v:mN (b1 dN) (di (mV 0) dj) (e6 7 [webD w,.ref k,.tup xs]) S=Z (.int (m:Nat),S):=by
         show(dN (webD w) S)=_;exact n
        have c:mN (b1 dN) (di (mV 2) dj) (e6 7 [webD w,.ref k,.tup xs]) S=Z (.int (xs.length:Nat),S):=rfl;unfold mB m2;rw[c,oS1];dsimp only;rw[v,oS1];rfl
       rw[this,a,beq_self_eq_true];rfl
      ·dsimp only;rw[ab (by decide)];unfold gz;rw[A,hf];exact W.of O ⟨⟨_,O⟩,O⟩
     obtain⟨⟨b3,C⟩,c,⟨G3,t⟩,s⟩:=y;dsimp only at t s;subst t;subst s;unfold mOr at c ⊢;have z:gz (mTr (iE .tuple (mV 2))) (e6 7 [webD w,.ref k,.tup xs]) S=Z (J,S):=rfl;rw[z,oS1];dsimp only;rw[ab (by decide)];exact W.of c ⟨⟨G3,O⟩,O⟩
    ·((try walk_at"w");repeat(simp only[ff,u,hi,n,fr];try walk_at"w"))
     have:((xs.length:Int) == (m:Int))=J:=by simp;lia
     rw[this]
     try walk_at"w"
     exact⟨⟨[],(aG _).symm⟩,by first|trivial|rfl⟩
  refine oC O (by rw[D.unds,d6];rfl) (j.mono ?_);rintro⟨E,V⟩ ⟨⟨G,e⟩,o⟩;dsimp only at e o;subst e;subst o;rw[rz O f];exact q
def Kk:D->Bool
 | .str _=>M
 |_=>J
theorem yT{S:Sto}{d:D}(h:vd S d=M):jz S .str d=Z (Kk d):=by
 cases d with
 |ref n=>
  rw[vd]at h;rw[jz];split at h<;>first|(rename_i e;rw[e];rfl)|rfl|cases h
 |fn x=>simp[vd]at h
 |_=>rfl
def su(x:Str)(n:Nat):D->Bool
 | .tup (.str y::ds)=>decide (ds.length+1=n)&&(y == x)
 |_=>J
theorem nb{x:Str}{d:D}{n:Nat}{S:Sto}{Q:D×Sto->Prop}(hn:0<n)(f:iM S)(hv:vd S d=M)(q:Q (.bl (su x n d),S)):W (dn 3 fX [d,.str x,.int n] S) Q:=by
 refine ly O f (by rw[fG,hv,fG,fG,fG];rfl) λT g b=>?_;have a:vd T d=M:=iN b mS1;unfold fX;refine jg ?_;unfold mJ;walk_at"w";refine y2 g a ?_;cases ht:tl n d with
 |false=>
  walk_at"w";have:su x n d=J:=by
   cases d with
   |tup xs=>
    cases xs with
    |nil=>rfl
    |cons y ys=>
     cases y with
     |str s=>
      rw[su];rw[tl,lC1]at ht;rw[ht];rfl
     |_=>rfl
   |_=>rfl
  rw[this]at q;exact⟨⟨[],(aG _).symm⟩,O,q⟩
 |true=>
  cases d with
  |tup xs=>
   rw[tl,af]at ht;cases xs with
   |nil=>simp at ht;lia
   |cons y ys=>
    have c:∀S,dv (.tup (y::ys)) (.int 0) S=Z (y,S):=λS=>jy (i:=0) O;have e:=yT (fT a y mS1);cases hs:Kk y with
    |false=>
     ((try walk_at"w");repeat(simp only[ff,c,e,hs];try walk_at"w"))
     have:su x n (.tup (y::ys))=J:=by
      cases y with
      |str s=>cases hs
      |_=>rfl
     rw[this]at q;exact⟨⟨[],(aG _).symm⟩,O,q⟩
    |true=>
     cases y with
     |str s=>
      ((try walk_at"w");repeat(simp only[ff,c,e,hs];try walk_at"w"))
      have:su x n (.tup (.str s::ys))=(s == x):=by rw[su,Z9 (by rw[lC1]at ht;exact ht),cX]
      rw[this]at q;exact⟨⟨[],(aG _).symm⟩,O,q⟩
     |_=>cases hs
  |_=>cases ht
theorem HV{a:List Int}{S:Sto}{Q:D×Sto->Prop}(e:a.length<=100)(q:Q (.bl (!decide ((ddI a).length<a.length)),S)):W (dn 1 eE [sgD a] S) Q:=by
 refine iJ O (by rw[D.unds,g6];rfl) ?_;unfold eE;refine jg ?_;unfold i3;have c:=nA (ns:=a) (S:=[]) e
 ((try walk_at"w");repeat(simp only[c];try walk_at"w"))
 refine si O ?_;walk_at"w";rw[lM1];refine⟨O,?_⟩;have b:=(rQ a [] bh).1;have d:((((ddI a).length:Nat):Int) == ((a.length:Nat):Int)) = !decide ((ddI a).length<a.length):=by
  have:(ddI a).length<=a.length:=by simpa[ddI]using b
  rw[bJ];simp;lia
 rw[d];exact q
def vC(m:Nat)(w:dr)(ws cs:List Nat)(c:D):Bool:=jh m w (sgL m ws cs M) c&&decide ((ddI (tsD c)).length<m)
def mO(n:Nat):D->D->Bool
 | .int i,.int j=>decide (0<=i)&&(decide (i<j)&&decide (j<n))
 |_,_=>J
def Ke(ws:List Nat):D->Nat
 | .int i=>ws.getD i.toNat 0
 |_=>0
def vA(m:Nat)(w:dr)(ws cs:List Nat)(i j c:D):Bool:=mO ws.length i j&&(jh m w (sgL m ws cs J) c&&gh (tsD c) (Ke ws i) == gh (tsD c) (Ke ws j))
def vP(m:Nat)(w:dr)(ws cs:List Nat)(b:Bool):D->Bool
 | .tup [.str x,c]=>(x == "colours")&&vC m w ws cs c
 | .tup [.str x,i,j,c]=>(x == "alike")&&(b&&vA m w ws cs i j c)
 |_=>J
theorem w8{rs:List Nat}{i:Nat}{S:Sto}(hi:i<rs.length):dv (.tup (nmD rs)) (.int i) S=Z (.int (rs.getD i 0:Nat),S):=by
 obtain⟨p,e,rfl⟩:=BD (rs:=rs) (Q:=λp=>p=(.int (rs.getD i 0:Nat),S)) hi O;exact e
theorem Ad{k:Nat}{rs:List Nat}(h:rs.length<=k):bd k (.tup (nmD rs))=M:=by
 rw[bd,iZ,bA1,af,d4,br];refine⟨h,λy a=>?_⟩;obtain⟨e,_,rfl⟩:=b6.mp a;rw[bd]
theorem Er(rs:List Nat)(S:Sto):vd S (.tup (nmD rs))=M:=sB (Ad (nR1 _)) (by rw[D.und];exact fq _)
theorem zj(ws cs:List Nat)(S:Sto):vd S (stD ws cs)=M:=by
 unfold stD;rw[vd,fG,fG,fG,Er,Er];rfl
def Sh(d:D):Prop:=∀xs,d = .tup xs->xs.length<=1000 /\ ∀x∈xs,∀ys,x = .tup ys->ys.length<=1000
theorem xu{m:Nat}{w:dr}{ws cs:List Nat}{x:Str}{i j c:D}{S:Sto}{Q:D×Sto->Prop}(hw:WebJ m w)(o:0<m)(hm:m<=8)(s:∀x∈ws,x<m)(H:iM S)(hi:vd S i=M)(ag:vd S j=M)(hc:vd S c=M)(I:∀xs,c = .tup xs->xs.length<=1000)(q:Q (.bl (vA m w ws cs i j c),S)):W (dn 3 fL [webD w,stD ws cs,.tup [.str x,i,j,c]] S) Q:=by
 have K:vd S (.tup [.str x,i,j,c])=M:=by rw[vd,fG,fG,fG,fG,fG,hi,ag,hc];rfl
 refine ly O H (by rw[fG,fG,fG,fG,p0 hw hm,zj,K];rfl) λT k v=>?_;have e:vd T (.tup [.str x,i,j,c])=M:=iN v (by simp);have t:=fT e i (by simp);have g:=fT e j (by simp);have A:=fT e c (by simp);unfold fL;refine jg ?_;unfold kg;refine dL (λr V=>V=T/\r=[Z (webD w),Z (stD ws cs),Z (.tup [.str x,i,j,c]),Z (.tup (nmD ws)),Z (.tup (nmD cs)),Y,Y,Y,Y]) ?_ ?_
 ·unfold stD;walk_at"w"
 rintro r V ⟨rfl,rfl⟩;refine dL (λr U=>U=V/\r=[Z (webD w),Z (stD ws cs),Z (.tup [.str x,i,j,c]),Z (.tup (nmD ws)),Z (.tup (nmD cs)),Z (.str x),Z i,Z j,Z c]) ?_ ?_
 ·walk_at"w"
 rintro r U ⟨rfl,rfl⟩;unfold vA at q;have p:∀b:Bool,b=J->Q (.bl (b&&(jh m w (sgL m ws cs J) c&&gh (tsD c) (Ke ws i) == gh (tsD c) (Ke ws j))),S)->Q (.bl J,S):=λb G h=>by rw[G]at h;exact h
 cases hbj:lA ws.length j with
 |false=>
  have h2:mO ws.length i j=J:=by
   cases i with
   |int a=>
    cases j with
    |int b=>
     rw[lA,Bool.and_eq_false_iff,decide_eq_false_iff_not,decide_eq_false_iff_not]at hbj;rw[mO];by_cases u:0<=a
     ·by_cases h1:a<b
      ·rw[aa (show¬ b<(ws.length:Int) by lia),bT,bT]
      ·rw[aa h1,aE,bT]
     ·rw[aa u,aE]
    |_=>rfl
   |_=>rfl
  unfold dw;rw[dk];walk_at"w";rw[d4];refine lz k g ?_;rw[hbj];walk_at"w";exact⟨⟨[],(aG _).symm⟩,O,p _ h2 q⟩
 |true=>
  cases j with
  |int C=>
   rw[lA,bA1,af,af]at hbj;obtain⟨d,rfl⟩:∃n:Nat,C=n:=⟨C.toNat,by lia⟩;have y:d<ws.length:=by lia
   cases hbi:lA d i with
   |false=>
    have h2:mO ws.length i (.int (d:Nat))=J:=by
     cases i with
     |int a=>
      rw[lA,Bool.and_eq_false_iff,decide_eq_false_iff_not,decide_eq_false_iff_not]at hbi;rw[mO];by_cases u:0<=a
      ·rw[aa (show¬ a<(d:Int) by lia),aE,bT]
      ·rw[aa u,aE]
     |_=>rfl
    unfold dw;rw[dk];walk_at"w";rw[d4];refine lz k g ?_;rw[show lA ws.length (.int (d:Nat))=M by rw[lA,Z9 hbj.1,Z9 hbj.2];rfl];walk_at"w";refine lz k t ?_;rw[hbi];walk_at"w";exact⟨⟨[],(aG _).symm⟩,O,p _ h2 q⟩
   |true=>
    cases i with
    |int E=>
     rw[lA,bA1,af,af]at hbi;obtain⟨l,rfl⟩:∃n:Nat,E=n:=⟨E.toNat,by lia⟩;have z:l<ws.length:=by lia
     have h2:mO ws.length (.int (l:Nat)) (.int (d:Nat))=M:=by rw[mO,Z9 hbi.1,Z9 hbi.2,Z9 hbj.2];rfl
     rw[h2,cX]at q;refine dL (λr V=>V=U/\r=[Z (webD w),Z (stD ws cs),Z (.tup [.str x,.int (l:Nat),.int (d:Nat),c]),Z (.tup (nmD ws)),Z (.tup (nmD cs)),Z (.str x),Z (.int (l:Nat)),Z (.int (d:Nat)),Z c]) ?_ ?_
     ·walk_at"w";rw[d4];refine lz k g ?_;rw[show lA ws.length (.int (d:Nat))=M by rw[lA,Z9 hbj.1,Z9 hbj.2];rfl];walk_at"w";refine lz k t ?_;rw[show lA d (.int (l:Nat))=M by rw[lA,Z9 hbi.1,Z9 hbi.2];rfl];walk_at"w"
     rintro r V ⟨rfl,rfl⟩;walk_at"w";refine rT (ws:=ws) hw hm ?_;refine tL hw hm kO k A I ?_;cases hf:jh m w (sgL m ws cs J) c with
     |false=>
      rw[hf]at q;walk_at"w";exact⟨⟨[],(aG _).symm⟩,O,q⟩
     |true=>
      rw[hf,cX]at q;have B:fm m c=M:=by unfold jh at hf;rw[bA1]at hf;exact hf.1
      obtain⟨F,f⟩:=pK B;generalize tsD c=ts at F f q;subst F;have a1:=w8 (S:=V) z;have a2:=w8 (S:=V) y;have b1:=mz (S:=V) f (jV (i:=l) o s);have b2:=mz (S:=V) f (jV (i:=d) o s)
      ((try walk_at"w");repeat(simp only[a1,a2,b1,b2];try walk_at"w"))
      exact⟨⟨[],(aG _).symm⟩,O,q⟩
    |_=>cases hbi
  |_=>cases hbj
theorem wG{x:Str}{n:Nat}{d:D}(h:su x n d=M):∃ds,d = .tup (.str x::ds)/\ds.length+1=n:=by
 cases d with
 |tup xs=>
  cases xs with
  |nil=>cases h
  |cons y ys=>
   cases y with
   |str s=>
    rw[su,bA1,af,beq_iff_eq]at h;exact⟨ys,by rw[h.2],h.1⟩
   |_=>cases h
 |_=>cases h
theorem Jl{α:Type}{l:List α}(h:l.length+1=2):∃a,l=[a]:=by
 match l,h with
 |[a],_=>exact⟨a,O⟩
theorem Jk{α:Type}{l:List α}(h:l.length+1=4):∃a b c,l=[a,b,c]:=by
 match l,h with
 |[a,b,c],_=>exact⟨a,b,c,O⟩
theorem yP {m:Nat}{w:dr}{ws cs:List Nat}{b:Bool}{d:D}(h1:su "colours" 2 d=J)(h2:(b&&su "alike" 4 d)=J):vP m w ws cs b d=J:=by
 unfold vP;split
 ·rename_i x c;have:(x == "colours")=J:=by simpa[su]using h1
  rw[this];rfl
 ·rename_i x i j c;cases b with
  |false=>rw[aE,bT]
  |true=>
   have:(x == "alike")=J:=by simpa[su]using h2
   rw[this];rfl
 ·rfl
theorem zo{m:Nat}{w:dr}{ws cs:List Nat}{b:Bool}{d:D}{S:Sto}{Q:D×Sto->Prop}(hw:WebJ m w)(l:0<m)(hm:m<=8)(s:∀x∈ws,x<m)(v:iM S)(hv:vd S d=M)(k:Sh d)(q:Q (.bl (vP m w ws cs b d),S)):W (dn 4 fK [webD w,stD ws cs,.bl b,d] S) Q:=by
 refine ly O v (by rw[fG,fG,fG,fG,fG,p0 hw hm,zj,hv];rfl) λT g p=>?_;have a:vd T d=M:=iN p (by simp);unfold fK;refine jg ?_;unfold kf;cases h1:su "colours" 2 d with
 |true=>
  obtain⟨ds,rfl,n⟩:=wG h1;obtain⟨c,rfl⟩:=Jl n;have t:∀S,dv (.tup [.str "colours",c]) (.int 1) S=Z (c,S):=λS=>jy (i:=1) O;unfold dw;rw[dk];walk_at"w";refine nb (by decide) g a ?_;rw[h1];walk_at"w";refine Bv hw hm ?_
  ((try walk_at"w");repeat(simp only[t];try walk_at"w"))
  refine tL hw hm kO g (fT a c (by simp)) (λxs e=>(k _ O).2 c (by simp) xs e) ?_;have f:Q (.bl (jh m w (sgL m ws cs M) c&&decide ((ddI (tsD c)).length<m)),S):=q;cases hf:jh m w (sgL m ws cs M) c with
  |false=>
   rw[hf]at f;walk_at"w";exact⟨⟨[],(aG _).symm⟩,O,f⟩
  |true=>
   rw[hf,cX]at f;have o:fm m c=M:=by unfold jh at hf;rw[bA1]at hf;exact hf.1
   obtain⟨u,h⟩:=pK o;generalize tsD c=ts at u h f;subst u
   ((try walk_at"w");repeat(simp only[t];try walk_at"w"))
   refine HV (by lia) ?_;walk_at"w";rw[h];refine⟨⟨[],(aG _).symm⟩,O,?_⟩;simpa using f
 |false=>
  refine dL (λr V=>V=T/\r=[Z (webD w),Z (stD ws cs),Z (.bl b),Z d]) ?_ ?_
  ·walk_at"w";refine nb (by decide) g a ?_;rw[h1];walk_at"w"
  rintro r V ⟨rfl,rfl⟩;cases b with
  |false=>
   rw[yP h1 O]at q;walk_at"w";exact⟨⟨[],(aG _).symm⟩,O,q⟩
  |true=>
   cases h2:su "alike" 4 d with
   |false=>
    rw[yP h1 (by rw[h2];rfl)]at q;walk_at"w";refine nb (by decide) g a ?_;rw[h2];walk_at"w";exact⟨⟨[],(aG _).symm⟩,O,q⟩
   |true=>
    obtain⟨ds,rfl,n⟩:=wG h2;obtain⟨i,j,c,rfl⟩:=Jk n;have f:Q (.bl (vA m w ws cs i j c),S):=q;walk_at"w";refine nb (by decide) g a ?_;rw[h2];walk_at"w";refine xu hw l hm s g (fT a i (by simp)) (fT a j (by simp)) (fT a c (by simp)) (λxs e=>(k _ O).2 c (by simp) xs e) ?_;exact⟨⟨[],(aG _).symm⟩,O,f⟩
theorem AB{m:Nat}{w:dr}{ws cs:List Nat}{b:Bool}{S:Sto}{Q:D×Sto->Prop}(hw:WebJ m w)(hm:m<=8)(q:Q (.ref S.length,S++[.lst ((sgL m ws cs b).map D.int)])):W (dn 3 fc [webD w,stD ws cs,.bl b] S) Q:=by
 refine JI O (by rw[D.unds,d6,D.unds,nw];rfl) ((AA hw hm).mono ?_);rintro p rfl;exact⟨_,O,eI λ_ _=>rfl,q⟩
theorem Il{T:Sto}{zs:List Int}(h:iM T):iM (T++[.lst (zs.map D.int)]):=by
 unfold iM at *
 rw[cD,bA1];refine⟨br.mpr λo a=>fI (by simp) (br.mp h o a),?_⟩;have:(Ob.lst (zs.map D.int)).und 0=M:=eI λ_ _=>rfl;rw[bI,fI (a0 _) this];rfl
theorem E1{T G:Sto}{d:D}(h:vd T d=M):vd (T++G) d=M:=qa (λn a=>by
 rw[vd]at a ⊢;cases e:T[n]? with
 |none=>rw[e]at a;cases a
 |some x=>rw[gL1 (gE1.mp e).1,e];rw[e]at a;exact a) h
theorem BZ{m:Nat}{w:dr}{ws cs:List Nat}{b:Bool}{y:D}{ys:List D}(h:Kk y=J):vP m w ws cs b (.tup (y::ys))=J:=by
 unfold vP;split
 ·rename_i e;cases e;cases h
 ·rename_i e;cases e;cases h
 ·rfl
theorem u9{m:Nat}{w:dr}{ws cs:List Nat}{b:Bool}{c:D}{T:Sto}{Q:D×Sto->Prop}(hw:WebJ m w)(hm:m<=8)(a:iM T)(hc:vd T c=M)(d:∀xs,c = .tup xs->xs.length<=1000)(q:Q (.bl (jh m w (sgL m ws cs b) c),T++[.lst ((sgL m ws cs b).map D.int)])):W (dn 3 et [webD w,.ref T.length,c] (T++[.lst ((sgL m ws cs b).map D.int)])) Q:=
 DN hw hm kO (Il a) (by rw[dz];rfl) (E1 hc) d q
theorem Hk{r:Ev}{S:Sto}{d eb c:FE}{a b n:Int}(ha:d r S=Z (.int a,S))(hb:eb r S=Z (.int b,S))(hc:c r S=Z (.int n,S)):mB (xN (b2 (iV λi j=>decide (i<=j))) (b2 gLt) (b2 gLt) (mC (D.int (0))) d eb c) r S=Z (decide (0<=a)&&(decide (a<b)&&decide (b<n)),S):=by
 have h1:b2 (iV λi j=>decide (i<=j)) [D.int 0,D.int a] S=Z (.bl (decide (0<=a)),S):=rfl;have h2:b2 gLt [D.int a,D.int b] S=Z (.bl (decide (a<b)),S):=rfl;have f:b2 gLt [D.int b,D.int n] S=Z (.bl (decide (b<n)),S):=rfl;have e:mC (D.int 0) r S=Z (.int 0,S):=rfl;unfold mB xN;simp only[e,ha,hb,hc,h1,h2,f,oS1];cases decide (0<=a)with
 |false=>rfl
 |true=>
  simp only[if_true,oS1];cases decide (a<b)with
  |false=>rfl
  |true=>rfl
theorem He{m:Nat}{w:dr}{ws cs:List Nat}{b:Bool}{d:D}{S:Sto}{Q:D×Sto->Prop}(hw:WebJ m w)(H:0<m)(hm:m<=8)(K:∀x∈ws,x<m)(hS:iM S)(hv:vd S d=M)(P:Sh d)(q:Q (.bl (vP m w ws cs b d),S)):W (dn 4 hH [webD w,stD ws cs,.bl b,d] S) Q:=by
 refine ly O hS (by rw[fG,fG,fG,fG,fG,p0 hw hm,zj,hv];rfl) λT p aj=>?_;have k:vd T d=M:=iN aj (by simp);unfold hH;refine jg ?_;unfold oI;have L:=nt k;have nil:(∃G,T=T++G):=⟨[],(aG _).symm⟩;have wq:∀S,dN (webD w) S=Z (.int (m:Nat),S):=λS=>by rw[webD,fr,lM1,hw.len]
 cases hi:EA d with
 |false=>
  have:vP m w ws cs b d=J:=by cases d with
   |tup xs=>cases hi
   |_=>rfl
  rw[this]at q;unfold dw;rw[dk]
  ((try walk_at"w");repeat(simp only[ff,L,hi];try walk_at"w"))
  exact⟨nil,O,q⟩
 |true =>
  obtain⟨xs,rfl⟩:=n4 hi;cases xs with
  |nil=>
   unfold dw;rw[dk]
   ((try walk_at"w");repeat(simp only[ff,L,hi,ot];try walk_at"w"))
   simp only[List.isEmpty_nil]
   try walk_at"w"
   exact⟨nil,O,q⟩
  |cons y ys=>
   have F:∀S,dv (.tup (y::ys)) (.int 0) S=Z (y,S):=λS=>jy (i:=0) O;have X:=yT (fT k y mS1);cases hs:Kk y with
   |false=>
    rw[BZ hs]at q;unfold dw;rw[dk]
    ((try walk_at"w");repeat(simp only[ff,L,hi,ot,F];try walk_at"w"))
    rw[ab (by simp),X,hs,dt,ae (by decide)];exact⟨nil,O,q⟩
   |true =>
    cases y with
    |str s =>
     refine dL (λr V=>V=T/\r=[Z (webD w),Z (stD ws cs),Z (.bl b),Z (.tup (.str s::ys)),Y]) ?_ ?_
     ·((try walk_at"w");repeat(simp only[ff,L,hi,ot,F];try walk_at"w"))
      rw[ab (by simp),X,hs,dt,ab (by decide)]
      all_goals first|exact⟨rfl,rfl,rfl⟩|exact⟨rfl,rfl⟩|trivial
     rintro r V ⟨rfl,rfl⟩;have sh:=P _ O;have el:∀S,dN (.tup (D.str s::ys)) S=Z (.int (ys.length+1:Nat),S):=λS=>by rw[fr,lC1]
     by_cases h:su "colours" 2 (.tup (.str s::ys))=M
     ·obtain⟨ds,e,R⟩:=wG h;cases e;obtain⟨c,rfl⟩:=Jl R;have u:∀S,dv (.tup [.str "colours",c]) (.int 1) S=Z (c,S):=λS=>jy (i:=1) O;have f:Q (.bl (jh m w (sgL m ws cs M) c&&decide ((ddI (tsD c)).length<m)),S):=q;unfold dw;rw[dk]
      ((try walk_at"w");repeat(simp only[F];try walk_at"w"))
      refine AB hw hm ?_
      ((try walk_at"w");repeat(simp only[u];try walk_at"w"))
      refine u9 hw hm p (fT k c (by simp)) (λxs e=>sh.2 c (by simp) xs e) ?_;cases hf:jh m w (sgL m ws cs M) c with
      |false=>
       rw[hf]at f;walk_at"w";exact⟨⟨_,O⟩,O,f⟩
      |true=>
       rw[hf,cX]at f;have z:fm m c=M:=by unfold jh at hf;rw[bA1]at hf;exact hf.1
       obtain⟨E,l⟩:=pK z;generalize tsD c=ts at E l f;subst E
       ((try walk_at"w");repeat(simp only[u];try walk_at"w"))
       rw[nA (by lia),dt];dsimp only;refine si (by rw[dz];rfl) ?_
       ((try walk_at"w");repeat(simp only[wq];try walk_at"w"))
       have:decide ((((ddI ts).length:Nat):Int)<(m:Int))=decide ((ddI ts).length<m):=by rw[bJ];simp
       rw[this];exact⟨⟨_,O⟩,O,f⟩
     ·rw [cu] at h;have t:((s == "colours")&&(((ys.length+1:Nat):Int) == 2))=false:=by
       rw[su]at h;rw[Bool.and_comm]at h;have:decide (ys.length+1=2)=(((ys.length+1:Nat):Int) == 2):=by rw[bJ,af,beq_iff_eq];lia
       rwa [this]at h
      refine dL (λr U=>U=V/\r=[Z (webD w),Z (stD ws cs),Z (.bl b),Z (.tup (.str s::ys)),Y]) ?_ ?_
      ·((try walk_at"w");repeat(simp only[F];try walk_at"w"))
       cases h1:(s == "colours")with
       |false=>
        rw[ab (by decide)]
        all_goals first|exact⟨rfl,rfl,rfl⟩|exact⟨rfl,rfl⟩|trivial
       |true=>
        rw[h1,cX]at t;rw[ae O,t,ab (by decide)]
        all_goals first|exact⟨rfl,rfl,rfl⟩|exact⟨rfl,rfl⟩|trivial
      rintro r U ⟨rfl,rfl⟩;cases g:(b&&su "alike" 4 (.tup (.str s::ys)))with
      |false=>
       rw[yP h g]at q;have v:((s == "alike")&&((((ys.length+1:Nat):Int) == 4)&&b))=J:=by
        rw[su]at g;have:decide (ys.length+1=4)=(((ys.length+1:Nat):Int) == 4):=by rw[bJ,af,beq_iff_eq];lia
        rw[this]at g;rw[<- g];cases(s == "alike")<;>cases(((ys.length+1:Nat):Int) == 4)<;>cases b<;>rfl
       unfold dw;rw[dk]
       ((try walk_at"w");repeat(simp only[F];try walk_at"w"))
       cases h1:(s == "alike")with
       |false=>
        rw[ae (by decide)];exact⟨nil,O,q⟩
       |true=>
        rw[ab (by decide)];cases h2:(((ys.length+1:Nat):Int) == 4)with
        |false=>
         rw[ae (by decide)];exact⟨nil,O,q⟩
        |true=>
         rw[ab (by decide)];rw[h1,h2,cX,cX]at v;rw[v,ae (by decide)];exact⟨nil,O,q⟩
      |true=>
       rw[bA1]at g;obtain⟨rfl,g⟩:=g;obtain⟨ds,e,R⟩:=wG g;cases e;obtain⟨i,j,c,rfl⟩:=Jk R;have f:Q (.bl (vA m w ws cs i j c),S):=q;have u:∀S,dv (.tup [.str "alike",i,j,c]) (.int 1) S=Z (i,S):=λS=>jy (i:=1) O;have ah:∀S,dv (.tup [.str "alike",i,j,c]) (.int 2) S=Z (j,S):=λS=>jy (i:=2) O;have N:∀S,dv (.tup [.str "alike",i,j,c]) (.int 3) S=Z (c,S):=λS=>jy (i:=3) O;refine dL (λr V=>V=U/\r=[Z (webD w),Z (stD ws cs),Z (.bl M),Z (.tup [.str "alike",i,j,c]),Y]) ?_ ?_
       ·((try walk_at"w");repeat(simp only[F];try walk_at"w"))
        all_goals first|exact⟨rfl,rfl,rfl⟩|exact⟨rfl,rfl⟩|trivial
       rintro r V ⟨rfl,rfl⟩;have A:=fT k i (by simp);have ag:=fT k j (by simp);have I:=fT k c (by simp);unfold vA at f;cases hwi:whD i with
       |false=>
        have h2:mO ws.length i j=J:=by cases i with
         |int a=>cases hwi
         |_=>rfl
        rw[h2,aE]at f;unfold dw;rw[dk]
        ((try walk_at"w");repeat(simp only[u];try walk_at"w"))
        refine gR p A ?_;rw[hwi];walk_at"w";exact⟨nil,O,f⟩
       |true=>
        obtain⟨a,rfl⟩:=r0 hwi;cases hwj:whD j with
        |false=>
         have h2:mO ws.length (.int a) j=J:=by cases j with
          |int b=>cases hwj
          |_=>rfl
         rw[h2,aE]at f;unfold dw;rw[dk]
         ((try walk_at"w");repeat(simp only[u];try walk_at"w"))
         refine gR p A ?_
         ((try walk_at"w");repeat(simp only[ah];try walk_at"w"))
         refine gR p ag ?_;rw[hwj];walk_at"w";exact⟨nil,O,f⟩
        |true=>
         obtain⟨b,rfl⟩:=r0 hwj;refine dL (λr U=>U=V/\r=[Z (webD w),Z (stD ws cs),Z (.bl M),Z (.tup [.str "alike",.int a,.int b,c]),Y]) ?_ ?_
         ·((try walk_at"w");repeat(simp only[u];try walk_at"w"))
          refine gR p A ?_
          ((try walk_at"w");repeat(simp only[ah];try walk_at"w"))
          refine gR p ag ?_;walk_at"w"
          all_goals first|exact⟨rfl,rfl,rfl⟩|exact⟨rfl,rfl⟩|trivial
         rintro r U ⟨rfl,rfl⟩;have o:mB (xN (b2 (iV λi j=>decide (i<=j))) (b2 gLt) (b2 gLt) (mC (D.int (0))) (m2 (b2 dv) (mV 3) (mC (D.int (1)))) (m2 (b2 dv) (mV 3) (mC (D.int (2)))) (mN (b1 dN) (di (m2 (b2 dv) (mV 1) (mC (D.int (0)))) dj))) [Z (webD w),Z (stD ws cs),Z (.bl M),Z (.tup [.str "alike",.int a,.int b,c]),Y] U=Z (mO ws.length (.int a) (.int b),U):=by
          refine Hk (u U) (ah U) ?_;have:dN (.tup (nmD ws)) U=Z (.int (ws.length:Nat),U):=by rw[fr,d4]
          exact this
         cases h2:mO ws.length (.int a) (.int b)with
         |false=>
          rw[h2,aE]at f;rw[h2]at o;unfold dw eB gz;rw[dk,dk,dk];refine W.of o ?_;walk_at"w";exact⟨nil,O,f⟩
         |true=>
          rw[h2,cX]at f;rw[h2]at o;refine dL (λr V=>V=U/\r=[Z (webD w),Z (stD ws cs),Z (.bl M),Z (.tup [.str "alike",.int a,.int b,c]),Y]) ?_ ?_
          ·unfold eB gz;rw[dk,dk];refine W.of o ?_;walk_at"w"
           all_goals first|exact⟨rfl,rfl,rfl⟩|exact⟨rfl,rfl⟩|trivial
          rintro r V ⟨rfl,rfl⟩;rw[mO,bA1,bA1,af,af,af]at h2;obtain⟨g0,g1,g2⟩:=h2;obtain⟨B,rfl⟩:∃n:Nat,a=n:=⟨a.toNat,by lia⟩;obtain⟨C,rfl⟩:∃n:Nat,b=n:=⟨b.toNat,by lia⟩;cases hf:jh m w (sgL m ws cs J) c with
          |false=>
           rw[hf]at f;unfold dw;rw[dk];walk_at"w";refine AB hw hm ?_
           ((try walk_at"w");repeat(simp only[N];try walk_at"w"))
           refine u9 hw hm p I (λxs e=>sh.2 c (by simp) xs e) ?_;rw[hf];walk_at"w";exact⟨⟨_,O⟩,O,f⟩
          |true=>
           rw[hf,cX]at f;have z:fm m c=M:=by unfold jh at hf;rw[bA1]at hf;exact hf.1
           obtain⟨E,l⟩:=pK z;refine dL (λr U=>U=V++[.lst ((sgL m ws cs J).map D.int)]/\r=[Z (webD w),Z (stD ws cs),Z (.bl M),Z (.tup [.str "alike",.int (B:Nat),.int (C:Nat),c]),Y]) ?_ ?_
           ·walk_at"w";refine AB hw hm ?_
            ((try walk_at"w");repeat(simp only[N];try walk_at"w"))
            refine u9 hw hm p I (λxs e=>sh.2 c (by simp) xs e) ?_;rw[hf];walk_at"w"
            all_goals first|exact⟨rfl,rfl,rfl⟩|exact⟨rfl,rfl⟩|trivial
           rintro r U ⟨rfl,rfl⟩;generalize hts:tsD c=ts at E l f;have ai:∀S,dv (stD ws cs) (.int 0) S=Z (.tup (nmD ws),S):=λS=>jy (i:=0) O;have a1:∀S,dv (.tup (nmD ws)) (.int B) S=Z (.int (ws.getD B 0:Nat),S):=λS=>w8 (by lia);have a2:∀S,dv (.tup (nmD ws)) (.int C) S=Z (.int (ws.getD C 0:Nat),S):=λS=>w8 (by lia);have b1:∀S,dv c (.int (ws.getD B 0:Nat)) S=Z (.int (gh ts (ws.getD B 0)),S):=λS=>by rw[E];exact mz l (jV (i:=B) H K)
           have b2:∀S,dv c (.int (ws.getD C 0:Nat)) S=Z (.int (gh ts (ws.getD C 0)),S):=λS=>by rw[E];exact mz l (jV (i:=C) H K)
           ((try walk_at"w");repeat(simp only[N,ai,u,a1,b1];try walk_at"w"))
           ((try walk_at"w");repeat(simp only[N,ai,ah,a2,b2];try walk_at"w"))
           exact⟨⟨_,O⟩,O,f⟩
    |_=>cases hs
inductive TL (k c N:Nat)(T:Sto)(o:Ob)(G:Sto)(p:Nat)(L:List D):Prop
 |mk:Hnd o N->ClT (T++G)->(T++G)[p]?=some (.lst L)->L.length=c->(∀x∈L,Ok k (o::(T++G)) x)->TL k c N T o G p L
def NL(k n N:Nat)(T:Sto)(o:Ob)(G:Sto)(q:D×Sto):Prop:=∃o' G1 L',q=(.ref (T++(G++G1)).length.succ,o'::(T++(G++G1)++[.lst L']))/\Hnd o' N/\ClT (T++(G++G1)++[.lst L'])/\L'.length=n /\ ∀x∈L',Ok k (o'::(T++(G++G1))) x
theorem Bl{k c n N d p:Nat}{T G:Sto}{o:Ob}{L:List D}{r:Ev}{i:FE}(hr:r[9]? = some (some (.ref (p+1))))(h:TL k c N T o G p L)(he:W (i r (o::(T++G))) (NL k n d T o G))(hn:c+n<=1000):
  W (m2 (b2 ee) (mV 9) i r (o::(T++G))) λq=>∃o' G2 j L',q=(.ref (j+1),o'::(T++(G++G2)))/\TL k (c+n) d T o' (G++G2) j L':=by
 obtain⟨y,h1,h2,s,t⟩:=h;have f:=(gE1.mp h2).1;unfold m2;rw[dk];refine W.of (x:=(.ref (p+1),o::(T++G))) (by unfold mV;rw[hr]) ?_;rw[dk];refine he.mono ?_;rintro q ⟨o',G1,L',rfl,b,w,u,v⟩;dsimp only[b2];have l:T++(G++G1)++[Ob.lst L']=(T++G)++(G1++[Ob.lst L']):=by simp
 refine(BF (xs:=L) (ys:=L') ?_ ?_).mpr ⟨dA (by lia),?_⟩
 ·rw[gC1,l,gL1 f];exact h2
 ·rw[cC,gC1,dz];rfl
 have e:o'::(T++(G++G1)++[Ob.lst L'])++[Ob.lst (L++L')]=o'::(T++(G++(G1++[Ob.lst L',Ob.lst (L++L')]))):=by simp
 have g:∀x∈L++L',Ok k (o'::(T++(G++G1))) x:=λx a=>by
  rcases az.mp a with z|z
  ·have:=(t x z).on (n:=N) (G:=G1) b
   rwa [bx]at this
  ·exact v x z
 have hc:ClT (T++(G++(G1++[Ob.lst L',Ob.lst (L++L')]))):=by
  have:=l8 (o:=o') w λx a=>(g x a).on (n:=d) (G:=[Ob.lst L']) b;have m:T++(G++G1)++[Ob.lst L']++[Ob.lst (L++L')]=T++(G++(G1++[Ob.lst L',Ob.lst (L++L')])):=by simp
  rwa [m]at this
 refine⟨o',G1++[Ob.lst L',Ob.lst (L++L')],(T++(G++G1)++[Ob.lst L']).length,L++L',?_,b,hc,?_,by rw[lA1,s,u],λx a=>?_⟩
 ·rw[e];rfl
 ·rw[show T++(G++(G1++[Ob.lst L',Ob.lst (L++L')]))=(T++(G++G1)++[Ob.lst L'])++[Ob.lst (L++L')] by simp,dz];rfl
 ·have:=(g x a).on (n:=d) (G:=[Ob.lst L',Ob.lst (L++L')]) b;simpa using this
theorem uV{k n N:Nat}{T G:Sto}{o:Ob}{r:Ev}{a:FA}(ho:Hnd o N)(ha:AK k r o T n a)(hn:n<=1000)(b:ClT (T++G)):W (eG a r (o::(T++G))) (NL k n N T o G):=by
 refine(wu ha hn G b).mono ?_;rintro p ⟨G1,L,rfl,h1,h2,c⟩;exact⟨o,G1,L,O,ho,h1,h2,c⟩
structure Pp (d:D):Prop where
 und:d.und 0=true
 bd:bd 9 d=true
 lo:EU 2 d
 tup:∃xs,d = .tup xs
theorem Pp.ok{d:D}(h:Pp d){k:Nat}{S:Sto}(hk:9<=k):Ok k S d:=(Ok.shut h.und h.bd).more hk
theorem D0{n:Nat}{T G:Sto}{o:Ob}{r:Ev}{d:D}(h2:r[2]? = some (some (.ref 0)))(l:r[10]? = some (some d))(hp:Pp d)(ho:Hnd o n)(hn:n<=2^38)(p:ClT (T++G)):
  W (eF 1 [2,10] (ss (di (mC (D.int (6))) dj)) (gN 0) fj (ea (mN (dn 3 ij) (di (mV 1) (di (mV 2) (di (mC (D.int (2))) dj))))) r (o::(T++G))) (NL 20 6 (n+180) T o G):=by
 rw[lH,w5];refine W.of (x:=([.int 6],_)) O ?_;refine⟨rZ (by decide) (by decide),?_⟩;have j:lZ 1 [2,10] r=[Y,Z (.ref 0),Z d]:=by simp[lZ,h2,l]
 rw[j];refine il (λi c r S=>∃o' G1 x,i<=6/\c.length=i/\Hnd o' (n+30*i)/\ClT (T++(G++G1))/\(∀x∈c,Ok 20 (o'::(T++(G++G1))) x)/\S=o'::(T++(G++G1))/\r=[x,Z (.ref 0),Z d]) _ 0 [] _ _ ⟨o,[],_,by lia,O,ho,by rw[aG];exact p,(λx h=>by cases h),by rw[aG],O⟩ (λ_ _ _ _ _=>rfl) ?_ ?_
 ·rintro i e u c r S ⟨o',G1,x,hi,f,a,hc,g,rfl,rfl⟩;have b:=(gE1.mp u).1;rw[eJ]at b;have b:i<6:=b;rw[bH]at *
  walk_at"w";refine Hv 2 (fuel:=8) (k:=9) (by decide) a (by lia) hc (hp.ok (nR1 _)) hp.lo (by decide) (by decide) λy v G2 m q s=>?_;refine⟨v,G1++G2,_,by lia,by simp[f],m.more (by lia),by simpa using q,λz t=>?_,by simp,O⟩;rcases az.mp t with h|h
  ·have:=(g z h).on (n:=n) (G:=G2) m;simpa using this
  ·rw[cc.mp h];simpa using s
 ·rintro xs r S ⟨o',G1,x,hi,f,a,hc,g,rfl,rfl⟩;rw[cI]at f g;have f:xs.length=6:=f;refine⟨dA (by lia),o',G1,xs,O,a,l8 hc g,f,g⟩
abbrev lw(N:D)(k:Int)(x3 x4 x5 x6 x7 x8 x9 x10 x11 x12 x13:Option D):Ev:=[Z N,Z (.int k),Z (.ref 0),x3,x4,x5,x6,x7,x8,x9,x10,x11,x12,x13]
theorem rg{n:Nat}(h:n<2^60):(n:Int).natAbs.log2<1920:=by
 rw[Int.natAbs_natCast];by_cases a:n=0
 ·subst a;decide
 ·exact nL1 ((Nat.log2_lt a).mpr h) (by decide)
theorem Ew{rs:List Nat}(h:∀x∈rs,x<2^60):EU 1 (.tup (nmD rs)):=⟨λi e=>(by cases e),λxs e x a=>by
 cases e;obtain⟨r,b,rfl⟩:=b6.mp a;intro i e;cases e;exact rg (h r b)⟩
theorem AH{s:Str}:EU 1 (.str s):=⟨λi e=>(by cases e),λxs e=>(by cases e)⟩
theorem AL{i:Int}(h:i.natAbs.log2<1920):EU 1 (.int i):=⟨λj e=>(by cases e;exact h),λxs e=>(by cases e)⟩
theorem uM{s:Str}{rs:List Nat}(b:rs.length<=8)(h:∀x∈rs,x<2^60):Pp (.tup [.str s,.tup (nmD rs)]):=by
 refine⟨by rw[D.und,D.unds,D.unds,D.und,D.und,fq];rfl,?_,⟨λi e=>(by cases e),λxs e x a=>?_⟩,_,O⟩
 ·rw[bd,iZ];have:=Ad (k:=9) (rs:=rs) (by lia);rw[bd,bA1,af]at this;simp[bd];exact this
 ·cases e;simp only[ay,bE,or_false]at a;rcases a with rfl|rfl
  ·exact AH
  ·exact Ew h
theorem k4{s:Str}{i j:Int}{rs:List Nat}(hi:i.natAbs.log2<1920)(b:j.natAbs.log2<1920)(c:rs.length<=8)(h:∀x∈rs,x<2^60):Pp (.tup [.str s,.int i,.int j,.tup (nmD rs)]):=by
 refine⟨by rw[D.und,D.unds,D.unds,D.unds,D.unds,D.und,D.und,D.und,D.und,fq];rfl,?_,⟨λi e=>(by cases e),λxs e x a=>?_⟩,_,O⟩
 ·rw[bd,iZ];have:=Ad (k:=9) (rs:=rs) (by lia);rw[bd,bA1,af]at this;simp[bd];exact this
 ·cases e;simp only[ay,bE,or_false]at a;rcases a with rfl|rfl|rfl|rfl
  ·exact AH
  ·exact AL hi
  ·exact AL b
  ·exact Ew h
theorem Bf{m:Nat}{w:dr}{a:List Int}(hm:m<=8):∀x∈ip m w a,x<2^60:=λx b=>by
 unfold ip at b;obtain⟨r,d,rfl⟩:=b6.mp b;have h1:=au.mp d;rw[ve];have h2:=Bg (col w a m) (fs (col w a m) r);have e:=pJ (col w a m) r;show cnt (col w a m) (fs (col w a m) r)<2^60;have c:cnt (col w a m) (fs (col w a m) r)<8:=by lia
 exact nL1 c (by decide)
theorem IT{m:Nat}{w:dr}{ws cs:List Nat}{b:Bool}{d:D}(hm:m<=8)(a:ws.length<=20)(h:Nv m w ws cs b d):d = .non\/Pp d:=by
 have e:∀c,(ip m w c).length<=8:=λc=>by rw[oA];exact hm
 cases h with
 |co _=>exact .inr (uM (e _) (Bf hm))
 |al _ _ _ f=>
  cases f with
  |no _=>exact .inl O
  |yes i j h1 h2 _ _=>exact .inr (k4 (rg (aZ (aZ h1 h2) (bA a (by decide)))) (rg (aZ h2 (bA a (by decide)))) (e _) (Bf hm))
 |no _ _=>exact .inl O
theorem IQ{k:Nat}{S:Sto}{d:D}(h:Ok k S d)(hk:k<=1000):Sh d:=by
 rintro xs rfl;obtain⟨h1,h2⟩:=h.of;refine⟨by lia,?_⟩;rintro x a ys rfl;have:=(h2 _ a).of.1;lia
theorem IW{b:Bool}{S:Sto}:gNe (.bl b) (.bl b) S=Z (.bl J,S):=by cases b<;>rfl
theorem Hx{m:Nat}{w:dr}{ws cs:List Nat}{d N:D}{k:Int}{S:Sto}{x4 x6 g x8 x9 x10 x12 x13:Option D}(hw:WebJ m w)(c:0<m)(hm:m<=8)(f:∀ x∈ws,x<m)(j:iM S)(hv:vd S d=true)(a:Sh d):
  W (qw (lw N k (Z (webD w)) x4 (Z (stD ws cs)) x6 g x8 x9 x10 (Z d) x12 x13) S) λp=>p.1 = .nx/\p.2.2=S /\ ∃x12 x13,p.2.1=lw N k (Z (webD w)) x4 (Z (stD ws cs)) x6 g x8 x9 x10 (Z d) x12 x13:=by
 unfold qw;walk_at"w";rw[kq];refine ez (λi r V=>V=S /\ ∃x12 x13,r=lw N k (Z (webD w)) x4 (Z (stD ws cs)) x6 g x8 x9 x10 (Z d) x12 x13) _ 0 _ _ ⟨O,_,_,O⟩ (λ_ _ _ _=>rfl) ?_ ?_
 ·rintro i e l r V ⟨rfl,x12,x13,rfl⟩;obtain ⟨b,rfl⟩:∃ b,e = .bl b:=by
   match i,l with
   |0,h=>exact⟨M,(Option.some.inj h).symm⟩
   |1,h=>exact⟨J,(Option.some.inj h).symm⟩
  walk_at"w";unfold we;refine dL (λr U=>U=V/\r=lw N k (Z (webD w)) x4 (Z (stD ws cs)) x6 g x8 x9 x10 (Z d) (Z (.bl b)) (Z (.bl (vP m w ws cs b d)))) ?_ ?_
  ·walk_at"w";refine zo hw c hm f j hv a ?_;exact⟨O,O⟩
  rintro r U ⟨rfl,rfl⟩;walk_at"w";refine ff.mpr ?_
  ((try walk_at"w");repeat(simp only[Jp];try walk_at"w"))
  refine He hw c hm f j hv a ?_
  ((try walk_at"w");repeat(simp only[IW];try walk_at"w"))
  exact⟨_,_,O⟩
 ·rintro r V ⟨rfl,x12,x13,rfl⟩;exact⟨O,O,_,_,O⟩
section
variable{n m last:Nat}{w:dr}{ws cs rs:List Nat}{N:D}{k:Int}{o:Ob}{T:Sto}{x6 x8 x9 x10 x11 x12 x13:Option D}
theorem mF{r:Ev}{i:Nat}(ho:Hnd o n)(h:r[i]?=Z (Z (.tup (nmD rs))))(a:rs.length<=8):EK 20 r o T (mV i):=d8 ho (λS=>by unfold mV;rw[h]) (Ok.nm (by lia))
theorem hO{r:Ev}{s:Str}(ho:Hnd o n):EK 20 r o T (mC (.str s)):=iX ho O (by rw[bd])
theorem rO{r:Ev}{z:Int}(ho:Hnd o n):EK 20 r o T (mC (.int z)):=iX ho O (by rw[bd])
theorem rM{r:Ev}{z:Int}(ho:Hnd o n)(h:r[7]?=Z (Z (.int z))):EK 20 r o T (mV 7):=d8 ho (λS=>by unfold mV;rw[h]) (.shut O (by rw[bd]))
theorem Ik{z:Int}(ho:Hnd o n)(a:rs.length<=8):AK 20 (lw N k (Z (webD w)) (Z (.tup (nmD rs))) (Z (stD ws cs)) x6 (Z (.int z)) x8 x9 x10 x11 x12 x13) o T 13 (di (mC D.non) (di (mC (D.bl M)) (di (mC (D.bl J)) (di (mC (D.int (0))) (di (mC (D.str "")) (di (mC (D.str "colours")) (di (dJ dj) (di (dJ (di (mC (D.str "colours")) dj)) (di (dJ (di (mC (D.str "alike")) dj)) (di (eG dj) (di ik (di (eG (di (mC (D.str "colours")) (di (mV 4) dj))) (di (mV 4) dj))))))))))))):=
 dm ho (iX ho O (by rw[bd])) (dm ho (iX ho O (by rw[bd])) (dm ho (iX ho O (by rw[bd])) (dm ho (rO ho) (dm ho (hO ho) (dm ho (hO ho) (dm ho (fH d3 (by decide) (by decide)) (dm ho (fH (dm ho (hO ho) d3) (by decide) (by decide)) (dm ho (fH (dm ho (hO ho) d3) (by decide) (by decide)) (dm ho (ox ho d3 (by decide)) (dm ho rP (dm ho (ox ho (dm ho (hO ho) (dm ho (mF ho O a) d3)) (by decide)) (dm ho (mF ho O a) d3))))))))))))
theorem Ij{z:Int}(hw:WebJ m w)(hm:m<=8)(ho:Hnd o n)(a:rs.length<=8):AK 20 (lw N k (Z (webD w)) (Z (.tup (nmD rs))) (Z (stD ws cs)) x6 (Z (.int z)) x8 x9 x10 x11 x12 x13) o T 5 (di (dJ (di (mC (D.str "none")) (di (mV 4) dj))) (di (dJ (di (mC D.non) (di (mV 4) dj))) (di (dJ (di (mC (D.str "alike")) (di (mC (D.int (0))) (di (mV 7) dj)))) (di (dJ (di (mC (D.str "colours")) (di (mC (D.int (0))) (di (mV 7) (di (mV 4) dj))))) (di (mV 3) dj))))):=
 dm ho (fH (dm ho (hO ho) (dm ho (mF ho O a) d3)) (by decide) (by decide)) (dm ho (fH (dm ho (iX ho O (by rw[bd])) (dm ho (mF ho O a) d3)) (by decide) (by decide)) (dm ho (fH (dm ho (hO ho) (dm ho (rO ho) (dm ho (rM ho O) d3))) (by decide) (by decide)) (dm ho (fH (dm ho (hO ho) (dm ho (rO ho) (dm ho (rM ho O) (dm ho (mF ho O a) d3)))) (by decide) (by decide)) (dm ho (d8 ho (λ_=>rfl) ((Ok.shut (d6 w) (yI hw hm)).more (by decide))) d3))))
theorem Ii{z:Int}(ho:Hnd o n)(a:rs.length<=8):AK 20 (lw N k (Z (webD w)) (Z (.tup (nmD rs))) (Z (stD ws cs)) x6 (Z (.int z)) x8 x9 x10 x11 x12 x13) o T 3 (di (dJ (di (mC (D.str "alike")) (di (mV 4) dj))) (di (dJ (di (mC (D.str "")) (di (mC (D.int (0))) (di (mV 7) (di (mV 4) dj))))) (di (dJ (di (dJ (di (mC (D.str "colours")) dj)) (di (mV 4) dj))) dj))):=
 dm ho (fH (dm ho (hO ho) (dm ho (mF ho O a) d3)) (by decide) (by decide)) (dm ho (fH (dm ho (hO ho) (dm ho (rO ho) (dm ho (rM ho O) (dm ho (mF ho O a) d3)))) (by decide) (by decide)) (dm ho (fH (dm ho (fH (dm ho (hO ho) d3) (by decide) (by decide)) (dm ho (mF ho O a) d3)) (by decide) (by decide)) d3))
theorem B0{r:Ev}{d:D}(h:r[10]?=Z (Z d))(hp:Pp d)(ho:Hnd o n):AK 20 r o T 2 (di (mV 10) (di (mN (b1 rB) (di (mV 10) dj)) dj)):=by
 have a:∀S,mV 10 r S=Z (d,S):=λS=>by unfold mV;rw[h]
 refine dm ho (d8 ho a (hp.ok (by decide))) (dm ho ?_ d3);obtain⟨xs,rfl⟩:=hp.tup;intro G b;refine JQ ?_;rw[a,dt];refine W.of (x:=(.ref (T++G).length.succ,o::(T++G++[.lst xs]))) O ⟨[.lst xs],by simp,?_,.lst (xs:=xs) ?_⟩
 ·rw[<- bx];exact l8 (k:=20) (o:=o) b λx c=>((hp.ok (k:=20) (S:=o::(T++G)) (by decide)).of.2 x c)
 ·rw[cC,gC1,<- bx,dz];rfl
end
inductive LL (n c:Nat)(T:Sto)(e:Option D->Option D->Ev):Ev->Sto->Prop
 |mk (o:Ob) (G:Sto) (p:Nat) (L:List D) (x10:Option D):TL 20 c n T o G p L->LL n c T e (e (some (.ref (p+1))) x10) (o::(T++G))
theorem IP{n c m:Nat}{w:dr}{N:D}{k:Int}{o:Ob}{T G:Sto}{p:Nat}{L:List D}{d:D}{x3 x4 x5 x6 e x8 x11 x12 x13:Option D}(hp:Pp d)(h:TL 20 c n T o G p L)(hn:n<=2^38)(hc:c<=500):
  W (qx (lw N k x3 x4 x5 x6 e x8 (Z (.ref (p+1))) (Z d) x11 x12 x13) (o::(T++G))) λq=>q.1 = .nx/\LL (n+180) (c+8) T (λx9 x10=>lw N k x3 x4 x5 x6 e x8 x9 x10 x11 x12 x13) q.2.1 q.2.2:=by
 have j:Hnd o n:=by cases h;assumption
 have l:ClT (T++G):=by cases h;assumption
 unfold qx;refine dL (λr V=>∃o' b a f,TL 20 (c+2) n T o' b a f/\V=o'::(T++b)/\r=lw N k x3 x4 x5 x6 e x8 (Z (.ref (a+1))) (Z d) x11 x12 x13) ?_ ?_
 ·unfold dE;rw[dk];refine(Bl (r:=lw N k x3 x4 x5 x6 e x8 (Z (.ref (p+1))) (Z d) x11 x12 x13) O h (uV j (B0 O hp j) (by decide) l) (by lia)).mono ?_;rintro q ⟨o',G2,a,f,rfl,h'⟩;exact W.of O ⟨O,o',G++G2,a,f,h',O,O⟩
 rintro r V ⟨o',b,a,f,h',rfl,rfl⟩;have g:Hnd o' n:=by cases h';assumption
 have i:ClT (T++b):=by cases h';assumption
 unfold dE;rw[dk];refine(Bl (r:=lw N k x3 x4 x5 x6 e x8 (Z (.ref (a+1))) (Z d) x11 x12 x13) O h' (D0 O O hp g hn i) (by lia)).mono ?_;rintro q ⟨t,G2,p2,s,rfl,h2⟩;exact W.of O ⟨O,.mk t (b++G2) p2 s (Z d) h2⟩
theorem Cu{L:List D}(h:∀d∈L,Pp d):(Ob.lst L).und 0=M:=by
 have:=eI (n:=0) (f:=λd:D=>d) (xs:=L) λx a=>(h x a).und
 rwa [List.map_id']at this
theorem Hj{L:List D}(h:∀d∈L,Pp d):ClT [Ob.lst L]:=by
 show[Ob.lst L].all _=M;rw[bI,fI (a0 _) (Cu h)];rfl
theorem Hs(ns:List Int)(k:Int)(h0:0<=k)(hk:k<63):W (qv [Z (.rol (ns.map D.int)),Z (.int k),Y,Y,Y,Y,Y,Y,Y,Y,Y,Y,Y,Y] []) λp=>p.1 = .nx /\ ∃r9,p.2.1=Z (.rol (ns.map D.int))::r9/\r9.length=13:=by
 unfold qv;generalize hN:D.rol (ns.map D.int)=N;refine dL (λr S=>∃o,Hnd o 0/\S=[o]/\r=lw N k Y Y Y Y Y Y Y Y Y Y Y) ?_ ?_
 ·obtain⟨o,e,ho⟩:=Dz ns k h0 hk;rw[hN]at e
  ((try walk_at"w");repeat(simp only[e];try walk_at"w"))
  exact⟨o,ho,O,trivial⟩
 rintro r S ⟨o,ho,rfl,rfl⟩;refine dL (λr S=>∃m w rs o1,0<m/\m<=8/\WebJ m w/\rs.length=m/\(∀x∈rs,x<8)/\Hnd o1 300/\S=[o1]/\r=lw N k (Z (webD w)) (Z (.tup (nmD rs))) Y Y Y Y Y Y Y Y Y) ?_ ?_
 ·walk_at"w";refine HS (T:=[]) ho (by decide) O λm w rs o' s u C F E ho'=>?_;walk_at"w";exact⟨m,w,rs,o',s,u,C,F,E,ho',O,O⟩
 rintro r S ⟨m,w,rs,o1,s,u,C,F,E,ho1,rfl,rfl⟩;refine dL (λr S=>∃ws cs b,(∀x∈ws,x<m)/\ws.length<=20/\Hnd b 350/\S=[b]/\r=lw N k (Z (webD w)) (Z (.tup (nmD rs))) (Z (stD ws cs)) Y Y Y Y Y Y Y Y) ?_ ?_
 ·simp(implicitDefEqProofs:=J) only[dE,mV,mN,di,dj,mC,gN,dk,dt,oS1,cG,gC1,cH,cm];refine B7 (T:=[]) C s u F ho1 (by decide) O λws cs b y h1 h2 h3=>?_;exact⟨trivial,ws,cs,b,h1,h2,y.more (by lia),O,O⟩
 rintro r S ⟨ws,cs,b,hws,H,y,rfl,rfl⟩;have l:∀x∈rs,x<2^60:=λx v=>aZ (E x v) (by decide);have j:rs.length<=8:=by lia
 have B:∀x∈Z7 m,x<2^60:=λx v=>aZ (au.mp v) (bA u (by decide));have hgl:(Z7 m).length<=8:=by rw[ci];exact u
 obtain⟨z,hz⟩:∃z:Int,z=(ws.length:Int)-1:=⟨_,O⟩;have ah:z.natAbs.log2<1920:=by
  have:z.natAbs<2^60:=bA (show z.natAbs<=20 by lia) (by decide);by_cases ai:z.natAbs=0
  ·rw[ai];decide
  ·exact nL1 ((Nat.log2_lt ai).mpr this) (by decide)
 have R:(z+1).natAbs.log2<1920:=by
  have e:z+1=((ws.length:Nat):Int):=by lia
  rw[e];exact rg (bA H (by decide))
 refine dL (λr S=>S=[b]/\r=lw N k (Z (webD w)) (Z (.tup (nmD rs))) (Z (stD ws cs)) (Z (.tup (nmD (Z7 m)))) (Z (.int z)) Y Y Y Y Y Y) ?_ ?_
 ·have e0:∀S,dN (webD w) S=Z (.int (m:Nat),S):=λS=>by rw[webD,fr,lM1,C.len]
  have s0:∀S,dv (stD ws cs) (.int 0) S=Z (.tup (nmD ws),S):=λS=>jy (i:=0) O;have sl:dN (.tup (nmD ws)) [b]=Z (.int (ws.length:Nat),[b]):=by rw[fr,d4]
  have X:gSub (.int (ws.length:Nat)) (.int 1) [b]=Z (.int z,[b]):=by rw[hz];rfl
  simp(implicitDefEqProofs:=J) only[dE,mV,mN,di,dj,mC,m2,b1,b2,sf,dk,dt,oS1,cG,gC1];refine ER (k:=m) (S1:=[b]) ?_ (by lia) ?_
  ·simp only[di,dj,mN,mV,b1,gC1,cG,oS1,e0]
  simp(implicitDefEqProofs:=J) only[s0,sl,X,dt,oS1,dk];refine⟨dA (by simp),?_⟩
  first|exact W.of rfl ⟨rfl,rfl,rfl⟩|exact W.of rfl ⟨trivial,rfl,rfl⟩
 rintro r S ⟨rfl,rfl⟩;refine dL (λr S=>∃P:List D,(∀d∈P,Pp d)/\P.length=4/\S=[b,.lst P]/\r=lw N k (Z (webD w)) (Z (.tup (nmD rs))) (Z (stD ws cs)) (Z (.tup (nmD (Z7 m)))) (Z (.int z)) (Z (.ref 1)) Y Y Y Y Y) ?_ ?_
 ·walk_at"w";refine⟨[.tup [.str "colours",.tup (nmD rs)],.tup [.str "colours",.tup (nmD (Z7 m))],.tup [.str "alike",.int 0,.int z,.tup (nmD rs)],.tup [.str "alike",.int 0,.int 1,.tup (nmD (Z7 m))]],λd f=>?_,O,O,trivial⟩;simp only[ay,bE,or_false]at f;rcases f with rfl|rfl|rfl|rfl
  ·exact uM j l
  ·exact uM hgl B
  ·exact k4 (by decide) ah j l
  ·exact k4 (by decide) (by decide) hgl B
 rintro r S ⟨P,A,g,rfl,rfl⟩;refine dL (λr S=>∃P:List D,(∀d∈P,Pp d)/\P.length=5/\S=[b,.lst P]/\r=lw N k (Z (webD w)) (Z (.tup (nmD rs))) (Z (stD ws cs)) (Z (.tup (nmD (Z7 m)))) (Z (.int z)) (Z (.ref 1)) Y Y Y Y Y) ?_ ?_
 ·have app:∀ d,Pp d->(∀ x∈P++[d],Pp x)/\(P++[d]).length=5:=fun d f=>⟨fun x v=>by
   rcases az.mp v with h|h
   ·exact A x h
   ·rw[cc.mp h];exact f,by rw[lA1,g];rfl⟩
  have wq:∀d,Pp d->W (gB (.ref 1) d [b,.lst P]) λx=>∃P:List D,(∀d∈P,Pp d)/\P.length=5/\x.2=[b,.lst P]:=λd f=>by
   refine(jc (n:=1) (xs:=P) O).mpr ⟨dA (by lia),?_⟩;exact⟨P++[d],(app d f).1,(app d f).2,O⟩
  unfold eK;rw[dk];refine gK ?_;refine W.of (x:=(.ref 1,[b,.lst P])) O ⟨1,P,O,O,?_⟩;refine BC ?_;refine EQ.mpr ?_;simp(implicitDefEqProofs:=J) only[mN,mV,di,dj,mC,dk,dt,oS1,cG,gC1];refine CS C s u hws H λd f=>?_;rcases IT u H f with rfl|hp
  ·refine W.of (x:=J) O ?_;rw[ab (by decide)];refine W.of (x:=(.tup [.str "alike",.int 0,.int 0,.tup (nmD rs)],[b,.lst P])) O ?_;exact(wq (.tup [.str "alike",.int 0,.int 0,.tup (nmD rs)]) (k4 (by decide) (by decide) j l)).mono λx ⟨P,a1,a2,a3⟩=>⟨trivial,P,a1,a2,a3,trivial⟩
  ·obtain ⟨xs,rfl⟩:=hp.tup;have hne:xs≠[]:=by
    rintro rfl;cases f;rename_i h1 h2 h3;cases h3
   refine W.of (x:=M) (by cases xs with
    |nil=>exact absurd O hne
    |cons x xs=>rfl) ?_
   rw[ae O];exact(wq _ hp).mono λx ⟨P,a1,a2,a3⟩=>⟨trivial,P,a1,a2,a3,trivial⟩
 clear A g P;rintro r S ⟨P,A,g,rfl,rfl⟩;refine dL (λr S=>∃P:List D,(∀d∈P,Pp d)/\P.length=6/\S=[b,.lst P]/\r=lw N k (Z (webD w)) (Z (.tup (nmD rs))) (Z (stD ws cs)) (Z (.tup (nmD (Z7 m)))) (Z (.int z)) (Z (.ref 1)) Y Y Y Y Y) ?_ ?_
 ·unfold eK;rw[dk];refine gK ?_;refine W.of (x:=(.ref 1,[b,.lst P])) O ⟨1,P,O,O,?_⟩;refine W.of (x:=([.tup [.str "alike",.int z,.int (z+1),.tup (nmD rs)]],[b,.lst P])) O ?_;refine(jc (n:=1) (xs:=P) (S:=[b,.lst P]) O).mpr ⟨dA (by lia),?_⟩;refine W.of O ⟨O,P++[.tup [.str "alike",.int z,.int (z+1),.tup (nmD rs)]],λx v=>?_,by rw[lA1,g];rfl,O,O⟩;rcases az.mp v with h|h
  ·exact A x h
  ·rw[cc.mp h];exact k4 ah R j l
 clear A g P;rintro r S ⟨P,A,g,rfl,rfl⟩;have hT:=Hj A;have hT0:ClT ([Ob.lst P]++[]):=hT;refine dL (LL 350 13 [.lst P] (λx9 x10=>lw N k (Z (webD w)) (Z (.tup (nmD rs))) (Z (stD ws cs)) (Z (.tup (nmD (Z7 m)))) (Z (.int z)) (Z (.ref 1)) x9 x10 Y Y Y)) ?_ ?_
 ·unfold dE;rw[dk];refine(uV (G:=[]) y (Ik y j) (by decide) hT0).mono ?_;rintro q ⟨o',G1,ag,rfl,g0,g1,g2,g3⟩;refine W.of O ⟨O,?_⟩;have e:[Ob.lst P]++([]++G1)++[Ob.lst ag]=[Ob.lst P]++(G1++[Ob.lst ag]):=by simp
  dsimp only;show LL 350 13 [.lst P] (λx9 x10=>lw N k (Z (webD w)) (Z (.tup (nmD rs))) (Z (stD ws cs)) (Z (.tup (nmD (Z7 m)))) (Z (.int z)) (Z (.ref 1)) x9 x10 Y Y Y) (lw N k (Z (webD w)) (Z (.tup (nmD rs))) (Z (stD ws cs)) (Z (.tup (nmD (Z7 m)))) (Z (.int z)) (Z (.ref 1)) (Z (.ref (([Ob.lst P]++([]++G1)).length+1))) Y Y Y Y) (o'::([Ob.lst P]++([]++G1)++[Ob.lst ag]));rw[e]at g1 ⊢;refine .mk o' _ _ ag Y ⟨g0,g1,?_,g2,λx v=>?_⟩
  ·rw[<- e,dz];rfl
  ·have:=(g3 x v).on (n:=350) (G:=[Ob.lst ag]) g0
   rwa [e]at this
 rintro r S ⟨K,G,p,L,x10,h⟩;have add:∀{o:Ob} {G:Sto} {p c n:Nat} {L:List D} {x10:Option D} {a:FA},TL 20 c 350 [.lst P] o G p L->c+n<=1000->AK 20 (lw N k (Z (webD w)) (Z (.tup (nmD rs))) (Z (stD ws cs)) (Z (.tup (nmD (Z7 m)))) (Z (.int z)) (Z (.ref 1)) (Z (.ref (p+1))) x10 Y Y Y) o [.lst P] n a->W (dE (m2 (b2 ee) (mV 9) (eG a)) (gN 9) (lw N k (Z (webD w)) (Z (.tup (nmD rs))) (Z (stD ws cs)) (Z (.tup (nmD (Z7 m)))) (Z (.int z)) (Z (.ref 1)) (Z (.ref (p+1))) x10 Y Y Y) (o::([.lst P]++G))) λq=>q.1 = .nx/\LL 350 (c+n) [.lst P] (λx9 x10=>lw N k (Z (webD w)) (Z (.tup (nmD rs))) (Z (stD ws cs)) (Z (.tup (nmD (Z7 m)))) (Z (.int z)) (Z (.ref 1)) x9 x10 Y Y Y) q.2.1 q.2.2:=λ{o G p c n L x10 a} h hn ha=>by
  have ho:Hnd o 350:=by cases h;assumption
  have hG:ClT ([.lst P]++G):=by cases h;assumption
  unfold dE;rw[dk];refine(Bl (r:=lw N k (Z (webD w)) (Z (.tup (nmD rs))) (Z (stD ws cs)) (Z (.tup (nmD (Z7 m)))) (Z (.int z)) (Z (.ref 1)) (Z (.ref (p+1))) x10 Y Y Y) O h (uV ho ha (by lia) hG) hn).mono ?_;rintro q ⟨o',G2,p',ag,rfl,h'⟩;exact W.of O ⟨O,.mk o' (G++G2) p' ag x10 h'⟩
 have t:Hnd K 350:=by cases h;assumption
 refine dL _ (add h (by decide) (Ij C u t j)) ?_;clear h t;rintro r S ⟨K,G,p,L,x10,h⟩;have t:Hnd K 350:=by cases h;assumption
 refine dL _ (add h (by decide) (Ii t j)) ?_;clear h t;rintro r S ⟨K,G,p,L,x10,h⟩;refine dL (LL (350+180*6) (21+8*6) [.lst P] (λx9 x10=>lw N k (Z (webD w)) (Z (.tup (nmD rs))) (Z (stD ws cs)) (Z (.tup (nmD (Z7 m)))) (Z (.int z)) (Z (.ref 1)) x9 x10 Y Y Y)) ?_ ?_
 ·unfold eR;rw[dk,ma];refine W.of (x:=(.ref 1,K::([.lst P]++G))) O ?_;refine dW (xs:=P) O ?_;refine ez (λi r V=>i<=6/\LL (350+180*i) (21+8*i) [.lst P] (λx9 x10=>lw N k (Z (webD w)) (Z (.tup (nmD rs))) (Z (stD ws cs)) (Z (.tup (nmD (Z7 m)))) (Z (.int z)) (Z (.ref 1)) x9 x10 Y Y Y) r V) _ 0 _ _ ⟨by decide,.mk K G p L x10 h⟩ ?_ ?_ ?_
  ·rintro i r V ⟨_,aj,U,p4,L4,I,h4⟩;exact eY O
  ·rintro i d f r V ⟨hi,aj,U,p4,L4,I,h4⟩;rw[bH]at *
   have hil:=(gE1.mp f).1;dsimp only at hil;have hpd:=A d (gM1 f);walk_at"w";have hn':350+180*i<=2^38:=av (show 350+180*i<=2000 by lia) (by decide);refine(IP (m:=m) (w:=w) hpd h4 hn' (by lia)).mono ?_;rintro q ⟨z1,z2⟩;exact⟨z1,by lia,z2⟩
  ·rintro r V ⟨_,h⟩;dsimp only at h;rw[bH,g]at h;exact⟨O,h⟩
 clear h;rintro r S ⟨aj,U,p4,L4,I,h1,h2,h3,h4,h5⟩;have hS:iM (aj::([.lst P]++U)):=vS h1 h2;unfold eR;rw[dk,ma];refine W.of (x:=(.ref (p4+1),aj::([.lst P]++U))) O ?_;refine dW (xs:=L4) (by rw[gC1];exact h3) ?_;refine ez (λi r V=>V=aj::([.lst P]++U) /\ ∃x11 x12 x13,r=lw N k (Z (webD w)) (Z (.tup (nmD rs))) (Z (stD ws cs)) (Z (.tup (nmD (Z7 m)))) (Z (.int z)) (Z (.ref 1)) (Z (.ref (p4+1))) I x11 x12 x13) _ 0 _ _ ⟨O,_,_,_,O⟩ ?_ ?_ ?_
 ·rintro i r V ⟨rfl,_⟩;exact eY (by rw[gC1];exact h3)
 ·rintro i d f r V ⟨rfl,x11,x12,x13,rfl⟩;have Q:=h5 d (gM1 f);walk_at"w";refine(Hx C s u hws hS Q.v (IQ Q (by decide))).mono ?_;rintro q ⟨z1,z2,y12,y13,z3⟩;exact⟨z1,z2,_,_,_,z3⟩
 ·rintro r V ⟨rfl,x11,x12,x13,rfl⟩;exact⟨O,_,O,O⟩
theorem truth(ns:List Int)(B:ns.length<=63):∃S,m_law [.rol (ns.map D.int)] []=Z (.bl M,S):=by
 have g:W (m_law [.rol (ns.map D.int)] []) λp=>p.1 = .bl M:=by
  unfold m_law;refine jg ?_;unfold Bq;have s:(D.rol (ns.map D.int)).und 0=M:=by simp[D.und,lM]
  have w:=λk m y=>Hs ns k m y;generalize l:D.rol (ns.map D.int)=N at *
  have b:dN N []=Z (.int ns.length,[]):=by rw[<- l];simp[dN,dH]
  refine dL (λr S=>S=[]/\r=[Z N,Y,Y,Y,Y,Y,Y,Y,Y,Y,Y,Y,Y,Y]) ?_ ?_
  ·simp only [e6,mP1,aT,lC1,aW,cJ,Nat.reduceSub,Is,ba,cI,eR,dk,w5,di,mN,mC,mV,dj,b1,b2,DF,u6,b,dt,oS1,cG,Iv];have n:∃ t:Nat,t<=4/\(if (if (ns.length:Int)<4 then (ns.length:Int) else 4)>1 then (if (ns.length:Int)<4 then (ns.length:Int) else 4) else 1)=(t:Int):=by
    by_cases h1:(ns.length:Int)<4
    ·rw[ae h1];by_cases h2:(ns.length:Int)>1
     ·rw[ae h2];exact⟨ns.length,by lia,O⟩
     ·rw[ab h2];exact⟨1,by lia,O⟩
    ·rw[ab h1];exact⟨4,by lia,by decide⟩
   obtain⟨t,z,te⟩:=n;rw[te,Int.toNat_natCast];refine⟨fQ (by lia),?_⟩;refine ez (λ_ r S=>S=[]/\r=[Z N,Y,Y,Y,Y,Y,Y,Y,Y,Y,Y,Y,Y,Y]) _ 0 _ _ ⟨O,O⟩ (λ_ _ _ _=>rfl) ?_ ?_
   ·rintro i d q r S ⟨rfl,rfl⟩;obtain⟨k,e,v,A⟩:=tD (gM1 q);subst e;simp only[gN,cm,cH,dt];obtain⟨⟨f,r2,C⟩,u,j,o,a,c⟩:=w k v (by lia);dsimp only at j a;subst j;subst a;refine W.of (x:=(.nx,[Z N,Y,Y,Y,Y,Y,Y,Y,Y,Y,Y,Y,Y,Y],[])) ?_ ⟨O,O,O⟩
    match o,c with
    |[z1,z2,z3,z4,z5,z6,z7,z8,z9,z10,z11,z12,z13],_=>
     unfold wd pv;simp[fJ,kM,D.und,s,u]
   ·rintro r S ⟨rfl,rfl⟩;exact⟨O,O,O⟩
  ·rintro r S ⟨rfl,rfl⟩;simp only[dX,mC,oS1,dt]
 obtain⟨⟨d,S⟩,e,h⟩:=g;dsimp only at h;exact⟨S,by rw[e,h]⟩
end Law
end
open PySem PySem.W PyProof.Rows
noncomputable def PySem.W.Fast.tw949284499012896784:=()
noncomputable def PySem.W.Fast.tw2961466956603356069:=()
noncomputable def PySem.W.Fast.tw8077947790763715578:=()
noncomputable def PySem.W.Fast.tw17807104802796470964:=()
noncomputable def PySem.W.Fast.tw11816961500468088114:=()
noncomputable def PySem.W.Fast.tw3462570650128859416:=()
noncomputable def PySem.W.Fast.tw2032136528341533209:=()
noncomputable def PySem.W.Fast.tw13364473116049038078:=()
noncomputable def PySem.W.Fast.tw12724706524740318350:=()
noncomputable def PySem.W.Fast.tw1543142840699866778:=()
noncomputable def PySem.W.Fast.tw594715557907778136:=()
noncomputable def PySem.W.Fast.tw15855939506056028786:=()
noncomputable def PySem.W.Fast.tw7594798357335384166:=()
noncomputable def PySem.W.Fast.tw6127317439080300141:=()
noncomputable def PySem.W.Fast.tw16312025891337436982:=()
noncomputable def PySem.W.Fast.tw12236951484737229463:=()
noncomputable def PySem.W.Fast.tw9397626213283306778:=()
noncomputable def PySem.W.Fast.tw10209798985363515292:=()
noncomputable def PySem.W.Fast.tw6807147170830778348:=()
noncomputable def PySem.W.Fast.tw11700895674229166006:=()
noncomputable def PySem.W.Fast.tw16335754228839092116:=()
noncomputable def PySem.W.Fast.tw4658780158002718703:=()
noncomputable def PySem.W.Fast.tw8484131789346008271:=()
noncomputable def PySem.W.Fast.tw709972624347634672:=()
noncomputable def PySem.W.Fast.tw15988709199528802336:=()
noncomputable def PySem.W.Fast.tw6015861601473555973:=()
noncomputable def PySem.W.Fast.tw17048314327462984015:=()
noncomputable def PySem.W.Fast.tw4199406633358772253:=()
noncomputable def PySem.W.Fast.tw4326479394057870061:=()
noncomputable def PySem.W.Fast.tw3637048792257454182:=()
noncomputable def PySem.W.Fast.tw11097956690946259365:=()
noncomputable def PySem.W.Fast.tw13215282239814992996:=()
noncomputable def PySem.W.Fast.tw6441303692118074734:=()
noncomputable def PySem.W.Fast.tw472961515939031268:=()
noncomputable def PySem.W.Fast.tw11806525512130658770:=()
noncomputable def PySem.W.Fast.tw13196508059614438196:=()
noncomputable def PySem.W.Fast.tw8955690995314003303:=()
noncomputable def PySem.W.Fast.tw655609356088421471:=()
noncomputable def PySem.W.Fast.tw1960293453770215313:=()
noncomputable def PySem.W.Fast.tw220032785718456366:=()
noncomputable def PySem.W.Fast.tw11771497548712805763:=()
noncomputable def PySem.W.Fast.tw14114075858250208654:=()
noncomputable def PySem.W.Fast.tw16614330918489382771:=()
noncomputable def PySem.W.Fast.tw12324731160269731978:=()
noncomputable def PySem.W.Fast.tw12200553003454532053:=()
noncomputable def PySem.W.Fast.tw12849952036192791315:=()
noncomputable def PySem.W.Fast.tw14077440273400594075:=()
noncomputable def PySem.W.Fast.tw12919794461345552965:=()
noncomputable def PySem.W.Fast.tw4198704611394402490:=()
noncomputable def PySem.W.Fast.tw656241372140073521:=()
noncomputable def PySem.W.Fast.tw8823378683415040702:=()
noncomputable def PySem.W.Fast.tw11179900477605816246:=()
noncomputable def PySem.W.Fast.tw17888556858621719839:=()
set_option maxRecDepth 100000 in
set_option maxHeartbeats 0 in
theorem PySem.Challenge.cw_ringmeet_k37_papers_of_anything_holds : PySem.Challenge.rw_ringmeet_k37_papers_of_anything.Holds := by
 w_on;o_law;k_head;(case hw=>w_witness2)
 k_fill
 refine Mi.walk_m (l:=PySem.Challenge.rw_ringmeet_k37_papers_of_anything) (m:=Law.m_law) (k:=12) (x:="_law_script") rfl rfl ⟨rfl,by decide,by decide,rfl⟩ (fun w h Y=>PySem.W.kIn_of Y) Law.truth ?F
 case F=>
  intro w mg e h d G b;refine' Law.all_mk d G b ?a1 ?a2 ?a3 ?a4 ?a5 ?a6 ?a7 ?a8 ?a9 ?a10 ?a11 ?a12 ?a13 ?a14 ?a15 ?a16 ?a17 ?a18 ?a19 ?a20 ?a21 ?a22 ?a23 ?a24 ?a25 ?a26 ?a27 ?a28 ?a29 ?a30 ?a31 ?z
  all_goals try (refine' Mi.JB ?a ?l ?c ?k;(case a=>k_is);(case l=>k_is);(case c=>k_is);(case k=>k_is))
  (case z=>exact ⟨by k_is,by k_is,by k_is,by k_is,by k_is,by k_is,by k_is,by k_is,by k_is,by k_is,by k_is,by k_is,by k_is,by k_is,by k_is,by k_is,trivial⟩)
  all_goals k_is

