import PyProof.Rows.All
import Wide.All
import OpenK.AllK
import Wide.FinOn
import Lean
import PyProof.EqAt
import PyProof.EqKinds
import PyProof.TupleCall
import PySem.Challenge.RW_ringmeet_k69_rounds_looked_at
set_option Elab.async false
set_option compiler.extract_closed false
set_option linter.all false
set_option maxRecDepth 100000
set_option maxHeartbeats 4000000
open List renaming getElem?_eq_some_iff → gE1, getElem?_append_left → gL1, getElem?_eq_getElem → gG1, mem_of_getElem? → gM1, getElem?_set_ne → gS1, length_append → lA1, length_map → lM1, getElem?_cons_succ → gC1, mem_cons_of_mem → mC1, mem_cons_self → mS1, getElem?_map → gP1, getElem?_append_right → gR1, size_toArray → sT1, map_cons → mP1, length_cons → lC1, length_replicate → lR1, mem_append_right → mA1
open Option renaming bind_eq_some_iff → oB1, map_eq_some_iff → oM1, bind_some → oS1, map_some → oP1
open Nat renaming le_refl → nR1, lt_of_lt_of_le → nL1, ne_of_lt → nN1, ne_of_gt → nG1
open Bool renaming and_eq_true → bA1, false_eq_true → bF1
open Array renaming getElem?_eq_getElem → aG1, getElem?_toList → aT1
open PySem.W renaming Frag → Fg1, nsIn → wN1, keepIn → wK1, codeIn → wC1, fnOf → wF1, mg_of → wM1
open PySem.Heap renaming get?_push_of_some → hP1, get?_push_size → hS1, lt_size → hL1, size_push → hZ1, get?_update_ne → hU1, get?_update_self → hW1
open PySem renaming wpAny_bind → wB1, wpAny_pure → wP1, wpAny_setField_rec → wS1, wpAny_newObj_type → wO1, codeAny_builtin → wD1, wpAny_call_entry → wE1
open List renaming take_nil → av, drop_nil → aw, mem_filter → aA, mem_range → aB, filterMap_cons → aD, mem_cons → aE, mem_append → aF, mem_append_left → aG, getElem?_set_self → aH, set_comm → aJ, mem_filterMap → aM, append_nil → aN, nodup_cons → aO, replicate → aP, length_take → aR, getElem?_replicate → aS, getElem?_take_of_lt → aT, take_sublist → aU, filterMap_map → aV, length_drop → aW, length_set → aX, reverse_cons → aY, replicate_succ → aZ, flatten_cons → a0, append_assoc → bf, foldl_cons → bg, length_singleton → bh, nil_append → bi, map_nil → bj, find?_cons → bm, any_cons → bn, length_nil → bo, cons_append → bt, prefix_rfl → bv, nodup_nil → bA, getElem?_of_mem → bB, map_map → bD, prefix_append → bE, nodup_append → bG, all_eq_true → bH, lookup_cons → bJ, getD_eq_getElem?_getD → bM, zipIdx_cons → bN, not_mem_nil → bO, all_cons → bS, any_eq_true → bU, getElem_mem → bV, mem_iff_getElem → bW, zip_cons_cons → bX, cons_prefix_cons → bZ, take_length → b0, ext_getElem? → b4, getElem?_eq_none → b5, take_of_length_le → b7, length_reverse → b8, pairwise_cons → b9, length_eq_zero_iff → ca, pairwise_iff_getElem → cb, pairwise_lt_range → cf, map_append → cg, mem_map → ci, take_succ → cj, foldl_append → cm, length_eraseIdx_of_lt → cp, perm_middle → cq, getElem?_range → cr, getElem?_toArray → cv, contains_iff_mem → cw, forall_mem_nil → cy, mem_of_mem_take → cA, map_congr_left → cD, filter_cons → cF, take_append_of_le_length → cG, map_id → cH, take_left → cI, pairwise_map → cJ, getElem?_cons_zero → cK, all_append → cM, mem_singleton → cN, getElem?_concat_length → cO, length_filter_le → cQ, mem_flatten → cR, length_zipIdx → cT, set_append_right → cU, getElem?_zipIdx → cV, length_range → cW, mem_flatMap → cX, mem_of_mem_drop → cY
open Option renaming some → ay, isSome_iff_exists → aQ, isSome_map → bp, getD_some → cB
open Nat renaming lt_irrefl → az, le_trans → aC, le_succ → bc, lt_trans → bq, zero_le → br, add_assoc → bu, le_add_right → bC, not_lt_zero → bF, lt_succ_self → bI, lt_of_le_of_lt → bK, le_of_succ_le → bL, zero_add → bQ, lt_or_ge → bY, succ_eq_add_one → cE, sub_self → cP, mul_le_mul_right → cS
open Array renaming length_toList → aI, toList_push → cc, getElem?_eq_none → cu
open Bool renaming false_ne_true → aK, false_and → aL, and_true → bP, or_eq_true → bR, eq_iff_iff → bT, not_true → b6, true_and → cC
open PySem renaming Value → cZ, Shared → c3, Addr → c4, Program → c5, Around → c6, World → c7, mainGlobals → c8, starEach → c9, sizeLine → da, wpAny → db, codeAny → de, Heap → df, FuncData → dg, Stmt → di, Scope → dj
open Option renaming some → Z, none → Y
open Bool renaming true → M, false → J
theorem Mi.O{α}{a:α}:a=a:=rfl
open Mi (O)
theorem Mi.al{p:Prop}[Decidable p]:(decide p=true)=p:=decide_eq_true_eq
theorem Mi.ak{c:Prop}{h:Decidable c}(a:c){α:Sort _}{t e:α}:ite c t e=t:=if_pos a
theorem Mi.aj{c:Prop}{h:Decidable c}(a:¬c){α:Sort _}{t e:α}:ite c t e=e:=if_neg a
theorem Mi.ai{p:Prop}[Decidable p]:¬p→decide p=false:=decide_eq_false
theorem Mi.ah{p:Prop}[Decidable p]:p→decide p=true:=decide_eq_true
open List renaming range → af
open Mi (al ak aj ai ah)
noncomputable section
namespace L2
open PySem PySem.Spec PyProof.Rows
abbrev Key:=Sum Int Str
def rL:Key->cZ->Bool
 | .inl k,v=>Value.isInt k v
 | .inr x,v=>Value.isStrOf x v
def MV(w:c7):Key->Int
 | .inl k=>hashInt k
 | .inr x=>hashStr w x
theorem fb:∀{k:Key} {v:cZ},rL k v=M->(∃i t,k=Sum.inl i/\v=Value.int i t)\/(∃x t,k=Sum.inr x/\v=Value.str x t)
 | .inl i,v,h=>by
  obtain⟨t,e⟩:=Value.isInt_shape (k:=i) (v:=v) h;exact .inl ⟨i,t,O,e⟩
 | .inr x,v,h=>by
  obtain⟨t,e⟩:=Value.isStrOf_shape (x:=x) (v:=v) h;exact .inr ⟨x,t,O,e⟩
theorem zD(i:Int)(t:Tok):rL (.inl i) (.int i t)=M:=by simp[rL,Value.isInt]
theorem zC(x:Str)(t:Tok):rL (.inr x) (.str x t)=M:=by simp[rL,Value.isStrOf]
theorem IW(a b:Int):decide ((Sum.inl a:Key)=Sum.inl b)=(a == b):=by
 by_cases e:a=b
 ·subst e;simp
 ·have h:¬ (Sum.inl a:Key)=Sum.inl b:=λq=>e (Sum.inl.inj q);rw[ai h];exact(beq_eq_false_iff_ne.mpr e).symm
theorem IT(a b:Str):decide ((Sum.inr a:Key)=Sum.inr b)=decide (a=b):=by
 by_cases e:a=b
 ·subst e;simp
 ·have h:¬ (Sum.inr a:Key)=Sum.inr b:=λq=>e (Sum.inr.inj q);rw[ai h,ai e]
theorem IV(a:Int)(b:Str):decide ((Sum.inl a:Key)=Sum.inr b)=J:=ai (λq=>nomatch q)
theorem IU(a:Str)(b:Int):decide ((Sum.inr a:Key)=Sum.inl b)=J:=ai (λq=>nomatch q)
def eF(prog:c5)(w:c7):PySem.KeyKind prog w Key where
 is:=rL
 hash:=MV w
 inj:=λv a b ha hb=>by
  rcases fb ha with⟨i,t,rfl,rfl⟩|⟨x,t,rfl,rfl⟩
  ·rcases fb hb with⟨j,u,rfl,e⟩|⟨y,u,rfl,e⟩
   ·injection e with e1 _;rw[e1]
   ·exact nomatch e
  ·rcases fb hb with⟨j,u,rfl,e⟩|⟨y,u,rfl,e⟩
   ·exact nomatch e
   ·injection e with e1 _;rw[e1]
 byValue:=λk v h=>by
  rcases fb h with⟨i,t,rfl,rfl⟩|⟨x,t,rfl,rfl⟩<;>rfl
 pyHash:=λhv h=>by
  rcases fb hv with⟨i,t,rfl,rfl⟩|⟨x,t,rfl,rfl⟩
  ·exact wpAny_pyHash_int h
  ·exact wpAny_pyHash_str h
 eqBool:=λhu hv h=>by
  rcases fb hu with⟨i,t,rfl,rfl⟩|⟨x,t,rfl,rfl⟩
  ·rcases fb hv with⟨j,u,rfl,rfl⟩|⟨y,u,rfl,rfl⟩
   ·rw[IW]at h;exact wpAny_eqBool_int h
   ·rw[IV]at h;exact SeqAt.EqAt.int_str i t y u _ _ _ _ h
  ·rcases fb hv with⟨j,u,rfl,rfl⟩|⟨y,u,rfl,rfl⟩
   ·rw[IU]at h;exact SeqAt.EqAt.str_int x t j u _ _ _ _ h
   ·rw[IT]at h;exact wpAny_eqBool_str h
 «strs» :=λk x t v h=>by
  rcases fb h with⟨i,u,rfl,e⟩|⟨y,u,rfl,e⟩
  ·exact nomatch e
  ·injection e with e1 _;subst e1;cases v<;>rfl
theorem u7(prog:c5)(w:c7)(i:Int)(t:Tok):(eF prog w).is (.inl i) (.int i t)=M:=zD i t
theorem u6(prog:c5)(w:c7)(x:Str)(t:Tok):(eF prog w).is (.inr x) (.str x t)=M:=zC x t
end L2
namespace L2
open PySem PySem.Spec PyProof.Rows
inductive V where
 |non|bl (b:Bool)|int (i:Int)|str (x:Str)|byt (b:Array UInt8)|flt (b:UInt64)|ref (a:c4)|ty (n:String)
 deriving DecidableEq
def dS:V->cZ->Prop
 | .non,u=>u=Value.none
 | .bl b,u=>u=Value.bool b
 | .int i,u=>∃t,u=Value.int i t
 | .str x,u=>∃t,u=Value.str x t
 | .byt b,u=>∃t,u=Value.bytes b t
 | .flt b,u=>∃t,u=Value.float b t
 | .ref a,u=>u=Value.ref a
 | .ty n,u=>u=Value.type n
abbrev d5:List V->List cZ->Prop:=Paired dS
theorem d5.length{xs:List V}{a:List cZ}(r:d5 xs a):xs.length=a.length:=Paired.length r
theorem d5.get:∀{xs:List V} {a:List cZ} {i:Nat} {x:V},d5 xs a->xs[i]?=Z x -> ∃u,a[i]?=Z u/\dS x u:=by
 intro xs a i x h e
 induction h generalizing i with
 |nil=>cases e
 |cons r t ih=>cases i with
  |zero=>cases e;exact⟨_,O,r⟩
  |succ i=>exact ih (i:=i) e
theorem d5.set{x:V}{u:cZ}(r:dS x u):∀{xs:List V} {a:List cZ} (i:Nat),d5 xs a->d5 (xs.set i x) (a.set i u):=by
 intro xs a i h
 induction h generalizing i with
 |nil=>exact .nil
 |cons q t ih=>cases i with
  |zero=>exact .cons r t
  |succ i=>exact .cons q (ih i)
theorem d5.append:∀{xs ys:List V} {a ws:List cZ},d5 xs a->d5 ys ws->d5 (xs++ys) (a++ws):=by
 intro xs ys a ws h s
 induction h with
 |nil=>exact s
 |cons r t ih=>exact .cons r ih
theorem d5.take:∀{xs:List V} {a:List cZ} (n:Nat),d5 xs a->d5 (xs.take n) (a.take n):=by
 intro xs a n h
 induction h generalizing n with
 |nil=>rw[av,av];exact .nil
 |cons r t ih=>cases n with
  |zero=>exact .nil
  |succ n=>exact .cons r (ih n)
theorem d5.drop:∀{xs:List V} {a:List cZ} (n:Nat),d5 xs a->d5 (xs.drop n) (a.drop n):=by
 intro xs a n h
 induction h generalizing n with
 |nil=>rw[aw,aw];exact .nil
 |cons r t ih=>cases n with
  |zero=>exact .cons r t
  |succ n=>exact ih n
def mZ:Option V->Option cZ->Prop
 |some v,Z u=>dS v u
 |none,Y=>True
 |_,_=>False
def KV{κ:Type}:List (κ×V)->List (κ×cZ)->Prop:=Paired λ(p:κ×V) (q:κ×cZ)=>p.1=q.1/\dS p.2 q.2
def kV:Key->V
 | .inl i=>.int i
 | .inr x=>.str x
inductive HO where
 /-- a list -/
 |lst (xs:List V)
 /-- a tuple (never changes) -/
 |tup (xs:List V)
 /-- a dict whose keys are ints and texts; one whose keys are tuples of ints and texts (the empty one is both) -/
 |dK (kvs:List (Key×V))|dT (kvs:List (List Key×V))
 /-- a set of ints: its members, its size -/
 |set (S:Int->Bool) (n:Nat)
 /-- an instance of the class at C, its dict at dx, its attributes -/
 |ins (C dx:c4) (fs:List (Str×V))
 /-- the dict of the instance at x -/
 |own (x:c4)
 /-- the dict of an exception -/
 |xd (fs:List (Str×V))
 /-- a bound method, f of x -/
 |met (f x:c4)
 /-- a range object lo, lo + 1, .. below hi -/
 |rng (lo hi:Int)
 /-- a thing that is known to the object (the script; a dict while a loop walks it): read, never written while it is so -/
 |frz (o:Obj) (u:HO)
 /-- a code object's table -/
 |tbl (ps:Array cZ)
 /-- any other thing, by what is true of its one object (a def of one's own: SetO a S n := HO.ext λh => ..) -/
 |ext (φ:df->Prop)
abbrev Hp:=c4->Option HO
def upd(H:Hp)(a:c4)(o:HO):Hp:=λb=>if b=a then Z o else H b
theorem d9{H:Hp}{a:c4}{o:HO}:upd H a o a=Z o:=by unfold upd;rw[ak O]
theorem d0{H:Hp}{a b:c4}{o:HO}(h:b≠a):upd H a o b=H b:=by unfold upd;rw[aj h]
theorem KO{H:Hp}{a b:c4}{o u:HO}(h:H a=Z o)(h':H b=Z u)(d:o≠u):a≠b:=by
 intro e;subst e;rw[h]at h';exact d (Option.some.inj h')
theorem ew{H:Hp}{a b:c4}{o:HO}(h:H a=Z o)(h':H b=Y):a≠b:=by
 intro e;subst e;rw[h]at h';cases h'
section
variable(P:c5) (w:c7)
def eM(H:Hp)(h:df)(a:c4):HO->Prop
 | .lst xs=>xs.length<=da /\ ∃(its:List cZ) (n:Nat),d5 xs its/\h.get? a=Z {cls:=.type "list",data:=.seq its.toArray n}
 | .tup xs=>xs.length<=da /\ ∃its:List cZ,d5 xs its/\IsTup h a its.toArray
 | .dK kvs=>kvs.length<=da/\(a == sysModules)=J /\ ∃vs,KV kvs vs/\h.DictOf (eF P w) a vs
 | .dT kvs=>kvs.length<=da/\(a == sysModules)=false /\ ∃ xs:List (List Key×c4×cZ),
   Paired (λ(p:List Key×V) (q:List Key×c4×cZ)=>p.1=q.1/\H q.2.1=Z (.tup (p.1.map kV))/\dS p.2 q.2.2) kvs xs /\
   ∃o es ep,h.get? a=Z o/\o.ExactDict/\o.data = .dict es ep/\es.toList=xs.map (entryOfKey (tupleKind (eF P w)))/\(xs.map (·.1)).Nodup
 | .set S n=>h.SetOf (intKind P w) a S n
 | .ins C dx fs=>H dx=some (.own a)/\fs.length<=1000/\dx≠a/\h.get? a=some (PySem.W.instObj C dx) /\
   ∃mA,h.Ns1 dx mA/\(∀f,mZ (fs.lookup f) (mA f))/\PySem.Within mA (fs.map (·.1))
 | .own _=>∃o,h.get? a=Z o
 | .xd fs=>∃mA,h.Ns1 a mA /\ ∀f,mZ (fs.lookup f) (mA f)
 | .rng lo hi=>∃t u v,h.get? a=Z {cls:=.type "range",data:=.fields #[.int lo t,.int hi u,.int 1 v]}
 | .frz o u=>h.get? a=Z o/\eM H h a u
 | .tbl ps=>h.get? a=Z {cls:=.none,data:=.fields ps}
 | .met f x=>h.get? a=Z (PySem.W.methodObj (.ref f) (.ref x))
 | .ext φ=>φ h/\(∃o,h.get? a=Z o) /\ ∀h1 h2:df,φ h1->(∀o,h1.get? a=Z o->h2.get? a=Z o)->φ h2
def lI(H:Hp)(h:df):Prop:=∀a o,H a=Z o->eM P w H h a o
end
section
variable{P:c5}{w:c7}{H H':Hp}{h h':df}{a:c4}{o:HO}
theorem eM.lt(x:eM P w H h a o):a<h.objs.size:=by
 cases o with
 |lst xs=>obtain⟨_,_,_,_,e⟩:=x;exact hL1 e
 |tup xs=>obtain⟨_,_,_,p⟩:=x;exact p.lt
 |dK kvs=>obtain⟨_,_,_,_,o,_,_,e,_⟩:=x;exact hL1 e
 |dT kvs=>obtain⟨_,_,_,_,o,_,_,e,_⟩:=x;exact hL1 e
 |set S n=>obtain⟨o,_,_,_,e,_⟩:=x;exact hL1 e
 |ins C dx fs=>obtain⟨_,_,_,e,_⟩:=x;exact hL1 e
 |own y=>obtain⟨_,e⟩:=x;exact hL1 e
 |xd fs=>obtain⟨_,⟨_,_,_,e,_⟩,_⟩:=x;exact hL1 e
 |rng lo hi=>obtain⟨_,_,_,e⟩:=x;exact hL1 e
 |frz b u=>obtain⟨e,_⟩:=x;exact hL1 e
 |tbl ps=>exact hL1 (show h.get? a=Z _ from x)
 |met f y=>exact hL1 (show h.get? a=Z _ from x)
 |ext φ=>obtain⟨_,⟨_,e⟩,_⟩:=x;exact hL1 e
theorem Paired.mapP{α β:Type}{F G:α->β->Prop}:∀{l₁:List α} {l₂:List β},Paired F l₁ l₂->(∀a b,F a b->G a b)->Paired G l₁ l₂:=by
 intro a b h f
 induction h with
 |nil=>exact .nil
 |cons r t ih=>exact .cons (f _ _ r) ih
theorem eM.stay(x:eM P w H h a o)(k:∀ b u,(b=a\/H b=Z (.own a))->h.get? b=Z u->h'.get? b=Z u)(ho:∀b,H b=Z (.own a)->H' b=Z (.own a))(ht:∀b xs,H b=Z (.tup xs)->H' b=Z (.tup xs)):eM P w H' h' a o:=by
 induction o with
 |lst xs=>obtain⟨z,i,n,r,e⟩:=x;exact⟨z,i,n,r,k _ _ (.inl O) e⟩
 |tup xs=>obtain⟨z,i,r,g,e,c⟩:=x;exact⟨z,i,r,g,k _ _ (.inl O) e,c⟩
 |dK kvs=>obtain⟨z,y,vs,r,g,es,ep,e,c⟩:=x;exact⟨z,y,vs,r,g,es,ep,k _ _ (.inl O) e,c⟩
 |dT kvs=>
  obtain⟨z,y,xs,r,g,es,ep,e,c⟩:=x;exact⟨z,y,xs,Paired.mapP r λp q z=>⟨z.1,ht _ _ z.2.1,z.2.2⟩,g,es,ep,k _ _ (.inl O) e,c⟩
 |set S n=>obtain⟨g,es,ep,t,e,c⟩:=x;exact⟨g,es,ep,t,k _ _ (.inl O) e,c⟩
 |ins C dx fs=>
  obtain⟨d,z,ne,e,mA,⟨j,es,ep,l,c⟩,r⟩:=x;exact⟨ho _ d,z,ne,k _ _ (.inl O) e,mA,⟨j,es,ep,k _ _ (.inr d) l,c⟩,r⟩
 |own y=>obtain⟨g,e⟩:=x;exact⟨g,k _ _ (.inl O) e⟩
 |xd fs=>obtain⟨mA,⟨j,es,ep,e,c⟩,r⟩:=x;exact⟨mA,⟨j,es,ep,k _ _ (.inl O) e,c⟩,r⟩
 |rng lo hi=>obtain⟨t,u,v,e⟩:=x;exact⟨t,u,v,k _ _ (.inl O) e⟩
 |frz g u ih=>obtain⟨e,q⟩:=x;exact⟨k _ _ (.inl O) e,ih q⟩
 |tbl ps=>
  have e:h.get? a=Z {cls:=.none,data:=.fields ps}:=x;show h'.get? a=Z {cls:=.none,data:=.fields ps};exact k a _ (.inl O) e
 |met f y=>
  have e:h.get? a=Z (PySem.W.methodObj (.ref f) (.ref y)):=x;show h'.get? a=Z (PySem.W.methodObj (.ref f) (.ref y));exact k a _ (.inl O) e
 |ext φ=>obtain⟨p,⟨o,e⟩,st⟩:=x;exact⟨st _ _ p λo q=>k _ _ (.inl O) q,⟨o,k _ _ (.inl O) e⟩,st⟩
theorem lI.lt(x:lI P w H h)(e:H a=Z o):a<h.objs.size:=(x a o e).lt
theorem lI.fresh(x:lI P w H h)(e:h.objs.size<=a):H a=Y:=by
 cases q:H a with
 |none=>rfl
 |some u=>exact absurd (nL1 (x.lt q) e) (az _)
theorem lI.kept(x:lI P w H h)(k:∀b u,h.get? b=Z u->h'.get? b=Z u):lI P w H h':=λa o e=>
 (x a o e).stay (λb u _ q=>k b u q) (λ_ q=>q) λ_ _ q=>q
theorem lI.laid(x:lI P w H h)(k:∀b u,h.get? b=Z u->h'.get? b=Z u)(hp:h.objs.size<=a)(new:eM P w (upd H a o) h' a o):lI P w (upd H a o) h':=λb u e=>by
 have d:=x.fresh hp;by_cases f:b=a
 ·subst f;rw[d9]at e;cases e;exact new
 ·rw[d0 f]at e;exact(x b u e).stay (λc v _ q=>k c v q) (λc q=>by rw[d0 (ew q d)];exact q) λc xs q=>by rw[d0 (ew q d)];exact q
end
def Rd(H:Hp)(a:c4)(u:HO):Prop:=H a=Z u \/ ∃o,H a=Z (.frz o u)
theorem Rd.of{H:Hp}{a:c4}{u:HO}(h:H a=Z u):Rd H a u:=.inl h
theorem Rd.ok{P:c5}{w:c7}{H:Hp}{h:df}{a:c4}{u:HO}(r:Rd H a u)(x:lI P w H h):eM P w H h a u:=by
 rcases r with r|⟨o,r⟩
 ·exact x a u r
 ·obtain⟨_,q⟩:=x a _ r;exact q
def JG:Option HO->Prop
 |some (.lst _)=>True
 |some (.dK _)=>True
 |some (.dT _)=>True
 |some (.set _ _)=>True
 |some (.ins _ _ _)=>True
 |some (.ext _)=>True
 |_=>False
section
variable{P:c5}{w:c7}{H:Hp}{h h':df}{x e:c4}{o':HO}
theorem lI.write(ok:lI P w H h)(mu:JG (H x))(he:e=x\/H e=Z (.own x))(k:∀ b u,b≠e->h.get? b=Z u->h'.get? b=Z u)(i:∃ u,h'.get? e=Z u)(new:eM P w (upd H x o') h' x o'):lI P w (upd H x o') h':=λb u q=>by
 have d:∀c y,H c=Z (.own y)->c≠x:=λc y r z=>by subst z;rw[r]at mu;exact mu
 have f:∀c xs,H c=Z (.tup xs)->c≠x:=λc xs r z=>by subst z;rw[r]at mu;exact mu
 by_cases g:b=x
 ·subst g;rw[d9]at q;cases q;exact new
 ·rw[d0 g]at q;by_cases a:b=e
  ·have j:H b=some (.own x):=by
    rcases he with z|z
    ·exact absurd (a.trans z) g
    ·rw[a];exact z
   rw[q]at j;cases j;obtain⟨v,l⟩:=i;exact⟨v,by rw[a];exact l⟩
  ·refine(ok b u q).stay (λc v hc r=>k c v ?_ r) (λc r=>by rw[d0 (d c b r)];exact r) λc xs r=>by rw[d0 (f c xs r)];exact r
   rcases hc with rfl|hc
   ·exact a
   ·rintro rfl;rcases he with z|z
    ·exact d c b hc z
    ·rw[hc]at z;cases z;exact g O
end
structure Un (fs ex:List c4)(H H':Hp)(h h':df):Prop where
 keep:∀b o,h.get? b=some o->H b=none->b∉fs->b∉ex->h'.get? b=some o
 slot:∀b o,h.get? b=some o->H b=none->b∈fs->b∉ex -> ∃sl,h'.get? b=some {o with slots:=sl}
 free:∀b o,h.get? b=some o->H b=none->b∉ex->H' b=none
 there:∀b o,h.get? b=some o->b∉ex -> ∃o',h'.get? b=some o'
 tups:∀b xs,H b=some (.tup xs)->H' b=some (.tup xs)
 frzs:∀b o u,H b=some (.frz o u)->H' b=some (.frz o u)
 tbls:∀b ps,H b=some (.tbl ps) -> ∃more,H' b=some (.tbl (ps++more))
section
variable{fs fs' ex ex':List c4}{H H1 H2:Hp}{h h1 h2 h':df}{a x e:c4}{o:HO}
theorem Un.any(u:Un fs ex H H1 h h1){b:c4}{a:Obj}(q:h.get? b=Z a)(n:H b=Y)(hx:b∉ex):∃d,h1.get? b=Z {a with slots:=d}:=by
 by_cases c:b∈fs
 ·exact u.slot b a q n c hx
 ·exact⟨a.slots,u.keep b a q n c hx⟩
theorem Un.trans(a:Un fs ex H H1 h h1)(b:Un fs ex H1 H2 h1 h2):Un fs ex H H2 h h2 where
 keep:=λc e q n hc d=>b.keep c e (a.keep c e q n hc d) (a.free c e q n d) hc d
 slot:=λc e q n hc d=>by
  obtain⟨j,f⟩:=a.slot c e q n hc d;obtain⟨i,g⟩:=b.slot c _ f (a.free c e q n d) hc d;exact⟨i,g⟩
 free:=λc e q n d=>by
  obtain⟨o',f⟩:=a.there c e q d;exact b.free c o' f (a.free c e q n d) d
 there:=λc e q d=>by
  obtain⟨o',f⟩:=a.there c e q d;exact b.there c o' f d
 tups:=λc xs q=>b.tups c xs (a.tups c xs q)
 frzs:=λc e xs q=>b.frzs c e xs (a.frzs c e xs q)
 tbls:=λc ps q=>by
  obtain⟨m1,f⟩:=a.tbls c ps q;obtain⟨m2,g⟩:=b.tbls c _ f;exact⟨m1++m2,by rw[g,Array.append_assoc]⟩
theorem Un.kept(k:∀b u,h.get? b=Z u->h'.get? b=Z u):Un fs ex H H h h':=
 ⟨λb a q _ _ _=>k b a q,λb a q _ _ _=>⟨a.slots,k b a q⟩,λ_ _ _ n _=>n,λb a q _=>⟨a,k b a q⟩,λ_ _ q=>q,λ_ _ _ q=>q,λ_ ps q=>⟨#[],by rw[q];simp⟩⟩
theorem Un.refl:Un fs ex H H h h:=Un.kept λ_ _ q=>q
theorem Un.laid(k:∀b u,h.get? b=Z u->h'.get? b=Z u)(hp:h.objs.size<=a)(hn:H a=Y):Un fs ex H (upd H a o) h h' where
 keep:=λb u q _ _ _=>k b u q
 slot:=λb u q _ _ _=>⟨u.slots,k b u q⟩
 free:=λb u q n _=>by rw[d0 (nN1 (nL1 (hL1 q) hp))];exact n
 there:=λb u q _=>⟨u,k b u q⟩
 tups:=λb xs q=>by rw[d0 (ew q hn)];exact q
 frzs:=λb u xs q=>by rw[d0 (ew q hn)];exact q
 tbls:=λb ps q=>⟨#[],by rw[d0 (ew q hn),q];simp⟩
theorem Un.write(mu:JG (H x))(he:e=x\/H e=Z (.own x))(k:∀b u,b≠e->h.get? b=Z u->h'.get? b=Z u)(d:∃u,h'.get? e=Z u):Un fs ex H (upd H x o) h h':=by
 have f:∀b,H b=Y->b≠x:=λb n z=>by subst z;rw[n]at mu;exact mu
 have g:∀b,H b=Y->b≠e:=λb n z=>by
  subst z;rcases he with r|r
  ·exact f b n r
  ·rw[n]at r;cases r
 have c:∀b u,H b=Z u -> ¬ JG (Z u)->b≠x:=λb u q nm z=>by subst z;rw[q]at mu;exact nm mu
 refine⟨λb u q n _ _=>k b u (g b n) q,λb u q n _ _=>⟨u.slots,k b u (g b n) q⟩,λb u q n _=>by rw[d0 (f b n)];exact n,λb u q _=>?_,
  λb xs q=>by rw[d0 (c b _ q λz=>z)];exact q,λb u xs q=>by rw[d0 (c b _ q λz=>z)];exact q,λb ps q=>⟨#[],by rw[d0 (c b _ q λz=>z),q];simp⟩⟩
 by_cases a:b=e
 ·subst a;exact d
 ·exact⟨u,k b u a q⟩
end
def trk(h:df)(H:Hp):List c4:=(af h.objs.size).filter λa=>(H a).isSome
def tJ(h:df)(H:Hp):df:=PySem.W.hideAll h (trk h H)
theorem zL(h:df)(H:Hp):(tJ h H).objs.size=h.objs.size:=PySem.W.hideAll_size _ _
theorem CA{h:df}{H:Hp}{b:c4}{o:Obj}(e:h.get? b=Z o)(n:H b=Y):(tJ h H).get? b=Z o:=
 PySem.W.hideAll_get _ e λa=>by
  have q:(H b).isSome=M:=(aA.mp a).2;rw[n]at q;simp at q
theorem En{h:df}{H:Hp}{b:c4}{o:Obj}(e:(tJ h H).get? b=Z o):h.get? b=Z o/\H b=Y:=by
 have a:h.get? b=Z o:=PySem.W.of_hideAll (trk h H) e;refine⟨a,?_⟩;cases q:H b with
 |none=>rfl
 |some x=>
  have c:b∈trk h H:=aA.mpr ⟨aB.mpr (hL1 a),by simp[q]⟩;have z:(tJ h H).get? b=Y:=PySem.W.hideAll_none (trk h H) c;rw[z]at e;cases e
def FX(g h:df)(L:c4):List (c4×Obj):=(af h.objs.size).filterMap λa=>if a=L\/(g.get? a).isSome=M then Y else(h.get? a).map λo=>(a,o)
def rest(g h:df)(L d:c4):List (c4×Obj):=(FX g h L).filter λp=>decide (p.1≠d)
end L2
namespace L2
open PySem PySem.Spec PyProof.Rows
structure Mod (K:Fg1)(mg:Str->Option cZ)(base:df):Prop where
 kin:K.In base
 glob:base.Ns c8 mg
 blt:∃mb,base.Ns builtinsNs mb /\ ∀x:Str,x≠"__name__"->mb x=bootBuiltins x
 nolimit:base.NoLimit
structure Cx where
 prog:c5
 w:c7
 K:Fg1
 mg:Str->Option cZ
 base:df
 A:c6
 N:List Str
 s₀:c3
 H₀:Hp
 env:Env
 outer:List Env
 stack:List Env
 ex:List c4
 fn:Str->Bool
 calm:Bool
 pn:List (c4×Obj)
 xe:cZ->c3->Prop
def frs(l:List Env):List c4:=l.filterMap (·.frame)
abbrev Cx.fs(X:Cx):List c4:=frs X.outer
def Vis(sc:dj)(x:Str):Prop:=sc.names.lookup x=Z .local\/sc.names.lookup x=Z .cell\/sc.names.lookup x=Z .free
def xy(sc:dj)(x:Str):Prop:=sc.names.lookup x=Z .local\/sc.names.lookup x=Z .cell
def Nn(env:Env)(h:df)(m:Str->Option cZ)(x:Str)(u:cZ):Prop:=
 (env.kindOf x=Z .local/\m x=Z u)\/((env.kindOf x=Z .cell\/env.kindOf x=Z .free) /\ ∃c,env.cells.lookup x=Z c/\h.IsCell c (Z u))
structure Cx.Ok (X:Cx):Prop where
 mod:Mod X.K X.mg X.base
 kind:X.env.scope.kind = .function
 glob:X.env.globals=c8
 blt:X.env.builtins=builtinsNs
 above:X.s₀.heap.objs.size<=X.env.locals
 inj:∀x y c,X.env.cells.lookup x=some c->X.env.cells.lookup y=some c->x=y
 has:∀x,(X.env.kindOf x=some .cell\/X.env.kindOf x=some .free) -> ∃c,X.env.cells.lookup x=some c
 cab:∀x c,X.fn x=true->X.env.cells.lookup x=some c->X.s₀.heap.objs.size<=c
 hd:X.calm=true->X.A.handled=none
 frames:X.A.frames=some X.stack
 stk:X.stack=X.outer\/(X.stack=X.env::X.outer/\X.env.frame=some X.env.locals)
 exf:∀b∈X.ex,b≠X.env.locals /\ ∀x c,X.env.cells.lookup x=some c->c≠b
 bs:∀b o,X.base.get? b=some o->X.s₀.heap.get? b=some o/\X.H₀ b=none
 bsz:X.base.objs.size<=X.s₀.heap.objs.size
 noex:∀b o,X.base.get? b=some o->b∉X.ex
 exfs:∀b∈X.ex,b∉X.fs
 funs:X.s₀.heap.FunFrames X.base X.outer
 frf:∀b∈X.fs,X.H₀ b=none
structure Inv (X:Cx)(ag:List (c4×Obj))(σ:List (Option V))(H:Hp)(s:c3):Prop where
 ok:X.Ok
 os:s.os=X.s₀.os
 bare:AllBare s.gens
 base:Un X.fs X.ex X.H₀ H X.s₀.heap s.heap
 loc:∃m,s.heap.Ns X.env.locals m /\ ∀(i:Nat) (x:Str) (v:V),X.N[i]?=some x->σ[i]?=some (some v)->Vis X.env.scope x -> ∃u,dS v u/\Nn X.env s.heap m x u
 cell:∀x c,X.env.cells.lookup x=some c -> ∃v,s.heap.IsCell c v
 free:H X.env.locals=none
 freeC:∀x c,X.env.cells.lookup x=some c->H c=none
 pin:∀p∈X.pn++ag,s.heap.get? p.1=some p.2/\H p.1=none/\p.1≠X.env.locals/\p.1∉X.fs /\ ∀v,p.2.data ≠ .cell v
 hok:lI X.prog X.w H s.heap
 len:σ.length=X.N.length
section
variable{X:Cx}{ag:List (c4×Obj)}{σ:List (Option V)}{H H':Hp}{s:c3}{h':df}
theorem Cx.Ok.nofr(ok:X.Ok){b:c4}{o:Obj}(e:X.base.get? b=Z o):b∉X.fs:=λa=>by
 have:=(ok.funs.mem a).1;rw[e]at this;cases this
theorem Inv.bs(I:Inv X ag σ H s):∀b o,X.base.get? b=Z o->s.heap.get? b=Z o/\H b=Y:=λb o e=>
 ⟨I.base.keep b o (I.ok.bs b o e).1 (I.ok.bs b o e).2 (I.ok.nofr e) (I.ok.noex b o e),I.base.free b o (I.ok.bs b o e).1 (I.ok.bs b o e).2 (I.ok.noex b o e)⟩
theorem Inv.bk(I:Inv X ag σ H s):∀b o,X.base.get? b=Z o->s.heap.get? b=Z o:=λb o e=>(I.bs b o e).1
theorem Inv.mod(I:Inv X ag σ H s):Mod X.K X.mg X.base:=I.ok.mod
theorem Inv.kIn(I:Inv X ag σ H s):X.K.In s.heap:=I.ok.mod.kin.keeps I.bk
theorem Inv.lt(I:Inv X ag σ H s):X.env.locals<s.heap.objs.size:=let ⟨_,hn,_⟩:=I.loc;hn.lt
theorem Inv.sz(I:Inv X ag σ H s):X.s₀.heap.objs.size<=s.heap.objs.size:=aC I.ok.above (Nat.le_of_lt I.lt)
theorem Inv.nofs(I:Inv X ag σ H s){a:c4}(h:s.heap.objs.size<=a):a∉X.fs:=λc=>by
 obtain⟨_,o,b,_⟩:=I.ok.funs.mem c;exact absurd (nL1 (hL1 b) (aC I.sz h)) (az _)
theorem Inv.cne(I:Inv X ag σ H s):∀x c,X.env.cells.lookup x=Z c->c≠X.env.locals:=λx c e z=>by
 obtain⟨v,o,d,f⟩:=I.cell x c e;obtain⟨m,⟨o',es,ep,a,b,_⟩,_⟩:=I.loc;rw[z,a]at d;cases d;rw[b]at f;cases f
theorem Inv.funs(I:Inv X ag σ H s):s.heap.FunFrames X.base X.outer:=by
 have all:∀(l:List Env),(∀b∈frs l,b∈X.fs)->X.s₀.heap.FunFrames X.base l->s.heap.FunFrames X.base l:=by
  intro l
  induction l with
  |nil=>intro _ _;trivial
  |cons h r ih=>
   intro f g;obtain⟨n,⟨L,o,d,j,i,k⟩,m⟩:=g;have c:L∈X.fs:=f L (by unfold frs;rw[aD,d];exact mS1);obtain⟨p,e⟩:=I.base.slot L o i (I.ok.frf L c) c λz=>I.ok.exfs L z c;exact⟨n,⟨L,_,d,j,e,k⟩,ih (λb a=>f b (by unfold frs;rw[aD,d];exact mC1 _ a)) m⟩
 exact all X.outer (λ_ a=>a) I.ok.funs
theorem Inv.stack(I:Inv X ag σ H s):s.heap.FunFrames X.base X.stack:=by
 rcases I.ok.stk with e|⟨e,a⟩
 ·rw[e];exact I.funs
 ·rw[e];obtain⟨m,b,_⟩:=I.loc;refine .cons (by rw[I.ok.kind];decide) a b ?_ I.funs;exact Heap.get?_none_of_le (aC I.ok.bsz I.ok.above)
theorem Inv.stkSub(I:Inv X ag σ H s):∀b∈frs X.stack,b∈X.env.locals::X.fs:=λb a=>by
 rcases I.ok.stk with e|⟨e,c⟩
 ·rw[e]at a;exact mC1 _ a
 ·rw[e]at a;unfold frs at a;rw[aD,c]at a;exact a
theorem Inv.stkFree(I:Inv X ag σ H s):∀b∈frs X.stack,H b=Y:=λb a=>by
 rcases aE.mp (I.stkSub b a)with e|a
 ·rw[e];exact I.free
 ·obtain⟨_,o,c,_⟩:=I.ok.funs.mem a;exact I.base.free b o c (I.ok.frf b a) λz=>I.ok.exfs b z a
theorem Inv.step{g':Array GenState}{t':Nat}{d':Drawn}{ch:List c4}(I:Inv X ag σ H s)(g:∀b∈ch,(b∈X.ex\/X.s₀.heap.objs.size<=b)/\b≠X.env.locals/\(∀x c,X.env.cells.lookup x=some c->c≠b) /\ ∀p∈X.pn++ag,p.1≠b)(keep:∀b o,b≠X.env.locals->b∉X.fs->b∉ch->s.heap.get? b=some o->H b=none->h'.get? b=some o)(slot:∀b o,b≠X.env.locals->b∈X.fs->b∉ch->s.heap.get? b=some o->H b=none -> ∃am,h'.get? b=some {o with slots:=am})(free:∀b o,b∉ch->s.heap.get? b=some o->H b=none->H' b=none)(y:∀b o,b∉ch->s.heap.get? b=some o -> ∃o',h'.get? b=some o')(E:∀b xs,H b=some (.tup xs)->H' b=some (.tup xs))(B:∀b o u,H b=some (.frz o u)->H' b=some (.frz o u))(F:∀b ps,H b=some (.tbl ps) -> ∃more,H' b=some (.tbl (ps++more)))(ns:∀m,s.heap.Ns X.env.locals m->h'.Ns X.env.locals m)(K:lI X.prog X.w H' h')(hg:AllBare g'):
  Inv X ag σ H' {s with heap:=h',gens:=g',drawn:=d',toks:=t'}:=by
 have D:∀b o,X.s₀.heap.get? b=Z o->b≠X.env.locals:=λb o e=>nN1 (nL1 (hL1 e) I.ok.above);have t:∀b o,X.s₀.heap.get? b=Z o->b∉X.ex->b∉ch:=λb o e a w=>by
  rcases(g b w).1 with z|z
  ·exact a z
  ·exact absurd (nL1 (hL1 e) z) (az _)
 have f:∀x c,X.env.cells.lookup x=Z c -> ∀v,s.heap.IsCell c v->h'.IsCell c v:=λx c e v ⟨o,A,L⟩=>by
  have h:c∉ch:=λz=>(g c z).2.2.1 x c e O;by_cases hc:c∈X.fs
  ·obtain⟨am,q⟩:=slot c o (I.cne x c e) hc h A (I.freeC x c e);exact⟨_,q,L⟩
  ·exact⟨o,keep c o (I.cne x c e) hc h A (I.freeC x c e),L⟩
 refine⟨I.ok,I.os,hg,⟨λb o e n w a=>?_,λb o e n w a=>?_,λb o e n a=>?_,λb o e a=>?_,λb xs e=>E b xs (I.base.tups b xs e),λb o xs e=>B b o xs (I.base.frzs b o xs e),λb ps e=>?_⟩,?_,λx c e=>?_,?_,λx c e=>?_,λp N=>?_,K,I.len⟩
 ·exact keep b o (D b o e) w (t b o e a) (I.base.keep b o e n w a) (I.base.free b o e n a)
 ·obtain⟨am,j⟩:=I.base.slot b o e n w a;obtain⟨G,C⟩:=slot b _ (D b o e) w (t b o e a) j (I.base.free b o e n a);exact⟨G,C⟩
 ·obtain⟨o',j⟩:=I.base.there b o e a;exact free b o' (t b o e a) j (I.base.free b o e n a)
 ·obtain⟨o',j⟩:=I.base.there b o e a;exact y b o' (t b o e a) j
 ·obtain⟨m1,j⟩:=I.base.tbls b ps e;obtain⟨m2,C⟩:=F b _ j;exact⟨m1++m2,by rw[C,Array.append_assoc]⟩
 ·obtain⟨m,au,Q⟩:=I.loc;refine⟨m,ns m au,λi x v j C P=>?_⟩;obtain⟨u,r,l⟩:=Q i x v j C P;refine⟨u,r,?_⟩;rcases l with l|⟨k,c,e,z⟩
  ·exact .inl l
  ·exact .inr ⟨k,c,e,f x c e _ z⟩
 ·obtain⟨v,z⟩:=I.cell x c e;exact⟨v,f x c e v z⟩
 ·obtain⟨m,⟨o,_,_,A,_⟩,_⟩:=I.loc;exact free _ o (λz=>(g _ z).2.1 O) A I.free
 ·obtain⟨v,o,A,L⟩:=I.cell x c e;exact free c o (λz=>(g c z).2.2.1 x c e O) A (I.freeC x c e)
 ·obtain⟨e,n,ne,ao,d⟩:=I.pin p N;have h:p.1∉ch:=λz=>(g p.1 z).2.2.2 p N O;exact⟨keep p.1 p.2 ne ao h e n,free p.1 p.2 h e n,ne,ao,d⟩
theorem Inv.un{t':Nat}(I:Inv X ag σ H s)(u:Un X.fs [] H H' s.heap h')(f:lI X.prog X.w H' h'):Inv X ag σ H' {s with heap:=h',toks:=t'}:=by
 obtain⟨m,⟨o,es,ep,h,r⟩,_⟩:=id I.loc;obtain⟨l,j⟩:=u.any h I.free (by simp);exact I.step (g':=s.gens) (d':=s.drawn) (ch:=[]) (λ_ z=>nomatch z) (λb o _ c _ e n=>u.keep b o e n c (by simp)) (λb o _ c _ e n=>u.slot b o e n c (by simp)) (λb o _ e n=>u.free b o e n (by simp)) (λb o _ e=>u.there b o e (by simp)) u.tups u.frzs u.tbls (λp i=>by
  obtain⟨o',d,g,a,k⟩:=i;rw[h]at a;cases a;exact⟨_,d,g,j,k⟩) f I.bare
theorem Inv.call{g':Array GenState}{t':Nat}{d':Drawn}{ch:List c4}(I:Inv X ag σ H s)(u:Un (frs X.stack) ch H H' s.heap h')(h:lI X.prog X.w H' h')(hg:AllBare g')(a:∀b∈ch,(b∈X.ex\/X.s₀.heap.objs.size<=b)/\b≠X.env.locals/\(∀x c,X.env.cells.lookup x=some c->c≠b) /\ ∀p∈X.pn++ag,p.1≠b):
  Inv X ag σ H' {s with heap:=h',gens:=g',drawn:=d',toks:=t'}:=by
 obtain⟨m,⟨o,es,ep,j,r⟩,_⟩:=id I.loc;obtain⟨t,g⟩:=u.any j I.free λz=>(a _ z).2.1 O;exact I.step (ch:=ch) a (λb o g k hc e n=>u.keep b o e n (λz=>(aE.mp (I.stkSub b z)).elim g k) hc) (λb o _ _ hc e n=>u.any e n hc) (λb o hc e n=>u.free b o e n hc) (λb o hc e=>u.there b o e hc) u.tups u.frzs u.tbls (λv l=>by
  obtain⟨o',f,i,d,q⟩:=l;rw[j]at d;cases d;exact⟨_,f,i,g,q⟩) h hg
theorem Inv.turned{t':Nat}{it:c4}(I:Inv X ag σ H s)(k:∀ b o,b≠it->s.heap.get? b=Z o->h'.get? b=Z o)(hn:H it=Y)(d:it≠X.env.locals)(h1:it∈X.ex\/X.s₀.heap.objs.size<=it)(h2:∀x c,X.env.cells.lookup x=Z c->c≠it)(i:∀p∈X.pn++ag,p.1≠it):Inv X ag σ H {s with heap:=h',toks:=t'}:=by
 have a:∀b u,H b=Z u->b≠it:=λb u e z=>by rw[z,hn]at e;cases e
 refine I.step (g':=s.gens) (d':=s.drawn) (ch:=[it]) (λb f=>?_) (λb o _ _ hc e _=>k b o (λz=>hc (by simp[z])) e) (λb o _ _ hc e _=>⟨o.slots,k b o (λz=>hc (by simp[z])) e⟩) (λ_ _ _ _ n=>n)
  (λb o hc e=>⟨o,k b o (λz=>hc (by simp[z])) e⟩) (λ_ _ e=>e) (λ_ _ _ e=>e) (λb ps e=>⟨#[],by rw[e];simp⟩) (λm g=>?_) (λb u e=>?_) I.bare
 ·have e:b=it:=by simpa using f
  subst e;exact⟨h1,d,h2,i⟩
 ·obtain⟨o,es,ep,h,r⟩:=g;exact⟨o,es,ep,k _ o (Ne.symm d) h,r⟩
 ·refine(I.hok b u e).stay (λc v hc q=>k c v ?_ q) (λ_ q=>q) λ_ _ q=>q;rcases hc with z|z
  ·rw[z];exact a b u e
  ·exact a c _ z
theorem Inv.tok(I:Inv X ag σ H s)(t:Nat):Inv X ag σ H {s with toks:=t}:=I.un (h':=s.heap) (t':=t) Un.refl I.hok
theorem Inv.kept{t':Nat}(I:Inv X ag σ H s)(k:∀b u,s.heap.get? b=Z u->h'.get? b=Z u):Inv X ag σ H {s with heap:=h',toks:=t'}:=I.un (Un.kept k) (I.hok.kept k)
theorem Inv.laid{a:c4}{o:HO}{t':Nat}(I:Inv X ag σ H s)(k:∀ b u,s.heap.get? b=some u->h'.get? b=some u)(hp:s.heap.objs.size<=a)(new:eM X.prog X.w (upd H a o) h' a o):
  Inv X ag σ (upd H a o) {s with heap:=h',toks:=t'}:=I.un (Un.laid k hp (I.hok.fresh hp)) (I.hok.laid k hp new)
theorem Inv.write{x e:c4}{o:HO}{t':Nat}(I:Inv X ag σ H s)(mu:JG (H x))(he:e=x\/H e=Z (.own x))(k:∀ b u,b≠e->s.heap.get? b=Z u->h'.get? b=Z u)(a:∃ u,h'.get? e=Z u)(new:eM X.prog X.w (upd H x o) h' x o):Inv X ag σ (upd H x o) {s with heap:=h',toks:=t'}:=I.un (Un.write mu he k a) (I.hok.write mu he k a new)
theorem Inv.pins_of{a:List (c4×Obj)}(I:Inv X ag σ H s)(h:∀p∈a,s.heap.get? p.1=Z p.2/\H p.1=Y/\p.1≠X.env.locals/\p.1∉X.fs /\ ∀v,p.2.data ≠ .cell v):Inv X a σ H s:=
 ⟨I.ok,I.os,I.bare,I.base,I.loc,I.cell,I.free,I.freeC,λp b=>(aF.mp b).elim (λz=>I.pin p (aG _ z)) (h p),I.hok,I.len⟩
theorem uZ{N:List Str}(hN:N.Nodup){i j:Nat}{x:Str}(a:N[i]?=Z x)(b:N[j]?=Z x):i=j:=by
 obtain⟨h1,c⟩:=gE1.mp a;obtain⟨h2,d⟩:=gE1.mp b;exact(List.getElem_inj hN).mp (c.trans d.symm)
theorem zb{ao:Model}{A:c6}{E:cZ->c3->Prop}{i:Nat}{x:Str}{v:V}{u:cZ}{Q:Unit->c3->Prop}(I:Inv X ag σ H s)(hN:X.N.Nodup)(hi:X.N[i]? = Z x)(hx:xy X.env.scope x)(r:dS v u)(h:∀s',Inv X ag (σ.set i (Z v)) H s'->(∃a,Heap.SameBut a s.heap s'.heap/\(a=X.env.locals\/X.env.cells.lookup x=Z a))->Q () s')(hf:X.fn x=M\/X.env.scope.names.lookup x=Z .local:=by first|exact .inl rfl|exact .inr rfl|assumption):db ao A (storeName X.env x u) Q E s:=by
 obtain⟨m,W,hl⟩:=id I.loc;have G:(X.env.scope.kind == .class||(X.env.scope.kind == .module&&X.env.locals != X.env.globals))=J:=by rw[I.ok.kind];rfl
 have B:i<σ.length:=by rw[I.len];exact(gE1.mp hi).1
 have cne:=I.cne;have tracked:∀{a:c4} {h':df},(∃o,s.heap.get? a=Z o/\H a=Y)->Heap.SameBut a s.heap h'->lI X.prog X.w H h':=λ{a h'} ha f b ob e=>by
  obtain⟨_,_,l⟩:=ha;refine(I.hok b ob e).stay (λc P hc q=>(f.2 c ?_).trans q) (λ_ q=>q) λ_ _ q=>q;rintro rfl;rcases hc with rfl|hc
  ·rw[l]at e;cases e
  ·rw[l]at hc;cases hc
 rcases hx with w|w
 ·refine wpAny_storeName_local w W (λh' hn' f=>?_) G;obtain⟨oL,_,_,S,_⟩:=id W;refine h _ ⟨I.ok,I.os,I.bare,⟨λb o e n C hx=>?_,λb o e n C hx=>?_,I.base.free,λb o e hx=>?_,I.base.tups,I.base.frzs,I.base.tbls⟩,⟨_,hn',λj y T g t e3=>?_⟩,λy c e=>?_,I.free,I.freeC,λp U=>?_,tracked ⟨oL,S,I.free⟩ f,by simpa using I.len⟩ ⟨_,f,.inl O⟩
  ·exact(f.2 b (nN1 (nL1 (hL1 e) I.ok.above))).trans (I.base.keep b o e n C hx)
  ·obtain⟨aq,g⟩:=I.base.slot b o e n C hx;exact⟨aq,(f.2 b (nN1 (nL1 (hL1 e) I.ok.above))).trans g⟩
  ·obtain⟨o',g⟩:=I.base.there b o e hx;exact⟨o',(f.2 b (nN1 (nL1 (hL1 e) I.ok.above))).trans g⟩
  ·by_cases D:j=i
   ·subst D;rw[hi]at g;cases g;rw[aH B]at t;cases t;exact⟨u,r,.inl ⟨w,by simp⟩⟩
   ·rw[gS1 (Ne.symm D)]at t;obtain⟨u',wq,q⟩:=hl j y T g t e3;refine⟨u',wq,?_⟩;rcases q with⟨k,e⟩|⟨k,c,e,z⟩
    ·refine .inl ⟨k,?_⟩;have:y≠x:=λe=>D (uZ hN g (e ▸ hi));simp[this,e]
    ·exact .inr ⟨k,c,e,z.sameBut f (cne y c e)⟩
  ·obtain⟨P,z⟩:=I.cell y c e;exact⟨P,z.sameBut f (cne y c e)⟩
  ·obtain⟨e,n,ne,R,d⟩:=I.pin p U;exact⟨(f.2 p.1 ne).trans e,n,ne,R,d⟩
 ·have F:X.fn x=true:=by
   rcases hf with z|z
   ·exact z
   ·rw[z]at w;cases w
  obtain⟨c,hc⟩:=I.ok.has x (.inl w);obtain⟨P,z⟩:=I.cell x c hc;refine wpAny_storeName_cell I.ok.kind w hc z (λh' N f=>?_);obtain⟨oc,am,K⟩:=id z;refine h {s with heap:=h'} ⟨I.ok,I.os,I.bare,⟨λb o e n C hx=>?_,λb o e n C hx=>?_,I.base.free,λb o e hx=>?_,I.base.tups,I.base.frzs,I.base.tbls⟩,⟨m,W.sameBut f (Ne.symm (cne x c hc)),λj y T g t e3=>?_⟩,λy au e=>?_,I.free,I.freeC,λp U=>?_,tracked ⟨oc,am,I.freeC x c hc⟩ f,by simpa using I.len⟩ ⟨c,f,.inr hc⟩
  ·exact(f.2 b (nN1 (nL1 (hL1 e) (I.ok.cab x c F hc)))).trans (I.base.keep b o e n C hx)
  ·obtain⟨aq,g⟩:=I.base.slot b o e n C hx;exact⟨aq,(f.2 b (nN1 (nL1 (hL1 e) (I.ok.cab x c F hc)))).trans g⟩
  ·obtain⟨o',g⟩:=I.base.there b o e hx;exact⟨o',(f.2 b (nN1 (nL1 (hL1 e) (I.ok.cab x c F hc)))).trans g⟩
  ·by_cases D:j=i
   ·subst D;rw[hi]at g;cases g;rw[aH B]at t;cases t;exact⟨u,r,.inr ⟨.inl w,c,hc,N⟩⟩
   ·rw[gS1 (Ne.symm D)]at t;obtain⟨u',wq,q⟩:=hl j y T g t e3;refine⟨u',wq,?_⟩;rcases q with q|⟨k,au,e,z'⟩
    ·exact .inl q
    ·refine .inr ⟨k,au,e,z'.sameBut f ?_⟩;rintro rfl;exact D (uZ hN g (I.ok.inj _ _ _ e hc ▸ hi))
  ·by_cases L:au=c
   ·subst L;exact⟨_,N⟩
   ·obtain⟨w2,z2⟩:=I.cell y au e;exact⟨w2,z2.sameBut f L⟩
  ·obtain⟨e,n,ne,R,d⟩:=I.pin p U;refine⟨(f.2 p.1 ?_).trans e,n,ne,R,d⟩;intro q;rw[q,am]at e;have q':oc=p.2:=Option.some.inj e;exact d P (by rw[<- q'];exact K)
theorem hO{ao:Model}{A:c6}{E:cZ->c3->Prop}{i:Nat}{x:Str}{v:V}{u:cZ}{Q:Unit->c3->Prop}(I:Inv X ag σ H s)(hN:X.N.Nodup)(hi:X.N[i]? = Z x)(hx:xy X.env.scope x)(r:dS v u)(h:∀s',Inv X ag (σ.set i (Z v)) H s'->Q () s')(hf:X.fn x=M\/X.env.scope.names.lookup x=Z .local:=by first|exact .inl rfl|exact .inr rfl|assumption):db ao A (storeName X.env x u) Q E s:=
 zb I hN hi hx r (λs' a _=>h s' a) hf
theorem Inv.call'{s':c3}{ch:List c4}(I:Inv X ag σ H s)(ho:s'.os=s.os)(u:Un (frs X.stack) ch H H' s.heap s'.heap)(d:lI X.prog X.w H' s'.heap)(hg:AllBare s'.gens)(a:∀b∈ch,(b∈X.ex\/X.s₀.heap.objs.size<=b)/\b≠X.env.locals/\(∀x c,X.env.cells.lookup x=Z c->c≠b) /\ ∀p∈X.pn++ag,p.1≠b):Inv X ag σ H' s':=by
 obtain⟨h',f,h,g,o'⟩:=s';have e:o'=s.os:=ho;subst e;exact I.call (g':=f) (t':=g) (d':=h) u d hg a
end
abbrev XK:=cZ->Option c4->Hp->Prop
abbrev St:=List (Option V)
abbrev VK:=V->Hp->Prop
abbrev TE:=St->Hp->VK->Prop
abbrev TT:=St->Hp->(Bool->Hp->Prop)->Prop
abbrev TA:=St->Hp->(List V->Hp->Prop)->Prop
structure kl where
 nx:St->Hp->Prop
 rt:VK
 bk:St->Hp->Prop:=λ_ _=>False
 ct:St->Hp->Prop:=λ_ _=>False
abbrev TS:=kl->St->Hp->Prop
def EP(X:Cx)(ag:List (c4×Obj))(σ:St)(Q:VK)(u:cZ)(s':c3):Prop:=∃v H',Inv X ag σ H' s'/\dS v u/\Q v H'
def TP(X:Cx)(ag:List (c4×Obj))(σ:St)(Q:Bool->Hp->Prop)(b:Bool)(s':c3):Prop:=∃H',Inv X ag σ H' s'/\Q b H'
def AP(X:Cx)(ag:List (c4×Obj))(σ:St)(Q:List V->Hp->Prop)(us:List cZ)(s':c3):Prop:=∃vs H',Inv X ag σ H' s'/\d5 vs us/\Q vs H'
def SP(X:Cx)(ag:List (c4×Obj))(D:kl)(f:Flow)(s':c3):Prop:=
 match f with
 | .next=>∃ σ' H',Inv X ag σ' H' s'/\D.nx σ' H'
 | .brk=>∃ σ' H',Inv X ag σ' H' s'/\D.bk σ' H'
 | .cont=>∃ σ' H',Inv X ag σ' H' s'/\D.ct σ' H'
 | .ret u=>∃v σ' H',Inv X ag σ' H' s'/\dS v u/\D.rt v H'
def PE(X:Cx)(e:Expr)(t:TE):Prop:=
 ∀(ag:List (c4×Obj)) (s:c3) (σ:St) (H:Hp) (Q:VK),Inv X ag σ H s->t σ H Q->db (model X.prog X.w) X.A (eval e X.env) (EP X ag σ Q) X.xe s
def PT(X:Cx)(e:Expr)(t:TT):Prop:=
 ∀(ag:List (c4×Obj)) (s:c3) (σ:St) (H:Hp) (Q:Bool->Hp->Prop),Inv X ag σ H s->t σ H Q->db (model X.prog X.w) X.A (isTrue e X.env (eval e X.env)) (TP X ag σ Q) X.xe s
def PW(X:Cx)(e:Expr)(t:TT):Prop:=
 ∀(whole:Sem cZ) (ag:List (c4×Obj)) (s:c3) (σ:St) (H:Hp) (Q:Bool->Hp->Prop),Inv X ag σ H s->t σ H Q->db (model X.prog X.w) X.A (isTrue e X.env whole) (TP X ag σ Q) X.xe s
theorem PW.pt{X:Cx}{e:Expr}{t:TT}(h:PW X e t):PT X e t:=h _
def PA(X:Cx)(es:List Expr)(t:TA):Prop:=
 ∀(pos:Pos) (ag:List (c4×Obj)) (s:c3) (σ:St) (H:Hp) (Q:List V->Hp->Prop),Inv X ag σ H s->t σ H Q->db (model X.prog X.w) X.A (spliced (backTo pos (c9 es X.env))) (AP X ag σ Q) X.xe s
def PS(X:Cx)(st:di)(t:TS):Prop:=
 ∀(ag:List (c4×Obj)) (s:c3) (σ:St) (H:Hp) (D:kl),Inv X ag σ H s->t D σ H->db (model X.prog X.w) X.A (exec st X.env) (SP X ag D) X.xe s
def vY(X:Cx)(st:List di)(t:TS):Prop:=
 ∀(ag:List (c4×Obj)) (s:c3) (σ:St) (H:Hp) (D:kl),Inv X ag σ H s->t D σ H->db (model X.prog X.w) X.A (execs st X.env) (SP X ag D) X.xe s
theorem ff{α:Type}{t:Sem α}{Q b:α->c3->Prop}{ao:Model}{A:c6}{E:cZ->c3->Prop}{s:c3}(h:db ao A t Q E s)(c:∀a s,Q a s->b a s):db ao A t b E s:=wpAny_mono h c λ_ _ x=>x
end L2
namespace L2
open PySem PySem.Spec PyProof.Rows
section
variable{X:Cx}
theorem OC{a b:Expr}{ta tb:TE}(ha:PE X a ta)(hb:PE X b tb){ag:List (c4×Obj)}{s:c3}{σ:St}{H:Hp}{R:V->V->Hp->Prop}(I:Inv X ag σ H s)(h:ta σ H fun x H1=>tb σ H1 fun y H2=>R x y H2){α:Type}{Q:α->c3->Prop}{f:cZ->cZ->Sem α}(hf:∀v u e x y H2,Inv X ag σ H2 e->dS x v->dS y u->R x y H2->db (model X.prog X.w) X.A (f v u) Q X.xe e):
  db (model X.prog X.w) X.A (eval a X.env) (λv d=>db (model X.prog X.w) X.A (eval b X.env) (λu c=>db (model X.prog X.w) X.A (f v u) Q X.xe c) X.xe d) X.xe s:=by
 refine ff (ha ag s σ H _ I h) λv j ⟨x,H1,l,g,m⟩=>?_;refine ff (hb ag j σ H1 _ l m) λu e ⟨y,H2,k,r2,i⟩=>?_;exact hf v u e x y H2 k g r2 i
def Mj(i:Nat):TE:=fun σ H Q=>∃v,σ[i]?=Z (Z v)/\Q v H
def tC(v:V):TE:=λ_ H Q=>Q v H
theorem Hu {i:Nat}{x:Str}{pos:Pos}(hN:X.N[i]?=Z x)(hv:Vis X.env.scope x)(hd:(x == ("__debug__":Str))=J:=by decide)(hcd:(x == ("__classdict__":Str))=J:=by decide):PE X (.Name x pos) (Mj i):=by
 intro ag s σ H Q I h;obtain⟨v,e,h⟩:=h;obtain⟨m,j,f⟩:=I.loc;obtain⟨u,r,l⟩:=f i x v hN e hv;have b:EP X ag σ Q u s:=⟨v,H,I,r,h⟩;rcases l with⟨d,g⟩|⟨d,c,hc,a⟩
 ·exact wpAny_Name (wpAny_loadName_local I.ok.kind d j g b) hd
 ·rcases d with d|d
  ·exact wpAny_Name (wpAny_loadName_cell I.ok.kind d hc a b) hd
  ·exact wpAny_Name (wpAny_loadName_free I.ok.kind d hc a b hcd) hd
theorem HB{i j pos}:PE X (.Constant (.int i) j pos) (tC (.int i)):=λ_ _ _ H _ I h=>wpAny_Constant_int ⟨.int i,H,I.tok _,⟨_,O⟩,h⟩
theorem KA{b j pos}:PE X (.Constant (.bool b) j pos) (tC (.bl b)):=λ_ _ _ H _ I h=>Constant_bool ⟨.bl b,H,I,O,h⟩
theorem Hz{j pos}:PE X (.Constant .none j pos) (tC .non):=λ_ _ _ H _ I h=>Constant_none ⟨.non,H,I,O,h⟩
theorem Hw{x j pos}:PE X (.Constant (.str x) j pos) (tC (.str x)):=λ_ _ _ H _ I h=>Calls.Constant_str ⟨.str x,H,I.tok _,⟨_,O⟩,h⟩
def Gl(X:Cx)(x:Str):Prop:=X.env.kindOf x=Z .globalImplicit
theorem yd {E:cZ->c3->Prop}{ag:List (c4×Obj)}{s:c3}{σ:St}{H:Hp}{x:Str}{u:cZ}{pos:Pos}{Q:cZ->c3->Prop}(I:Inv X ag σ H s)(hg:Gl X x)(hm:X.mg x=some u)(h:Q u s)
  (hd:(x == ("__debug__":Str))=J:=by decide):db (model X.prog X.w) X.A (eval (.Name x pos) X.env) Q E s:=
 Calls.Name_function_global I.ok.kind hg (Calls.loadGlobal_global (by rw[I.ok.glob];exact I.mod.glob.keeps I.bk) hm h) hd
theorem j6 {E:cZ->c3->Prop}{ag:List (c4×Obj)}{s:c3}{σ:St}{H:Hp}{x:Str}{u:cZ}{pos:Pos}{Q:cZ->c3->Prop}(I:Inv X ag σ H s)(hg:Gl X x)(hm:X.mg x=none)(hv:bootBuiltins x=some u)(h:Q u s)
  (hn:x≠"__name__":=by decide) (hd:(x == ("__debug__":Str))=J:=by decide):db (model X.prog X.w) X.A (eval (.Name x pos) X.env) Q E s:=by
 obtain⟨a,h1,h2⟩:=I.mod.blt;exact Calls.Name_function_global I.ok.kind hg (Calls.loadGlobal_builtin (by rw[I.ok.glob];exact I.mod.glob.keeps I.bk) hm (by rw[I.ok.blt];exact h1.keeps I.bk) ((h2 x hn).trans hv) h) hd
theorem Ed {x:Str}{v:V}{u:cZ}{pos:Pos}(hg:Gl X x)(hm:X.mg x=Z u)(r:dS v u)(hd:(x == ("__debug__":Str))=J:=by decide):PE X (.Name x pos) (tC v):=
 λ_ _ _ H _ I h=>yd I hg hm ⟨v,H,I,r,h⟩ hd
theorem Ei {x:Str}{v:V}{u:cZ}{pos:Pos}(hg:Gl X x)(hm:X.mg x=Y)(hv:bootBuiltins x=Z u)(r:dS v u)(hn:x≠"__name__":=by decide)(hd:(x == ("__debug__":Str))=J:=by decide):PE X (.Name x pos) (tC v):=
 λ_ _ _ H _ I h=>j6 I hg hm hv ⟨v,H,I,r,h⟩ hn hd
variable{a b:Expr}{ta tb:TE}{pos:Pos}
def tB(t:TE):TT:=fun σ H Q=>t σ H λx H1=>∃c,x = .bl c/\Q c H1
variable{tA tB':TT}{rest:List Expr}
def Mx(t u:TT):TT:=fun σ H Q=>t σ H λc H1=>if c=M then u σ H1 Q else Q J H1
def NX(t u:TT):TT:=fun σ H Q=>t σ H λc H1=>if c=M then Q M H1 else u σ H1 Q
def Mo(t:TT):TT:=fun σ H Q=>t σ H λc H1=>Q (!c) H1
theorem DY(ha:PT X a tA):PW X (.BoolOp .And [a] pos) tA:=by
 intro d ag s σ H Q I h;refine isTrue_and (ff (ha ag s σ H Q I h) λc b e=>?_);cases c with
 |true=>exact isTrue_and_nil e
 |false=>exact e
theorem Hc(ha:PT X a tA):PW X (.BoolOp .Or [a] pos) tA:=by
 intro d ag s σ H Q I h;refine isTrue_or (ff (ha ag s σ H Q I h) λc b e=>?_);cases c with
 |false=>exact isTrue_or_nil e
 |true=>exact e
theorem Hd(ha:PT X a tA)(hb:PW X (.BoolOp .And (b::rest) pos) tB'):PW X (.BoolOp .And (a::b::rest) pos) (Mx tA tB'):=by
 intro g ag s σ H Q I h;refine isTrue_and (ff (ha ag s σ H _ I h) λc f ⟨H1,d,e⟩=>?_);cases c with
 |true=>exact hb g ag f σ H1 Q d e
 |false=>exact⟨H1,d,e⟩
theorem Kr(ha:PT X a tA)(hb:PW X (.BoolOp .Or (b::rest) pos) tB'):PW X (.BoolOp .Or (a::b::rest) pos) (NX tA tB'):=by
 intro g ag s σ H Q I h;refine isTrue_or (ff (ha ag s σ H _ I h) λc f ⟨H1,d,e⟩=>?_);cases c with
 |true=>exact⟨H1,d,e⟩
 |false=>exact hb g ag f σ H1 Q d e
theorem Hg(ha:PT X a tA):PT X (.UnaryOp .Not a pos) (Mo tA):=by
 intro ag s σ H Q I h;exact isTrue_not (ha ag s σ H (λc H1=>Q (!c) H1) I h)
def Ki(ta tb:TE):TE:=fun σ H Q=>ta σ H λx H1=>∃c,x = .bl c/\if c=M then tb σ H1 Q else Q (.bl J) H1
def Ka(ta:TE):TE:=fun σ H Q=>ta σ H λx H1=>∃c,x = .bl c/\Q (.bl (!c)) H1
theorem Hx{op}{t:TE}(h:PE X a t):PE X (.BoolOp op [a] pos) t:=λag s σ H Q I b=>BoolOp_one (h ag s σ H Q I b)
theorem HD(ha:PE X a ta)(hb:PE X (.BoolOp .And (b::rest) pos) tb):PE X (.BoolOp .And (a::b::rest) pos) (Ki ta tb):=by
 intro ag s σ H Q I h;refine BoolOp_and (ff (ha ag s σ H _ I h) λv g ⟨x,H1,e,f,d⟩=>?_);obtain⟨c,rfl,d⟩:=d;cases f;refine wpAny_truthy_bool ?_;cases c with
 |true=>exact hb ag g σ H1 Q e d
 |false=>exact⟨.bl J,H1,e,O,d⟩
theorem Hy(ha:PE X a ta):PE X (.UnaryOp .Not a pos) (Ka ta):=by
 intro ag s σ H Q I h;refine UnaryOp_ (ff (ha ag s σ H _ I h) λv f ⟨x,H1,d,e,b⟩=>?_);obtain⟨c,rfl,b⟩:=b;cases e;exact not_of (wpAny_truthy_bool ⟨.bl (!c),H1,d,O,b⟩)
def NZ(t:TT)(ta tb:TE):TE:=fun σ H Q=>t σ H λc H1=>if c=M then ta σ H1 Q else tb σ H1 Q
theorem Bz{c:Expr}(hc:PT X c tA)(ha:PE X a ta)(hb:PE X b tb):PE X (.IfExp c a b pos) (NZ tA ta tb):=by
 intro ag s σ H Q I h;refine wpAny_IfExp (ff (hc ag s σ H _ I h) λd g ⟨H1,e,f⟩=>?_);cases d with
 |true=>exact ha ag g σ H1 Q e f
 |false=>exact hb ag g σ H1 Q e f
end
end L2
namespace L2
open PySem PySem.Spec PyProof.Rows
def mY(K:Fg1)(H:Hp)(a:c4)(xs:List V):Prop:=
 Rd H a (.lst xs) \/
  ∃(o:Obj) (its:Array cZ) (n:Nat),K.lookup a=Z o/\o.cls = .type "list"/\o.dict=Y/\o.data = .seq its n/\its.size<=da/\d5 xs its.toList
def kP(K:Fg1)(H:Hp)(a:c4)(xs:List V):Prop:=
 Rd H a (.tup xs) \/
  ∃(o:Obj) (its:Array cZ) (n:Nat),K.lookup a=Z o/\o.cls = .type "tuple"/\o.data = .seq its n/\its.size<=da/\d5 xs its.toList
def Ng:cZ->Option V
 | .none=>Z .non
 | .bool b=>Z (.bl b)
 | .int i _=>Z (.int i)
 | .str x _=>Z (.str x)
 | .bytes b _=>Z (.byt b)
 | .float b _=>Z (.flt b)
 | .ref a=>Z (.ref a)
 | .type n=>Z (.ty n)
 |_=>Y
theorem dS.abs{x:V}{u:cZ}(r:dS x u):Ng u=Z x:=by
 cases x with
 |non=>cases r;rfl
 |bl _=>cases r;rfl
 |int _=>obtain⟨t,rfl⟩:=r;rfl
 |str _=>obtain⟨t,rfl⟩:=r;rfl
 |byt _=>obtain⟨t,rfl⟩:=r;rfl
 |flt _=>obtain⟨t,rfl⟩:=r;rfl
 |ref _=>cases r;rfl
 |ty _=>cases r;rfl
theorem dS.inj{x y:V}{u:cZ}(r:dS x u)(q:dS y u):x=y:=Option.some.inj (r.abs.symm.trans q.abs)
theorem d5.inj:∀{xs ys:List V} {a:List cZ},d5 xs a->d5 ys a->xs=ys:=by
 intro xs ys a h g
 induction h generalizing ys with
 |nil=>cases g;rfl
 |cons r t ih=>cases g with
  |cons b c=>rw[r.inj b,ih c]
section
variable{X:Cx}{ag:List (c4×Obj)}{σ:St}{H:Hp}{s:c3}{a:c4}{xs ys:List V}
theorem mY.of{K:Fg1}(h:H a=Z (.lst xs)):mY K H a xs:=.inl (.inl h)
theorem kP.of{K:Fg1}(h:H a=Z (.tup xs)):kP K H a xs:=.inl (.inl h)
theorem Inv.list(I:Inv X ag σ H s)(h:mY X.K H a xs):∃b:List cZ,d5 xs b/\PlainL s.heap a b.toArray/\xs.length<=da:=by
 rcases h with h|⟨o,b,n,f,hc,d,c,g,r⟩
 ·obtain⟨z,b,n,r,e⟩:=h.ok I.hok;exact⟨b,r,⟨_,n,e,O,O,O⟩,z⟩
 ·refine⟨b.toList,r,⟨o,n,I.kIn a o f,hc,d,by simpa using c⟩,?_⟩;have e:=r.length;simp only[aI]at e;lia
theorem Inv.tuple(I:Inv X ag σ H s)(h:kP X.K H a xs):∃b:List cZ,d5 xs b/\IsTup s.heap a b.toArray/\xs.length<=da:=by
 rcases h with h|⟨o,b,n,c,hc,d,f,r⟩
 ·obtain⟨z,b,r,p⟩:=h.ok I.hok;exact⟨b,r,p,z⟩
 ·refine⟨b.toList,r,⟨o,I.kIn a o c,hc,n,by simpa using d⟩,?_⟩;have e:=r.length;simp only[aI]at e;lia
theorem Inv.list_inj(I:Inv X ag σ H s)(h:mY X.K H a xs)(h':mY X.K H a ys):xs=ys:=by
 obtain⟨b,r,⟨o,n,e,_,_,d⟩,_⟩:=I.list h;obtain⟨its',i,⟨o',j,f,_,_,c⟩,_⟩:=I.list h';rw[e]at f;cases f;rw[d]at c;injection c with g _;have:b=its':=by simpa using congrArg Array.toList g
 subst this;exact r.inj i
theorem Inv.tuple_inj(I:Inv X ag σ H s)(h:kP X.K H a xs)(h':kP X.K H a ys):xs=ys:=by
 obtain⟨b,r,⟨o,e,_,n,d⟩,_⟩:=I.tuple h;obtain⟨its',i,⟨o',f,_,j,c⟩,_⟩:=I.tuple h';rw[e]at f;cases f;rw[d]at c;injection c with g _;have:b=its':=by simpa using congrArg Array.toList g
 subst this;exact r.inj i
end
abbrev Cx.wish(X:Cx)(E:cZ->c3->Prop):Cx:={X with xe:=E}
abbrev Cx.nox(X:Cx):Cx:=X.wish λ_ _=>False
theorem Cx.Ok.wish{X:Cx}(ok:X.Ok)(E:cZ->c3->Prop):(X.wish E).Ok:=
 ⟨ok.mod,ok.kind,ok.glob,ok.blt,ok.above,ok.inj,ok.has,ok.cab,ok.hd,ok.frames,ok.stk,ok.exf,ok.bs,ok.bsz,ok.noex,ok.exfs,ok.funs,ok.frf⟩
theorem Cx.Ok.unwish{X:Cx}{E:cZ->c3->Prop}(ok:(X.wish E).Ok):X.Ok:=
 ⟨ok.mod,ok.kind,ok.glob,ok.blt,ok.above,ok.inj,ok.has,ok.cab,ok.hd,ok.frames,ok.stk,ok.exf,ok.bs,ok.bsz,ok.noex,ok.exfs,ok.funs,ok.frf⟩
section
variable{X:Cx}{ag:List (c4×Obj)}{σ:St}{H:Hp}{s:c3}{E:cZ->c3->Prop}
theorem Inv.wish(I:Inv X ag σ H s)(E:cZ->c3->Prop):Inv (X.wish E) ag σ H s:=⟨I.ok.wish E,I.os,I.bare,I.base,I.loc,I.cell,I.free,I.freeC,I.pin,I.hok,I.len⟩
theorem Inv.unwish(I:Inv (X.wish E) ag σ H s):Inv X ag σ H s:=⟨I.ok.unwish,I.os,I.bare,I.base,I.loc,I.cell,I.free,I.freeC,I.pin,I.hok,I.len⟩
theorem SP.unwish{D:kl}{f:Flow}{s':c3}(h:SP (X.wish E) ag D f s'):SP X ag D f s':=by
 cases f with
 |next=>obtain⟨a,H',I,q⟩:=h;exact⟨a,H',I.unwish,q⟩
 |brk=>obtain⟨a,H',I,q⟩:=h;exact⟨a,H',I.unwish,q⟩
 |cont=>obtain⟨a,H',I,q⟩:=h;exact⟨a,H',I.unwish,q⟩
 |ret u=>obtain⟨v,a,H',I,r,q⟩:=h;exact⟨v,a,H',I.unwish,r,q⟩
theorem vY.nox{st:List di}{t:TS}(h:vY X.nox st t):vY X st t:=λag s σ H D I a=>
 wpAny_mono (h ag s σ H D (I.wish _) a) (λ_ _ q=>q.unwish) λ_ _ z=>False.elim z
end
section
variable{X:Cx}{st:di}{rest:List di}{t u:TS}{e:Expr}{te:TE}{pos:Pos}
def Kb:TS:=λD σ H=>D.nx σ H
def Ml(t u:TS):TS:=λD σ H=>t {D with nx:=u D} σ H
theorem D2:vY X [] Kb:=λ_ _ σ H _ I h=>wpAny_execs_nil ⟨σ,H,I,h⟩
theorem Bl(h1:PS X st t)(h2:vY X rest u):vY X (st::rest) (Ml t u):=by
 intro ag s σ H D I h;refine wpAny_execs_cons (ff (h1 ag s σ H {D with nx:=u D} I h) λf b q=>?_);cases f with
 |next=>
  obtain⟨a,H',c,q⟩:=q;exact h2 ag b a H' D c q
 |ret v=>exact q
 |brk=>exact q
 |cont=>exact q
theorem D1(h1:PS X st t):vY X [st] t:=by
 intro ag s σ H D I h;refine wpAny_execs_cons (ff (h1 ag s σ H D I h) λf a q=>?_);cases f with
 |next=>exact wpAny_execs_nil q
 |ret v=>exact q
 |brk=>exact q
 |cont=>exact q
theorem Inv.quiet{ag:List (c4×Obj)}{σ:St}{H:Hp}{s:c3}(I:Inv X ag σ H s):interactive X.env=J:=by simp[interactive,I.ok.kind]
def Ke(te:TE):TS:=λD σ H=>te σ H λ_ H1=>D.nx σ H1
theorem D4(he:PE X e te)(hs:swapsWith e Y pos.line X.env=pure J:=by rfl):PS X (.Expr e pos) (Ke te):=by
 intro ag s σ H D I h;exact wpAny_Expr_any (ff (he ag s σ H _ I h) λv d ⟨x,H1,a,c,b⟩=>⟨σ,H1,a,b⟩) I.quiet hs
def Mm(te:TE):TS:=λD σ H=>te σ H D.rt
theorem Hj(he:PE X e te):PS X (.Return (Z e) pos) (Mm te):=by
 intro ag s σ H D I h;exact wpAny_Return_some (ff (he ag s σ H _ I h) λv d ⟨x,H1,a,b,c⟩=>⟨x,σ,H1,a,b,c⟩)
def Mu(c:TT)(t u:TS):TS:=λD σ H=>c σ H λb H1=>if b=M then t D σ H1 else u D σ H1
theorem Ks{c:Expr}{a b:List di}{tc:TT}(hc:PT X c tc)(ha:vY X a t)(hb:vY X b u):PS X (.If c a b pos) (Mu tc t u):=by
 intro ag s σ H D I h;refine wpAny_If (ff (hc ag s σ H _ I h) λd g ⟨H1,e,f⟩=>?_);cases d with
 |true=>exact ha ag g σ H1 D e f
 |false=>exact hb ag g σ H1 D e f
end
abbrev TG:=V->St->Hp->(St->Hp->Prop)->Prop
abbrev GA:=List V->St->Hp->(St->Hp->Prop)->Prop
def PG(X:Cx)(target:Expr)(t:TG):Prop:=
 ∀(ag:List (c4×Obj)) (s:c3) (σ:St) (H:Hp) (v:V) (u:cZ) (Q:St->Hp->Prop),Inv X ag σ H s->dS v u->t v σ H Q ->
  db (model X.prog X.w) X.A (assign target X.env u) (λ_ s'=>∃ σ' H',Inv X ag σ' H' s'/\Q σ' H') X.xe s
def JE(X:Cx)(ts:List Expr)(t:GA):Prop:=
 ∀(ag:List (c4×Obj)) (s:c3) (σ:St) (H:Hp) (vs:List V) (us:List cZ) (Q:St->Hp->Prop),Inv X ag σ H s->d5 vs us->t vs σ H Q ->
  db (model X.prog X.w) X.A (assignInOrder ((assignEach ts X.env).map (·.2)) us) (λ_ s'=>∃ σ' H',Inv X ag σ' H' s'/\Q σ' H') X.xe s
abbrev JC:=V->V->V->Hp->(Hp->Prop)->Prop
def xw(X:Cx)(t:JC):Prop:=
 ∀(ag:List (c4×Obj)) (s:c3) (σ:St) (H:Hp) (o i v:V) (ov iv u:cZ) (Q:Hp->Prop),Inv X ag σ H s->dS o ov->dS i iv->dS v u->t o i v H Q ->
  db (model X.prog X.w) X.A (setItem ov iv u) (λ_ s'=>∃H',Inv X ag σ H' s'/\Q H') X.xe s
abbrev Nk:=V->V->Hp->VK->Prop
def Mf(X:Cx)(op:Operator)(t:Nk):Prop:=
 ∀(ag:List (c4×Obj)) (s:c3) (σ:St) (H:Hp) (x y:V) (v u:cZ) (Q:VK),Inv X ag σ H s->dS x v->dS y u->t x y H Q ->
  db (model X.prog X.w) X.A (inplaceOp op v u) (EP X ag σ Q) X.xe s
section
variable{X:Cx}{pos:Pos}
def yu(i:Nat):TG:=λv σ H Q=>Q (σ.set i (Z v)) H
theorem xW{i:Nat}{x:Str}(hN:X.N.Nodup)(hi:X.N[i]?=Z x)(hx:xy X.env.scope x)(hf:X.fn x=M\/X.env.scope.names.lookup x=Z .local:=by first|exact .inl rfl|exact .inr rfl|assumption):PG X (.Name x pos) (yu i):=by
 intro ag s σ H v u Q I r h;exact wpAny_assign_Name (hO I hN hi hx r (λs' a=>⟨_,H,a,h⟩) hf)
def M5:GA:=λvs σ H Q=>vs=[]/\Q σ H
def Lf(t:TG)(u:GA):GA:=λvs σ H Q=>∃v r,vs=v::r/\t v σ H fun σ' H'=>u r σ' H' Q
theorem Ec:JE X [] M5:=by
 intro ag s σ H vs a Q I r h;obtain⟨e,h⟩:=h;subst e;cases r;exact assignInOrder_nil ⟨σ,H,I,h⟩
theorem Bv{e:Expr}{es:List Expr}{t:TG}{u:GA}(h1:PG X e t)(h2:JE X es u)(hs:(assignEach (e::es) X.env).map (·.2)=assign e X.env::(assignEach es X.env).map (·.2):=by rfl):JE X (e::es) (Lf t u):=by
 intro ag s σ H vs j Q I r h;obtain⟨v,i,b,h⟩:=h;subst b;cases r with
 |cons r g=>
  rw[hs];refine assignInOrder_cons (ff (h1 ag s σ H _ _ _ I r h) λ_ c ⟨a,H1,d,f⟩=>?_);exact h2 ag c a H1 _ _ Q d g f
def gTup(K:Fg1)(n:Nat)(t:GA):TG:=λv σ H Q=>∃a xs,v = .ref a/\kP K H a xs/\xs.length=n/\t xs σ H Q
theorem Hs{es:List Expr}{k:Nat}{t:GA}{n:Nat}(hc:X.calm=M)(h:JE X es t)(hn:(assignEach es X.env).length=n:=by rfl)(hst:(assignEach es X.env).findIdx? (·.1)=Y:=by rfl):PG X (.Tuple es k pos) (gTup X.K n t):=by
 intro ag s σ H v u Q I r c;obtain⟨a,xs,j,l,p,c⟩:=c;subst j;cases r;obtain⟨f,d,i,q⟩:=I.tuple l;refine assign_Tuple_tuple (I.ok.hd hc) i (by simp[hn,<- p,d.length]) hst λh' g=>?_;have m:Inv X ag σ H {s with heap:=h'}:=I.kept (t':=s.toks) λb o e=>g b o (nN1 (hL1 e)) e;exact h ag _ σ H xs _ Q m (by simpa using d) c
def gSub(to ti:TE)(t:JC):TG:=λv σ H Q=>to σ H λo H1=>ti σ H1 λi H2=>t o i v H2 λH3=>Q σ H3
theorem Ht{o i:Expr}{to c:TE}{t:JC}(ho:PE X o to)(hi:PE X i c)(hs:xw X t)(ha:∀v,assign (.Subscript o i pos) X.env v=(do
   let a<-holding [v] (eval o X.env)
   let b<-holding [v,a] (eval i X.env)
   standAt pos
   holding [v,a,b] (setItem a b v)
   release [v,a,b] []):=by intro _;rfl):PG X (.Subscript o i pos) (gSub to c t):=by
 intro ag s σ H v u Q I r h;rw[ha];refine wB1 (wpAny_holding (ff (ho ag s σ H _ I h) λa g ⟨x,H1,m,e,n⟩=>?_));refine wB1 (wpAny_holding (ff (hi ag g σ H1 _ m n) λb p ⟨y,H2,k,r2,f⟩=>?_));refine wB1 (wpAny_standAt (wB1 (wpAny_holding (ff (hs ag p σ H2 x y v a b u _ k e r2 r f) λ_ q ⟨d,l,j⟩=>?_))));exact wpAny_release ⟨σ,d,l,j⟩
def AW(te:TE)(g:TG):TS:=λD σ H=>te σ H λx H1=>g x σ H1 D.nx
theorem Hn{tg e:Expr}{te:TE}{g:TG}(he:PE X e te)(hg:PG X tg g)(hs:swapsWithSole [tg] e pos.line X.env=pure J:=by rfl)(hw:swappedStores [tg] e X.env=pure Y:=by rfl)(h1:(assignEach [tg] X.env).map (·.2)=[assign tg X.env]:=by rfl):PS X (.Assign [tg] e pos) (AW te g):=by
 intro ag s σ H D I h;refine wpAny_Assign_stores (ff (he ag s σ H _ I h) λv b ⟨x,H1,c,a,d⟩=>?_) hs hw;rw[h1];exact ff (hg ag b σ H1 x v _ c a d) λ_ f q=>q
theorem Hi{i:Nat}{x:Str}{e:Expr}{te:TE}{pos':Pos}(hN:X.N.Nodup)(hi:X.N[i]? = some x)(hx:xy X.env.scope x)(he:PE X e te)(hs:swapsWith e (some (.Name x pos')) pos.line X.env=pure false:=by rfl)(hf:X.fn x=true\/X.env.scope.names.lookup x=some .local:=by first | exact .inl rfl | exact .inr rfl | assumption):
  PS X (.Assign [.Name x pos'] e pos) (AW te (yu i)):=by
 intro ag s σ H D I h;refine wpAny_Assign_Name (ff (he ag s σ H _ I h) λv f ⟨y,H1,c,a,d⟩=>?_) hs;exact hO c hN hi hx a (λg b=>⟨_,H1,b,d⟩) hf
def Mn(i j:Nat)(ta:TA):TS:=λD σ H=>ta σ H λvs H1=>∃v w,vs=[v,w]/\D.nx ((σ.set i (Z v)).set j (Z w)) H1
theorem Hk{i j:Nat}{x y:Str}{a b:Expr}{ta:TA}{m f pt:Pos}{kt k2 pt2}(hc:X.calm=true)(hN:X.N.Nodup)(hi:X.N[i]? = some x)(F:X.N[j]? = some y)(g:i≠j)(hx:X.env.scope.names.lookup x=some .local)(hy:X.env.scope.names.lookup y=some .local)(ha:PA X [a,b] ta)(hw:swappedStores [.Tuple [.Name x m,.Name y f] kt pt] (.Tuple [a,b] k2 pt2) X.env=pure (some [x,y]))(hs:swapsWithSole [.Tuple [.Name x m,.Name y f] kt pt] (.Tuple [a,b] k2 pt2) pos.line X.env=pure false:=by rfl):
  PS X (.Assign [.Tuple [.Name x m,.Name y f] kt pt] (.Tuple [a,b] k2 pt2) pos) (Mn i j ta):=by
 intro ag s σ H D I h;rw[exec_Assign_arm];refine wB1 (wpAny_standAt ?_);rw[hs];refine wB1 (wP1 ?_);rw[aj (by decide)];refine wB1 (Tuple_ (ff (ha _ ag s σ H _ I h) λam c ⟨vs,H1,u,z,k⟩=>?_));obtain⟨v,w,t,k⟩:=k;subst t;obtain⟨d,u2,rfl,E,n⟩:∃d u2,am=[d,u2]/\dS v d/\dS w u2:=by
  cases z with
  |cons p q=>
   cases q with
   |cons B K=>
    cases K;exact⟨_,_,O,p,B⟩
 refine wO1 ?_ (by show 2<=da;decide);have A:Inv X ag σ H1 {c with heap:=c.heap.push {cls:=.type "tuple",data:=.seq [d,u2].toArray}}:=u.kept (t':=c.toks) λb o e=>hP1 _ e;rw[hw];refine wB1 (wP1 ?_);show db (model X.prog X.w) X.A (do rule "assign.swapped-stores";let items<-unpackItems (.ref c.heap.objs.size) 2 Y;assignInOrder [λv=>bindName X.env y v,λv=>bindName X.env x v] items.reverse;pure Flow.next) _ _ _;refine wB1 (wpAny_rule (wB1 (unpackItems_tuple (items:= #[d,u2]) (I.ok.hd hc) (IsTup.new c.heap _) λh' l=>?_)));have C:=A.kept (h':=h') (t':=c.toks) λb o e=>l b o (nN1 (hL1 e)) e;show db _ _ (assignInOrder [λv=>bindName X.env y v,λv=>bindName X.env x v] [u2,d] >>= λ_=>pure Flow.next) _ _ _;refine wB1 (assignInOrder_cons (wpAny_bindName (hO C hN F (.inl hy) n (λL G=>?_) (.inr hy))));refine assignInOrder_cons (wpAny_bindName (hO G hN hi (.inl hx) E (λao r=>assignInOrder_nil (wP1 ?_)) (.inr hx)));rw[aJ _ _ (Ne.symm g)]at r;exact⟨_,H1,r,k⟩
def Mw(i:Nat)(te:TE)(ti:Nk):TS:=λD σ H=>∃x,σ[i]?=Z (Z x)/\te σ H λy H1=>ti x y H1 λz H2=>D.nx (σ.set i (Z z)) H2
theorem Hm{i:Nat}{x:Str}{e:Expr}{te:TE}{op:Operator}{n:Nk}{pos':Pos}(hN:X.N.Nodup)(hi:X.N[i]? = some x)(hx:xy X.env.scope x)(he:PE X e te)(ho:Mf X op n)(hf:X.fn x=true\/X.env.scope.names.lookup x=some .local:=by first | exact .inl rfl | exact .inr rfl | assumption):
  PS X (.AugAssign (.Name x pos') op e pos) (Mw i te n):=by
 intro ag s σ H D I h;obtain⟨v,o,h⟩:=h;obtain⟨m,q,am⟩:=I.loc;have g:Vis X.env.scope x:=by rcases hx with k|k;exact .inl k;exact .inr (.inl k)
 obtain⟨u,r,l⟩:=am i x v hi o g;refine wpAny_AugAssign_Name ?_;have j:db (model X.prog X.w) X.A (eval e X.env) (λw d=>db (model X.prog X.w) X.A (inplaceOp op u w) (λr f=>db (model X.prog X.w) X.A (storeName X.env x r) (λ_=>SP X ag D .next) X.xe f) X.xe d) X.xe s:=by
  refine ff (he ag s σ H _ I h) λw p ⟨y,H1,t,A,E⟩=>?_;refine ff (ho ag p σ H1 v y u w _ t r A E) λz L ⟨K,H2,B,r2,F⟩=>?_;exact hO B hN hi hx r2 (λao C=>⟨_,H2,C,F⟩) hf
 rcases l with⟨a,G⟩|⟨a,c,hc,b⟩
 ·exact wpAny_loadName_local I.ok.kind a q G j
 ·rcases a with a|a
  ·exact wpAny_loadName_cell I.ok.kind a hc b j
  ·rcases hx with k|k
   ·have:X.env.scope.names.lookup x=Z .free:=a;rw[k]at this;cases this
   ·have:X.env.scope.names.lookup x=Z .free:=a;rw[k]at this;cases this
def AT(c:TT)(tb:TS):TS:=λD σ H=>∃W:Nat->St->Hp->Prop,(∃m,W m σ H) /\ ∀m σ H,W m σ H ->
 c σ H λb H1=>if b=M then∃N:St->Hp->Prop,(∀ σ' H',N σ' H' -> ∃m',m'<m/\W m' σ' H')/\tb {D with nx:=N,ct:=N,bk:=D.nx} σ H1 else D.nx σ H1
theorem Bm{c:Expr}{e:List di}{tc:TT}{tb:TS}(hp:PassesOwn (model X.prog X.w) X.A X.env X.xe)(hc:PT X c tc)(hb:vY X e tb):PS X (.While c e [] pos) (AT tc tb):=by
 intro ag s σ H D I h;obtain⟨W,⟨z,A⟩,g⟩:=h;refine wpAny_While (codeAny_whileLoop (λn s'=>∃i H',Inv X ag i H' s'/\W n i H') ?_ z ⟨σ,H,I,A⟩);rintro n w ⟨d,H1,x,B⟩;refine wpAny_passesOwn hp (ff (hc ag w d H1 _ x (g n d H1 B)) λb y ⟨H2,u,l⟩=>?_);cases b with
 |true=>
  obtain⟨N,t,l⟩:=l;rw[ak O];refine wpAny_passesOwn hp (ff (hb ag y d H2 _ u l) λf C k=>?_);cases f with
  |next=>
   obtain⟨a,j,o,m⟩:=k;obtain⟨r,q,p⟩:=t a j m;exact⟨r,q,a,j,o,p⟩
  |cont=>
   obtain⟨a,j,o,m⟩:=k;obtain⟨r,q,p⟩:=t a j m;exact⟨r,q,a,j,o,p⟩
  |brk=>exact k
  |ret v=>exact k
 |false=>
  rw[aj aK];exact wpAny_execs_nil ⟨d,H2,u,l⟩
end
structure It where
 go:Nat->Hp->Prop
 yld:Nat->Hp->V->Hp->Prop
 stop:Nat->Hp->Prop
def kZ(X:Cx)(ag:List (c4×Obj))(H:Hp)(b:c4):Prop:=
 H b=Y/\b≠X.env.locals/\b∉X.fs/\(b∈X.ex\/X.s₀.heap.objs.size<=b)/\(∀x c,X.env.cells.lookup x=Z c->c≠b) /\ ∀p∈X.pn++ag,p.1≠b
theorem Inv.fpOk{X:Cx}{ag:List (c4×Obj)}{σ:St}{H H':Hp}{s:c3}{b:c4}(I:Inv X ag σ H s)(hb:s.heap.objs.size<=b)(hn:H' b=Y):kZ X ag H' b:=by
 refine⟨hn,nG1 (nL1 I.lt hb),I.nofs hb,.inr (aC I.sz hb),λx c e z=>?_,λp a z=>?_⟩
 ·obtain⟨v,q⟩:=I.cell x c e;exact absurd (nL1 q.lt (by rw[z];exact hb)) (az _)
 ·exact absurd (nL1 (hL1 (I.pin p a).1) (by rw[z];exact hb)) (az _)
structure xr (P:c5)(w:c7)(K:Fg1)(tg:Expr)(am:It)(fp:List c4)(it:c4)(tn:Nat->df->Prop):Prop where
 mem:it∈fp
 obj:∀i h,tn i h -> ∀b∈fp,∃o,h.get? b=some o /\ ∀v,o.data ≠ .cell v
 keep:∀i h h',tn i h->(∀b∈fp,∀o,h.get? b=some o->h'.get? b=some o)->tn i h'
 item:∀(X:Cx),X.prog=P->X.w=w->X.K=K->X.calm=true -> ∀(i:Nat) (ag:List (c4×Obj)) (s:c3) (σ:St) (H:Hp) (E:cZ->c3->Prop),Inv X ag σ H s->(∀b∈fp,kZ X ag H b)->tn i s.heap->am.go i H ->
  db (model P w) X.A (pyNext (.ref it)) (λr s1=>∃u,r=some u /\
   db (model P w) X.A (letOwnedTupleGo tg (.ref it) u) (λ_ s2=>∃x H',Inv X ag σ H' s2/\dS x u/\am.yld i H x H'/\tn (i+1) s2.heap /\ ∀b∈fp,H' b=none) E s1) E s
 done:∀(X:Cx),X.prog=P->X.w=w->X.K=K->X.calm=true -> ∀(i:Nat) (ag:List (c4×Obj)) (s:c3) (σ:St) (H:Hp) (E:cZ->c3->Prop),Inv X ag σ H s->(∀b∈fp,kZ X ag H b)->tn i s.heap->am.stop i H ->
  db (model P w) X.A (pyNext (.ref it)) (λr s1=>r=none/\Inv X ag σ H s1) E s
 self:∀(A:c6) (i:Nat) (s:c3) (Q:cZ->c3->Prop) (E:cZ->c3->Prop),tn i s.heap->Q (.ref it) s->db (model P w) A (pyIter (.ref it)) Q E s
abbrev TI:=St->Hp->(It->Hp->Prop)->Prop
def NO(X:Cx)(ag:List (c4×Obj))(σ:St)(tg:Expr)(R:It->Hp->Prop)(itv:cZ)(s2:c3):Prop:=
 ∃(it:c4) (fp:List c4) (tn:Nat->df->Prop) (am:It) (H':Hp),itv = .ref it/\Inv X ag σ H' s2/\xr X.prog X.w X.K tg am fp it tn/\tn 0 s2.heap/\(∀b∈fp,kZ X ag H' b)/\R am H'
def PI(X:Cx)(tg iter:Expr)(wi:TI):Prop:=
 ∀(ag:List (c4×Obj)) (s:c3) (σ:St) (H:Hp) (R:It->Hp->Prop),Inv X ag σ H s->wi σ H R ->
  db (model X.prog X.w) X.A (eval iter X.env) (λv s1=>db (model X.prog X.w) X.A (pyIter v) (NO X ag σ tg R) X.xe s1) X.xe s
theorem CD {ao:Model}{A:c6}{E:cZ->c3->Prop}{s:c3}{tg:Expr}{it:c4}{u:cZ}{o:Obj}{n:String}{vs:Array cZ}{Q:Unit->c3->Prop}(ho:s.heap.get? it=some o)(hc:o.cls = .type n)(hd:o.data = .fields vs)
   (hn:["enumerate","zip","dict_itemiterator","dict_reverseitemiterator","odict_iterator","itertools.zip_longest","itertools.pairwise"].contains n=J) (a:Q () s):db ao A (letOwnedTupleGo tg (.ref it) u) Q E s:=by
 unfold letOwnedTupleGo;cases tg <;> first
   |exact wP1 a
   | (cases u<;>first
       |exact wP1 a
       | (refine wB1 (wpAny_load ho ?_)
          rw[hc,hd];show db ao A (if(["enumerate","zip","dict_itemiterator","dict_reverseitemiterator","odict_iterator","itertools.zip_longest","itertools.pairwise"].contains n&&vs[0]? == Z (rawInt _))=M then _ else _) Q E s;rw[aj (by intro h;rw[hn,aL]at h;cases h)];exact wP1 a))
def NR(K:Fg1)(a:c4):It:=
 ⟨λi H=>∃xs x,mY K H a xs/\xs[i]?=Z x,λi H x H'=>H'=H /\ ∀xs,mY K H a xs->xs[i]?=Z x,λi H=>∃xs,mY K H a xs/\xs.length<=i⟩
def NQ(K:Fg1)(a:c4):It:=
 ⟨λi H=>∃xs x,kP K H a xs/\xs[i]?=Z x,λi H x H'=>H'=H /\ ∀xs,kP K H a xs->xs[i]?=Z x,λi H=>∃xs,kP K H a xs/\xs.length<=i⟩
def LU(lo:Int)(n:Nat):It:=⟨λi _=>i<n,λi H x H'=>H'=H/\x = .int (lo+i),λi _=>n<=i⟩
theorem y2{P:c5}{w:c7}{K:Fg1}{tg:Expr}(a it:c4):xr P w K tg (NR K a) [it] it (λi h=>h.IsListIter it a i) where
 mem:=by simp
 obj:=λi h st b f=>by
  have e:b=it:=by simpa using f
  subst e;obtain⟨o,e,c,d⟩:=st;exact⟨o,e,λv z=>by rw[d]at z;cases z⟩
 keep:=λi h h' st k=>st.at λo e=>k it (by simp) o e
 item:=by
  intro X m B D hc i ag s σ H E I j st y;subst m B D;obtain⟨xs,x,g,C⟩:=y;obtain⟨q,r,p,R⟩:=I.list g;obtain⟨u,au,N⟩:=r.get C;obtain⟨t,F,L,l,n,A⟩:=j it (by simp);refine wpAny_pyNext_list_item st p.isList (x:=u) (by simpa using au) λh' st' Q=>?_;have ao:Inv X ag σ H {s with heap:=h'}:=I.turned (t':=s.toks) (λb o f e=>(Q.2 b f).trans e) t F l n A;obtain⟨o,e,c,d⟩:=id st';exact⟨u,O,CD (s:={s with heap:=h'}) e c d (by decide) ⟨x,H,ao,N,⟨O,λys am=>by rw[I.list_inj am g];exact C⟩,st',λb f=>(j b f).1⟩⟩
 done:=by
  intro X m B D hc i ag s σ H E I j st y;subst m B D;obtain⟨xs,g,C⟩:=y;obtain⟨q,r,p,R⟩:=I.list g;obtain⟨t,F,L,l,n,A⟩:=j it (by simp);have S:=r.length;exact wpAny_pyNext_list_end (I.ok.hd hc) st p.isList (by simp;lia) λh' G=>⟨O,I.turned (t':=s.toks) (λb o f e=>G b o f e) t F l n A⟩
 self:=λ_ _ _ _ _ st h=>wpAny_pyIter_listiter st h
theorem wf{P:c5}{w:c7}{K:Fg1}{tg:Expr}(a it:c4):xr P w K tg (NQ K a) [it] it (λi h=>h.IsTupleIter it a i) where
 mem:=by simp
 obj:=λi h st b f=>by
  have e:b=it:=by simpa using f
  subst e;obtain⟨o,e,c,d⟩:=st;exact⟨o,e,λv z=>by rw[d]at z;cases z⟩
 keep:=λi h h' st k=>st.at λo e=>k it (by simp) o e
 item:=by
  intro X n B D hc i ag s σ H E I l st y;subst n B D;obtain⟨xs,x,j,C⟩:=y;obtain⟨g,r,p,R⟩:=I.tuple j;obtain⟨u,au,N⟩:=r.get C;obtain⟨t,F,L,m,q,A⟩:=l it (by simp);refine wpAny_pyNext_tuple_item st (show s.heap.IsTuple a g.toArray from p) (x:=u) (by simpa using au) λh' st' Q=>?_;have ao:Inv X ag σ H {s with heap:=h'}:=I.turned (t':=s.toks) (λb o f e=>(Q.2 b f).trans e) t F m q A;obtain⟨o,e,c,d⟩:=id st';exact⟨u,O,CD (s:={s with heap:=h'}) e c d (by decide) ⟨x,H,ao,N,⟨O,λys am=>by rw[I.tuple_inj am j];exact C⟩,st',λb f=>(l b f).1⟩⟩
 done:=by
  intro X n B D hc i ag s σ H E I l st y;subst n B D;obtain⟨xs,j,C⟩:=y;obtain⟨g,r,p,R⟩:=I.tuple j;obtain⟨t,F,L,m,q,A⟩:=l it (by simp);have S:=r.length;exact wpAny_pyNext_tuple_end (I.ok.hd hc) st (show s.heap.IsTuple a g.toArray from p) (by simp;lia) λh' G=>⟨O,I.turned (t':=s.toks) (λb o f e=>G b o f e) t F m q A⟩
 self:=λ_ _ _ _ _ st h=>wpAny_pyIter_tupleiter st h
theorem wg{P:c5}{w:c7}{K:Fg1}{tg:Expr}(it:c4)(lo:Int)(n:Nat):xr P w K tg (LU lo n) [it] it (λi h=>IsRangeIter h it (lo+(i:Nat)*1) ((n:Int)-(i:Nat)) 1) where
 mem:=by simp
 obj:=λi h st b a=>by
  have e:b=it:=by simpa using a
  subst e;exact⟨_,st,λv z=>by
   have u:Data.fields _=Data.cell v:=z;cases u⟩
 keep:=λi h h' st k=>k it (by simp) _ st
 item:=by
  intro X g r l hc i ag s σ H E I c st p;subst g r l;obtain⟨f,m,A,d,j,q⟩:=c it (by simp);have W:=Walks.range (prog:=X.prog) (w:=X.w) (I.ok.hd hc) it lo 1 n;refine W.item i s _ _ p st λv h' tk C st' x=>?_;obtain⟨t,rfl⟩:=C;have B:Inv X ag σ H {s with heap:=h',toks:=tk}:=I.turned (λb o a e=>x b o (by simpa using a) e) f m d j q;refine⟨_,O,CD (s:={s with heap:=h',toks:=tk}) (n:="range_iterator") st' O O (by decide) ⟨.int (lo+i),H,B,⟨t,?_⟩,⟨O,O⟩,st',λb a=>(c b a).1⟩⟩;rw[Int.mul_one]
 done:=by
  intro X g r l hc i ag s σ H E I c st p;subst g r l;obtain⟨f,m,A,d,j,q⟩:=c it (by simp);exact wpAny_pyNext_range_end (I.ok.hd hc) st (by have:n<=i:=p;lia) λh' y=>⟨O,I.turned (t':=s.toks) (λb o a e=>y b o a e) f m d j q⟩
 self:=λ_ _ _ _ _ st h=>wpAny_pyIter_rangeiter st h
end L2
namespace L2
open PySem PySem.Spec PyProof.Rows
section
variable{X:Cx}{tg:Expr}
def Lc(K:Fg1)(tl:TE):TI:=fun σ H R=>tl σ H λx H1=>∃a,x = .ref a/\(∃xs,mY K H1 a xs)/\R (NR K a) H1
def M3(K:Fg1)(tl:TE):TI:=fun σ H R=>tl σ H λx H1=>∃a,x = .ref a/\(∃xs,kP K H1 a xs)/\R (NQ K a) H1
theorem Ea{l:Expr}{tl:TE}(m:PE X l tl):PI X tg l (Lc X.K tl):=by
 intro ag s σ H R I h;refine ff (m ag s σ H _ I h) λv c ⟨x,H1,d,i,k⟩=>?_;obtain⟨a,e,⟨xs,j⟩,q⟩:=k;subst e;cases i;obtain⟨f,n,p,r⟩:=d.list j;refine wpAny_pyIter_list p.isList ?_;refine⟨c.heap.objs.size,[c.heap.objs.size],_,_,H1,O,d.kept (t':=c.toks) λb o e=>hP1 _ e,y2 a _,⟨_,hS1 _ O,O,O⟩,λb g=>?_,q⟩;have e:b=c.heap.objs.size:=by simpa using g
 subst e;exact d.fpOk (nR1 _) (d.hok.fresh (nR1 _))
theorem Hr{l:Expr}{tl:TE}(m:PE X l tl):PI X tg l (M3 X.K tl):=by
 intro ag s σ H R I h;refine ff (m ag s σ H _ I h) λv c ⟨x,H1,d,i,k⟩=>?_;obtain⟨a,e,⟨xs,j⟩,q⟩:=k;subst e;cases i;obtain⟨f,n,p,r⟩:=d.tuple j;refine wpAny_pyIter_tuple (show c.heap.IsTuple a f.toArray from p) ?_;refine⟨c.heap.objs.size,[c.heap.objs.size],_,_,H1,O,d.kept (t':=c.toks) λb o e=>hP1 _ e,wf a _,⟨_,hS1 _ O,O,O⟩,λb g=>?_,q⟩;have e:b=c.heap.objs.size:=by simpa using g
 subst e;exact d.fpOk (nR1 _) (d.hok.fresh (nR1 _))
theorem uI{ag:List (c4×Obj)}{σ:St}{H:Hp}{s:c3}{R:It->Hp->Prop}{E:cZ->c3->Prop}{lo hi:Int}{t u v:Tok}{tk:Nat}(I:Inv X ag σ H s)(h1: -(2^62)<=lo)(h2:lo<2^62)(h: -(2^62)<=hi)(g:hi<2^62)(q:R (LU lo (hi-lo).toNat) H):db (model X.prog X.w) X.A (pyIter (.ref s.heap.objs.size)) (NO X ag σ tg R) E {s with heap:=s.heap.push {cls:=.type "range",data:=.fields #[.int lo t,.int hi u,.int 1 v]},toks:=tk}:=by
 refine wpAny_pyIter_range (IsRange.new ..) (small_one h1 h2 h g) ?_;have a:Inv X ag σ H {s with heap:=s.heap.push {cls:=.type "range",data:=.fields #[.int lo t,.int hi u,.int 1 v]},toks:=tk}:=I.kept λb o e=>hP1 _ e;refine⟨(s.heap.push {cls:=.type "range",data:=.fields #[.int lo t,.int hi u,.int 1 v]}).objs.size,[(s.heap.push {cls:=.type "range",data:=.fields #[.int lo t,.int hi u,.int 1 v]}).objs.size],_,_,H,O,
  a.kept (t':=tk) λb o e=>hP1 _ e,wg _ lo (hi-lo).toNat,?_,λb d=>?_,q⟩
 ·have f:lo+((0:Nat):Int)*1=lo:=by simp
  have c:(((hi-lo).toNat:Nat):Int)-((0:Nat):Int)=Builtin.Range.rangeSize lo hi 1:=by rw[rangeSize_one];split<;>lia
  show IsRangeIter _ _ (lo+((0:Nat):Int)*1) ((((hi-lo).toNat:Nat):Int)-((0:Nat):Int)) 1;rw[f,c];exact hS1 _ O
 ·have e:b=(s.heap.push {cls:=.type "range",data:=.fields #[.int lo t,.int hi u,.int 1 v]}).objs.size:=by simpa using d
  subst e;exact a.fpOk (nR1 _) (a.hok.fresh (nR1 _))
def Lb(ta:TA):TI:=fun σ H R=>ta σ H λvs H1=>∃j:Int,vs=[.int j] /\ -(2^62)<=j/\j<2^62/\R (LU 0 j.toNat) H1
def La(ta:TA):TI:=fun σ H R=>ta σ H λvs H1=>∃i j:Int,vs=[.int i,.int j]/\(-(2^62)<=i/\i<2^62 /\ -(2^62)<=j/\j<2^62)/\R (LU i (j-i).toNat) H1
theorem zm {a:Expr}{ta:TA}{p pos:Pos}(hg:Gl X "range")(hm:X.mg "range"=Y)(ha:PA X [a] ta)(hs:c9 [a] X.env=[(J,eval a X.env)]:=by rfl):PI X tg (.Call (.Name "range" p) [a] [] pos) (Lb ta):=by
 intro ag s σ H R I h;refine Call_ (j6 I hg hm boot_range (PyProof.Rows.callWith_type1 (ff (ha pos ag s σ H _ I h) λk i ⟨vs,H1,f,c,b⟩=>?_) hs O));obtain⟨j,e,b,d,q⟩:=b;subst e;cases c with
 |cons r g=>
  cases g;obtain⟨t,rfl⟩:=r;exact call_range_1 (uI f (by lia) (by lia) b d (by simpa using q))
theorem zl {a b:Expr}{ta:TA}{p pos:Pos}(hg:Gl X "range")(hm:X.mg "range"=none)(ha:PA X [a,b] ta)(hs:c9 [a,b] X.env=[(false,eval a X.env),(false,eval b X.env)]:=by rfl)(hs2:c9 [b] X.env=[(false,eval b X.env)]:=by rfl):
  PI X tg (.Call (.Name "range" p) [a,b] [] pos) (La ta):=by
 intro ag s σ H R I h;refine Call_ (j6 I hg hm boot_range (PyProof.Rows.callWith_type1 (ff (ha pos ag s σ H _ I h) λv u ⟨vs,H1,n,g,c⟩=>?_) (by rw[hs,hs2]) (by rw[hs2];rfl)));obtain⟨i,j,e,⟨c,k,l,f⟩,q⟩:=c;subst e;cases g with
 |cons r d=>
  cases d with
  |cons m d=>
   cases d;obtain⟨t,rfl⟩:=r;obtain⟨o,rfl⟩:=m;exact call_range_2 (uI n c k l f q)
def Kd(wi:TI)(g:TG)(tb:TS):TS:=λD σ H=>wi σ H λam H1=>∃W:Nat->Nat->St->Hp->Prop,(∃m,W 0 m σ H1) /\ ∀i m σ H,W i m σ H ->
 (am.stop i H/\D.nx σ H)\/(am.go i H /\ ∃N:St->Hp->Prop,(∀ σ' H',N σ' H' -> ∃m',m'<m/\W (i+1) m' σ' H') /\ ∀x H',am.yld i H x H'->g x σ H' fun σ2 H2=>tb {D with nx:=N,ct:=N,bk:=D.nx} σ2 H2)
def o5(fp:List c4)(h:df):List (c4×Obj):=fp.filterMap λb=>(h.get? b).map λo=>(b,o)
theorem jH{a:List c4}{h:df}{b:c4}{o:Obj}(hb:b∈a)(e:h.get? b=Z o):(b,o)∈o5 a h:=aM.mpr ⟨b,hb,by rw[e];rfl⟩
theorem zp{a:List c4}{h:df}{p:c4×Obj}(hp:p∈o5 a h):p.1∈a/\h.get? p.1=Z p.2:=by
 obtain⟨b,d,e⟩:=aM.mp hp;cases q:h.get? b with
 |none=>rw[q]at e;cases e
 |some o=>
  rw[q]at e;have c:(b,o)=p:=Option.some.inj e;subst c;exact⟨d,q⟩
theorem Inv.pinned{ag:List (c4×Obj)}{σ:St}{H:Hp}{s:c3}{a:List c4}(I:Inv X ag σ H s)(hf:∀b∈a,kZ X ag H b)(ho:∀b∈a,∃o,s.heap.get? b=Z o /\ ∀v,o.data ≠ .cell v):Inv X (ag++o5 a s.heap) σ H s:=
 I.pins_of λp g=>(aF.mp g).elim (λz=>I.pin p (mA1 _ z)) λz=>by
  obtain⟨c,e⟩:=zp z;obtain⟨h,j,i,_⟩:=hf p.1 c;obtain⟨o,f,d⟩:=ho p.1 c;rw[e]at f;cases f;exact⟨e,h,j,i,d⟩
theorem Inv.unpinned{ag pl:List (c4×Obj)}{σ:St}{H:Hp}{s:c3}(I:Inv X (ag++pl) σ H s):Inv X ag σ H s:=I.pins_of λp a=>I.pin p (mA1 _ (aG _ a))
theorem Hl{iter:Expr}{t:List di}{U:TI}{g:TG}{tb:TS}{pos:Pos}(hp:PassesOwn (model X.prog X.w) X.A X.env X.xe)(hc:X.calm=M)(hi:PI X tg iter U)(hg:PG X tg g)(hb:vY X t tb)(hs:∀x,foldedSetIterable iter X.env x=pure x:=by intro _;rfl):PS X (.For tg iter t [] pos) (Kd U g tb):=by
 intro ag s σ H D I h;refine wpAny_For (ff (hi ag s σ H _ I h) λv s1 h1=>ff h1 λitv s2 h2=>?_) hs;obtain⟨it,z,V,am,H2,e,I2,T,au,S,W,⟨m0,w0⟩,B⟩:=h2;subst e
 -- what stays M of the iterator's objects through the loop
 have q:∀{H':Hp},(∀b∈z,H' b=Y) -> ∀b∈z,kZ X ag H' b:=λhn b hb=>⟨hn b hb,(S b hb).2⟩;refine codeAny_forLoop_any (λn s'=>∃i p H',Inv X ag p H' s'/\V i s'.heap/\(∀b∈z,H' b=Y)/\W i n p H') ?_ m0 ⟨0,σ,H2,I2,au,λb hb=>(S b hb).1,w0⟩;rintro n s3 ⟨i,k,G,aq,C,F,w3⟩;rcases B i n k G w3 with⟨E,qn⟩|⟨go,N,hN,step⟩
 ·refine wpAny_passesOwn hp (ff (T.done X O O O hc i ag s3 k G X.xe aq (q F) C E) λr s4 ⟨P,I4⟩=>?_);subst P;exact wpAny_execs_nil ⟨k,G,I4,qn⟩
 ·refine wpAny_passesOwn hp (ff (T.item X rfl rfl rfl hc i ag s3 k G X.xe aq (q F) C go) fun r s4 ⟨u,P,h4⟩=>?_);subst P;refine wpAny_passesOwn hp (ff h4 fun _ wq ⟨x,R,I5,r5,y5,y,L⟩=>?_);have ao:=I5.pinned (q L) (T.obj _ _ y);refine wpAny_passesOwn hp (ff (hg _ wq k R x u _ ao r5 (step x R y5)) fun _ s6 ⟨K,H6,I6,q6⟩=>?_);refine wpAny_passesOwn hp (ff (hb _ s6 K H6 _ I6 q6) fun f Q w=>?_);have l:∀ {a:St} {j:Hp},Inv X (ag++o5 z wq.heap) a j Q->N a j -> ∃ m,m<n /\ ∃ i p H',Inv X ag p H' Q/\V i Q.heap/\(∀ b∈z,H' b=none)/\W i m p H':=fun {a j} c A=>by
   obtain⟨m',hm,w7⟩:=hN a j A;refine⟨m',hm,i+1,a,j,c.unpinned,T.keep _ _ _ y λb hb o e=>(c.pin (b,o) (mA1 _ (mA1 _ (jH hb e)))).1,λb hb=>?_,w7⟩;obtain⟨o,e,d⟩:=T.obj _ _ y b hb;exact(c.pin (b,o) (mA1 _ (mA1 _ (jH hb e)))).2.1
  cases f with
  |next=>obtain⟨a,j,c,A⟩:=w;exact l c A
  |cont=>obtain⟨a,j,c,A⟩:=w;exact l c A
  |brk=>obtain⟨a,j,c,w⟩:=w;exact⟨a,j,c.unpinned,w⟩
  |ret v=>obtain⟨x7,a,j,c,r7,w⟩:=w;exact⟨x7,a,j,c.unpinned,r7,w⟩
end
end L2
namespace L2
open PySem PySem.Spec PyProof.Rows
abbrev R2:=V->V->Hp->VK->Prop
def fQ(X:Cx)(f:cZ->cZ->Sem cZ)(r:R2):Prop:=
 ∀(ag:List (c4×Obj)) (s:c3) (σ:St) (H:Hp) (x y:V) (v u:cZ) (Q:VK),Inv X ag σ H s->dS x v->dS y u->r x y H Q ->
  db (model X.prog X.w) X.A (f v u) (EP X ag σ Q) X.xe s
def JO(X:Cx)(f:cZ->Sem cZ)(r:V->Hp->VK->Prop):Prop:=
 ∀(ag:List (c4×Obj)) (s:c3) (σ:St) (H:Hp) (x:V) (v:cZ) (Q:VK),Inv X ag σ H s->dS x v->r x H Q ->
  db (model X.prog X.w) X.A (f v) (EP X ag σ Q) X.xe s
def eN(X:Cx)(f:cZ)(r:List V->Hp->VK->Prop):Prop:=
 ∀(ag:List (c4×Obj)) (s:c3) (σ:St) (H:Hp) (xs:List V) (us:List cZ) (Q:VK),Inv X ag σ H s->d5 xs us->r xs H Q ->
  db (model X.prog X.w) X.A (call f us) (EP X ag σ Q) X.xe s
def Nj(X:Cx)(r:V->Hp->(Bool->Hp->Prop)->Prop):Prop:=
 ∀(ag:List (c4×Obj)) (s:c3) (σ:St) (H:Hp) (x:V) (v:cZ) (Q:Bool->Hp->Prop),Inv X ag σ H s->dS x v->r x H Q ->
  db (model X.prog X.w) X.A (truthy v) (TP X ag σ Q) X.xe s
def J9(r:R2)(ta tb:TE):TE:=fun σ H Q=>ta σ H λx H1=>tb σ H1 λy H2=>r x y H2 Q
def Nt(r:V->Hp->VK->Prop)(ta:TE):TE:=fun σ H Q=>ta σ H λx H1=>r x H1 Q
def rI(C:Int->Int->Prop)(g:Int->Int->V):R2:=λx y H Q=>∃i j,x = .int i/\y = .int j/\C i j/\Q (g i j) H
def Dp(g:Int->Int->V):R2:=λx y H Q=>∃i j,x = .int i/\y = .int j/\Q (g i j) H
def rU(g:Int->V):V->Hp->VK->Prop:=λx H Q=>∃i,x = .int i/\Q (g i) H
section
variable{X:Cx}{a b c:Expr}{ta tb tc:TE}{pos:Pos}
theorem Jr(ha:PE X a ta)(hb:PE X b tb){ag:List (c4×Obj)}{s:c3}{σ:St}{H:Hp}{R:V->V->Hp->Prop}(I:Inv X ag σ H s)(h:ta σ H fun x H1=>tb σ H1 fun y H2=>R x y H2){Q:cZ->c3->Prop}{f:cZ->cZ->Sem cZ}(hf:∀v u e x y H2,Inv X ag σ H2 e->dS x v->dS y u->R x y H2->db (model X.prog X.w) X.A (f v u) Q X.xe e):
  db (model X.prog X.w) X.A (eval a X.env) (λv d=>db (model X.prog X.w) X.A (eval b X.env) (λu c=>db (model X.prog X.w) X.A (f v u) Q X.xe c) X.xe d) X.xe s:=by
 refine ff (ha ag s σ H _ I h) λv j ⟨x,H1,l,g,m⟩=>?_;refine ff (hb ag j σ H1 _ l m) λu e ⟨y,H2,k,r2,i⟩=>?_;exact hf v u e x y H2 k g r2 i
theorem Kw{op:Operator}{r:R2}(ho:fQ X (binaryOp op) r)(ha:PE X a ta)(hb:PE X b tb):PE X (.BinOp a op b pos) (J9 r ta tb):=by
 intro ag s σ H Q I h;exact wpAny_BinOp (Jr ha hb I h λv u f x y H2 d c e q=>ho ag f σ H2 x y v u Q d c e q)
theorem Kv{op:UnaryOp}{r:V->Hp->VK->Prop}(ho:JO X (unaryOp op) r)(ha:PE X a ta):PE X (.UnaryOp op a pos) (Nt r ta):=by
 intro ag s σ H Q I h;exact UnaryOp_ (ff (ha ag s σ H _ I h) λv d ⟨x,H1,b,c,e⟩=>ho ag d σ H1 x v Q b c e)
theorem opI{f:cZ->cZ->Sem cZ}{C:Int->Int->Prop}{g:Int->Int->Int}(a:∀(i j:Int) (t u:Tok) (s:c3) (Q:cZ->c3->Prop) (E:cZ->c3->Prop),C i j->Q (.int (g i j) s.toks) {s with toks:=s.toks+1}->db (model X.prog X.w) X.A (f (.int i t) (.int j u)) Q E s):
  fQ X f (rI C λi j=>.int (g i j)):=by
 intro ag s σ H x y v u Q I b d h;obtain⟨i,j,rfl,rfl,hc,q⟩:=h;obtain⟨t,rfl⟩:=b;obtain⟨c,rfl⟩:=d;exact a i j t c s _ _ hc ⟨.int (g i j),H,I.tok _,⟨_,O⟩,q⟩
theorem Em{f:cZ->cZ->Sem cZ}{g:Int->Int->Int}(a:∀(i j:Int) (t u:Tok) (s:c3) (Q:cZ->c3->Prop) (E:cZ->c3->Prop),Q (.int (g i j) s.toks) {s with toks:=s.toks+1}->db (model X.prog X.w) X.A (f (.int i t) (.int j u)) Q E s):
  fQ X f (Dp λi j=>.int (g i j)):=by
 intro ag s σ H x y v u Q I b d h;obtain⟨i,j,rfl,rfl,q⟩:=h;obtain⟨t,rfl⟩:=b;obtain⟨c,rfl⟩:=d;exact a i j t c s _ _ ⟨.int (g i j),H,I.tok _,⟨_,O⟩,q⟩
theorem HR{f:cZ->cZ->Sem cZ}{g:Int->Int->Bool}(a:∀(i j:Int) (t u:Tok) (s:c3) (Q:cZ->c3->Prop) (E:cZ->c3->Prop),Q (.bool (g i j)) s->db (model X.prog X.w) X.A (f (.int i t) (.int j u)) Q E s):
  fQ X f (Dp λi j=>.bl (g i j)):=by
 intro ag s σ H x y v u Q I b d h;obtain⟨i,j,rfl,rfl,q⟩:=h;obtain⟨t,rfl⟩:=b;obtain⟨c,rfl⟩:=d;exact a i j t c s _ _ ⟨.bl (g i j),H,I,O,q⟩
def LW(i j:Int):Prop:=0<j/\j<1073741824
def F4(i j:Int):Prop:=0<=j/\j<=1000000/\i.natAbs<2^64
theorem we(k:Nat):(0:Int)<=2^k:=by
 rw[two_pow_cast];exact Int.natCast_nonneg _
theorem HQ:fQ X (binaryOp .Add) (Dp λi j=>.int (i+j)):=Em λ_ _ _ _ _ _ _ q=>add_int q
theorem HG:fQ X (binaryOp .Sub) (Dp λi j=>.int (i-j)):=Em λ_ _ _ _ _ _ _ q=>sub_int q
theorem Ek:fQ X (binaryOp .FloorDiv) (rI LW λi j=>.int (i/j)):=opI λi j _ _ _ _ _ hc q=>by
 have h1:(0:Int)<j:=hc.1;have h2:j<1073741824:=hc.2;exact floordiv_int (by lia) (by rw[Int.fdiv_eq_ediv_of_nonneg i (by lia)];exact q) (.inl (PyProof.noPylong_small (by lia)))
theorem HL:fQ X (binaryOp .Mod) (rI (λ_ j=>0<j) λi j=>.int (i%j)):=opI λi j _ _ _ _ _ hc q=>by
 have h1:(0:Int)<j:=hc;exact mod_int' (by lia) (by rw[Int.fmod_eq_emod_of_nonneg i (by lia)];exact q)
theorem HK:fQ X (binaryOp .Pow) (rI F4 λi j=>.int (i^j.toNat)):=opI λ_ _ _ _ _ _ _ hc q=>pow_int_small hc.1 hc.2.1 hc.2.2 q
theorem HI:fQ X (binaryOp .LShift) (rI F4 λi j=>.int (i*2^j.toNat)):=opI λ_ _ _ _ _ _ _ hc q=>lshift_int_small hc.1 hc.2.1 hc.2.2 q
theorem HH:fQ X (binaryOp .RShift) (rI (λ_ j=>0<=j) λi j=>.int (i/2^j.toNat)):=opI λi j _ _ _ _ _ hc q=>
 rshift_int hc (by rw[Int.fdiv_eq_ediv_of_nonneg i (we _)];exact q)
theorem HP:fQ X (binaryOp .BitAnd) (Dp λi j=>.int (Builtin.bitAnd i j)):=Em λ_ _ _ _ _ _ _ q=>and_int q
theorem E9:fQ X (inplaceOp .Add) (Dp λi j=>.int (i+j)):=Em λ_ _ _ _ _ _ _ q=>iadd_int q
theorem NV{f:cZ->Sem cZ}{g:Int->Int}(a:∀(i:Int) (t:Tok) (s:c3) (Q:cZ->c3->Prop) (E:cZ->c3->Prop),Q (.int (g i) s.toks) {s with toks:=s.toks+1}->db (model X.prog X.w) X.A (f (.int i t)) Q E s):
  JO X f (rU λi=>.int (g i)):=by
 intro ag s σ H x v Q I b h;obtain⟨i,rfl,q⟩:=h;obtain⟨t,rfl⟩:=b;exact a i t s _ _ ⟨.int (g i),H,I.tok _,⟨_,O⟩,q⟩
theorem GL:JO X (unaryOp .USub) (rU λi=>.int (-i)):=NV λ_ _ _ _ _ q=>neg_int q
theorem CO{ag:List (c4×Obj)}{σ:St}{H:Hp}{s:c3}{Q:VK}{k k':Bool}(I:Inv X ag σ H s)(q:Q (.bl k) H)(e:k=k'):EP X ag σ Q (.bool k') s:=by
 subst e;exact⟨.bl k,H,I,O,q⟩
theorem KC:fQ X (compareOp .LtE) (Dp λi j=>.bl (decide (i<=j))):=HR λ_ _ _ _ _ _ _ q=>le_int q
theorem KD:fQ X (compareOp .Gt) (Dp λi j=>.bl (decide (j<i))):=HR λ_ _ _ _ _ _ _ q=>gt_int q
theorem KE:fQ X (compareOp .GtE) (Dp λi j=>.bl (decide (j<=i))):=HR λ_ _ _ _ _ _ _ q=>ge_int q
theorem HM:fQ X (compareOp .Is) (λx y H Q=>y = .non/\Q (.bl (decide (x = .non))) H):=by
 intro ag s σ H x y v u Q I a b h;obtain⟨rfl,q⟩:=h;cases b;refine is_none_gen (CO I q ?_);cases x<;>first
  |(cases a;rfl)
  |(obtain⟨t,rfl⟩:=a;rfl)
theorem Ej:fQ X (compareOp .IsNot) (λx y H Q=>y = .non/\Q (.bl (!decide (x = .non))) H):=by
 intro ag s σ H x y v u Q I a b h;obtain⟨rfl,q⟩:=h;cases b;refine isnot_none_gen (CO I q ?_);cases x<;>first
  |(cases a;rfl)
  |(obtain⟨t,rfl⟩:=a;rfl)
theorem BU(b:Expr){op:CmpOp}(h:op ≠ .In:=by decide)(h2:op ≠ .NotIn:=by decide):behindInMarks op b=J:=by
 have a:(op == CmpOp.In)=J:=by cases op<;>first|rfl|exact absurd rfl h
 have c:(op == CmpOp.NotIn)=J:=by cases op<;>first|rfl|exact absurd rfl h2
 cases b<;>simp[behindInMarks,a,c]
theorem Eg{op:CmpOp}{r:R2}(ho:fQ X (compareOp op) r)(ha:PE X a ta)(hb:PE X b tb)(hm:behindInMarks op b=J):PE X (.Compare a [op] [b] pos) (J9 r ta tb):=by
 intro ag s σ H Q I h;exact wpAny_Compare1 (Jr ha hb I h λv u f x y H2 d c e q=>ho ag f σ H2 x y v u Q d c e q) hm
def J0(t:TE):TT:=fun σ H Q=>t σ H λx H'=>∃k,x = .bl k/\Q k H'
theorem D0{op:CmpOp}{r:R2}(ho:fQ X (compareOp op) r)(ha:PE X a ta)(hb:PE X b tb)(hm:behindInMarks op b=J):PT X (.Compare a [op] [b] pos) (J0 (J9 r ta tb)):=by
 intro ag s σ H Q I h;refine wpAny_isTrue_Compare1 (ff (ha ag s σ H _ I h) λv j ⟨x,H1,o,g,p⟩=>ff (hb ag j σ H1 _ o p) λu q ⟨y,H2,m,r2,i⟩=>
  ff (ho ag q σ H2 x y v u _ m g r2 i) λc t ⟨z,f,n,d,k,e,l⟩=>?_) hm
 subst e;cases d;exact wpAny_truthy_bool ⟨f,n,l⟩
def AV(r r':R2)(ta tb tc:TE):TE:=fun σ H Q=>ta σ H λx H1=>tb σ H1 λy H2=>r x y H2 λz H3=>∃k,z = .bl k /\
 (if k=M then tc σ H3 λw' H4=>r' y w' H4 Q else Q (.bl J) H3)
theorem BB{op op':CmpOp}{r g:R2}(ho:fQ X (compareOp op) r)(ho':fQ X (compareOp op') g)(ha:PE X a ta)(hb:PE X b tb)(hc:PE X c tc)(hm:lastMarks [op,op'] [b,c]=J:=by with_unfolding_all rfl):PE X (.Compare a [op,op'] [b,c] pos) (AV r g ta tb tc):=by
 intro ag s σ H Q I h;refine Compare_chain (ff (ha ag s σ H _ I h) λv m ⟨x,H1,n,w,B⟩=>chain_link (ff (hb ag m σ H1 _ n B) λu C ⟨y,H2,A,r2,D⟩=>
  ff (ho ag C σ H2 x y v u _ A w r2 D) λd E ⟨z,j,i,q,k,e,f⟩=>?_)) hm
 subst e;cases q;refine wpAny_truthy_bool ?_;cases k with
 |false=>exact ite_ff ⟨.bl J,j,i,O,f⟩
 |true=>exact ite_tt (chain_last (ff (hc ag E σ j _ i f) λG p ⟨l,t,F,o,am⟩=>ho' ag p σ t y l u G Q F r2 o am))
def FZ(K:Fg1)(x:V)(H:Hp)(k:Bool):Prop:=
 match x with
 | .non=>k=J
 | .bl b=>k=b
 | .int i=>k=(i != 0)
 | .str y=>y.length<=da/\k=((y.length:Int) != 0)
 | .byt y=>y.size<=da/\k=((y.size:Int) != 0)
 | .ref p=>(∃xs,mY K H p xs/\k = !xs.isEmpty)\/(∃xs,kP K H p xs/\k = !xs.isEmpty) \/ ∃kvs,H p=Z (.dK kvs)/\k = !kvs.isEmpty
 |_=>False
theorem wV{κ:Type}{kvs:List (κ×V)}{vs:List (κ×cZ)}(r:KV kvs vs):(!vs.isEmpty) = !kvs.isEmpty:=by
 cases r<;>rfl
theorem pC{xs:List V}{its:List cZ}(r:d5 xs its):(!its.toArray.isEmpty) = !xs.isEmpty:=by
 cases r<;>simp
theorem mK:(da:Nat)<2^63:=by rw[sizeLine_eq];decide
theorem GP:Nj X (λx H Q=>∃k,FZ X.K x H k/\Q k H):=by
 intro ag s σ H x v Q I d h;obtain⟨k,e,q⟩:=h;have u:=mK;have o:da=16777216:=sizeLine_eq;cases x with
 |non=>
  cases d;have a:k=J:=e;subst a;exact truthy_none ⟨H,I,q⟩
 |bl b=>
  cases d;have a:k=b:=e;subst a;exact wpAny_truthy_bool ⟨H,I,q⟩
 |int i=>
  obtain⟨t,rfl⟩:=d;have a:k=(i != 0):=e;subst a;exact PySem.P.truthy_int ⟨H,I,q⟩
 |str y=>
  obtain⟨t,rfl⟩:=d;obtain⟨l,a⟩:y.length<=da/\k=((y.length:Int) != 0):=e;subst a;exact PySem.P.truthy_str (by lia) ⟨H,I.tok _,q⟩
 |byt y=>
  obtain⟨t,rfl⟩:=d;obtain⟨l,a⟩:y.size<=da/\k=((y.size:Int) != 0):=e;subst a;exact PySem.W.truthy_bytes (by lia) ⟨H,I.tok _,q⟩
 |ref p=>
  cases d;have a:(∃xs,mY X.K H p xs/\k = !xs.isEmpty)\/(∃xs,kP X.K H p xs/\k = !xs.isEmpty) \/ ∃kvs,H p=Z (.dK kvs)/\k = !kvs.isEmpty:=e;rcases a with⟨xs,f,a⟩|⟨xs,f,a⟩|⟨kvs,f,a⟩
  ·subst a;obtain⟨g,r,pl,j⟩:=I.list f;have c:=r.length;exact wpAny_truthy_list pl.isList (by simp only[sT1];lia) ⟨H,I.tok _,by rw[pC r];exact q⟩
  ·subst a;obtain⟨g,r,pl,j⟩:=I.tuple f;have c:=r.length;exact truthy_tuple pl (by simp only[sT1];lia) ⟨H,I.tok _,by rw[pC r];exact q⟩
  ·subst a;obtain⟨j,n,vs,r,m⟩:kvs.length<=da/\(p == sysModules)=false /\ ∃vs,KV kvs vs/\s.heap.DictOf (eF X.prog X.w) p vs:=I.hok p _ f;have c:kvs.length=vs.length:=Paired.length r;exact wpAny_truthy_dict n m (by lia) ⟨H,I.tok _,by rw[wV r];exact q⟩
 |_=>exact(show False from e).elim
theorem Bk(ha:PE X a ta)(he:∀ b,isTrue a X.env b=(do let v<-b;standAt a.pos;holding [v] (truthy v))):
  PT X a (fun σ H Q=>ta σ H λx H'=>∃k,FZ X.K x H' k/\Q k H'):=by
 intro ag s σ H Q I h;exact isTrue_plain (ff (ha ag s σ H _ I h) λv d ⟨x,H1,e,c,f⟩=>GP ag d σ H1 x v Q e c f) (he _)
theorem wE:fQ X (binaryOp .Add) (λx y H Q=>∃i j,x = .str i/\y = .str j/\i.length+j.length<=da/\Q (.str (i++j)) H):=by
 intro ag s σ H x y v u Q I a d h;obtain⟨i,j,rfl,rfl,b,q⟩:=h;obtain⟨t,rfl⟩:=a;obtain⟨c,rfl⟩:=d;exact add_str (λc tk=>⟨.str (i++j),H,I.tok _,⟨_,O⟩,q⟩) b
theorem im{x:V}{a:List cZ}(r:d5 [x] a):∃u,a=[u]/\dS x u:=by
 cases r with
 |cons b r2=>cases r2;exact⟨_,O,b⟩
theorem AG{x y:V}{a:List cZ}(r:d5 [x,y] a):∃u w',a=[u,w']/\dS x u/\dS y w':=by
 cases r with
 |cons b r2=>
  cases r2 with
  |cons c d=>cases d;exact⟨_,_,O,b,c⟩
theorem Ag(hc:X.calm=M):eN X (.builtin "max") (λxs H Q=>∃i j,xs=[.int i,.int j]/\Q (.int (if j>i then j else i)) H):=by
 intro ag s σ H xs c Q I r h;obtain⟨i,j,rfl,q⟩:=h;obtain⟨u,d,rfl,⟨t,rfl⟩,⟨b,rfl⟩⟩:=AG r;refine max_two_ints (I.ok.hd hc) λh' tk k=>⟨_,H,I.kept k,?_,q⟩;by_cases a:j>i
 ·rw[ak a,ak a];exact⟨_,O⟩
 ·rw[aj a,aj a];exact⟨_,O⟩
theorem Af(hc:X.calm=M):eN X (.builtin "min") (λxs H Q=>∃i j,xs=[.int i,.int j]/\Q (.int (if j<i then j else i)) H):=by
 intro ag s σ H xs c Q I r h;obtain⟨i,j,rfl,q⟩:=h;obtain⟨u,d,rfl,⟨t,rfl⟩,⟨b,rfl⟩⟩:=AG r;refine min_two_ints (I.ok.hd hc) λh' tk k=>⟨_,H,I.kept k,?_,q⟩;by_cases a:j<i
 ·rw[ak a,ak a];exact⟨_,O⟩
 ·rw[aj a,aj a];exact⟨_,O⟩
theorem si:eN X (.type "int") (λxs H Q=>(∃i,xs=[.int i]/\Q (.int i) H) \/ ∃k,xs=[.bl k]/\Q (.int (if k then 1 else 0)) H):=by
 intro ag s σ H xs b Q I r h;rcases h with⟨i,rfl,q⟩|⟨k,rfl,q⟩
 ·obtain⟨u,rfl,t,rfl⟩:=im r;exact call_int_int ⟨.int i,H,I,⟨_,O⟩,q⟩
 ·obtain⟨u,rfl,a⟩:=im r;cases a;exact call_int_bool ⟨.int (if k then 1 else 0),H,I.tok _,⟨_,O⟩,q⟩
theorem tV:eN X (.type "str") (λxs H Q=>∃i,xs=[.int i]/\i.natAbs.log2<1920/\Q (.str (toString i)) H):=by
 intro ag s σ H xs b Q I r h;obtain⟨i,rfl,a,q⟩:=h;obtain⟨u,rfl,t,rfl⟩:=im r;exact PySem.P.str_of_int a ⟨.str _,H,I.tok _,⟨_,O⟩,q⟩
end
end L2
namespace L2
open PySem PySem.Spec PyProof.Rows
structure JF (h:df)(x dx C:c4)(mA:Str->Option cZ):Prop where
 obj:h.get? x=some (PySem.W.instObj C dx)
 ns:h.Ns1 dx mA
 ne:dx≠x
theorem zA{h:df}{dx:c4}{mA:Str->Option cZ}(n:h.Ns1 dx mA):∃c,h.get? dx=Z c /\ ∀name,PySem.W.lookIn name c=Z (mA name):=by
 obtain⟨o,es,ep,g,i,k,_,d⟩:=n;refine⟨o,g,λname=>?_⟩;have e:=d name;unfold nsFind findBy at e;rw[<- Array.find?_toList]at e;unfold PySem.W.lookIn;rw[i];dsimp only;split
 ·rename_i y q;rw[q]at e;exact congrArg Z e
 ·rename_i q;rw [q] at e;have a:es.toList.any (·.refKey)=false:=by
   rw[List.any_eq_false];intro y f;obtain⟨z,t,b⟩:=k y (Array.mem_toList_iff.mp f);simp[DictEntry.refKey,b]
  have j:¬ es.toList.any (·.refKey)=M:=by rw[a];exact aK
  rw[aj j];exact congrArg Z e
theorem JF.look{h:df}{x dx C:c4}{mA:Str->Option cZ}(I:JF h x dx C mA):∃a,PySem.W.InstAt h x (PySem.W.instObj C dx) C (Z a) /\ ∀name,PySem.W.lookIn name a=Z (mA name):=
 let ⟨a,ho,hl⟩:=zA I.ns
 ⟨a,⟨I.obj,O,O,ho⟩,hl⟩
section
variable{prog:c5}{w:c7}{A:c6}{E:cZ->c3->Prop}{s:c3}{K:Fg1}{x dx C f:c4}{mA:Str->Option cZ}{name:Str}{v:cZ}
end
theorem mZ.some_of{v:V}{o:Option cZ}(r:mZ (Z v) o):∃u,o=Z u/\dS v u:=by
 cases o with
 |none=>exact(show False from r).elim
 |some u=>exact⟨u,O,r⟩
section
variable{P:c5}{w:c7}{H H':Hp}{h h':df}{a C dx:c4}{fs fs':List (Str×V)}
theorem Fb(b:lI P w H h)(e:H a=Z (.ins C dx fs)):∃mA,JF h a dx C mA/\(∀f,mZ (fs.lookup f) (mA f))/\PySem.Within mA (fs.map (·.1))/\fs.length<=1000/\H dx=Z (.own a):=by
 obtain⟨d,z,ne,c,mA,n,r,q⟩:=(show eM P w H h a (.ins C dx fs)from b a _ e);exact⟨mA,⟨c,n,ne⟩,r,q,z,d⟩
end
structure Nq (K:Fg1)(C:c4):Prop where
 pg:PySem.W.plainGet K C Str.empty=true
 hd:PySem.W.hasDictIn K C=true
 po:PySem.W.plainOver K C=true
 sa:PySem.W.findIn K (.ref C) "__setattr__"=some (some (.builtin "object.__setattr__"))
theorem Nq.get{K:Fg1}{C:c4}(c:Nq K C)(f:Str):PySem.W.plainGet K C f=M:=c.pg
section
variable{X:Cx}{ag:List (c4×Obj)}{σ:St}{H:Hp}{s:c3}{a C dx:c4}{fs:List (Str×V)}{f:Str}{v:V}{A:c6}{E:cZ->c3->Prop}
end
section
variable{X:Cx}{o e value:Expr}{f:Str}{pos pos' tpos:Pos}{ta tv:TE}
end
section
variable{X:Cx}{ag:List (c4×Obj)}{σ:St}{H:Hp}{s:c3}{A:c6}{E:cZ->c3->Prop}{Q:cZ->c3->Prop}{c:cZ}{b:Bool}
inductive nX (K:Fg1)(H:Hp):V->cZ->Prop where
 |non:nX K H .non (.type "NoneType")
 |bl (x:Bool):nX K H (.bl x) (.type "bool")
 |int (i:Int):nX K H (.int i) (.type "int")
 |str (x:Str):nX K H (.str x) (.type "str")
 |flt (x:UInt64):nX K H (.flt x) (.type "float")
 |lst {a:c4} {xs:List V} (e:H a=some (.lst xs)):nX K H (.ref a) (.type "list")
 |frz {a:c4} {o:Obj} {xs:List V} (e:H a=some (.frz o (.lst xs))):nX K H (.ref a) (.type "list")
 |tup {a:c4} {xs:List V} (e:H a=some (.tup xs)):nX K H (.ref a) (.type "tuple")
 |dK {a:c4} {kvs:List (Key×V)} (e:H a=some (.dK kvs)):nX K H (.ref a) (.type "dict")
 |dT {a:c4} {kvs:List (List Key×V)} (e:H a=some (.dT kvs)):nX K H (.ref a) (.type "dict")
 | ins {a C dx:c4} {fs:List (Str×V)} (e:H a=some (.ins C dx fs)) (cl:Nq K C) (ha:PySem.W.findIn K (.ref C) "__class__"=some (some (.builtin "object.__class__")))
   (hn:PySem.W.specialIn K (.builtin "object.__class__") "__get__"=some (some (.builtin "getset_descriptor.__get__"))) (htk:PySem.W.takesIn K (.builtin "object.__class__")=some true)
   (hm:PySem.W.mroIn K C (.type "object")=some true):nX K H (.ref a) (.ref C)
theorem jt{x:V}{u t:cZ}(I:Inv X ag σ H s)(d:dS x u)(ty:nX X.K H x t)(e:PySem.W.kitOne X.K t c=some b)(h:∀ tk,Q (.bool b) {s with toks:=tk}):
  db (model X.prog X.w) A (call (.builtin "isinstance") [u,c]) Q E s:=by
 cases ty with
 |non=>cases(show u=Value.none from d);exact PySem.W.kia_one PySem.W.kitx_none I.kIn True.intro e (λz=>nomatch z) h
 |bl y=>cases(show u=Value.bool y from d);exact PySem.W.kia_one PySem.W.kitx_bool I.kIn True.intro e (λz=>nomatch z) h
 |int i=>obtain⟨t,q⟩:=(show∃t,u=Value.int i t from d);cases q;exact PySem.W.kia_one PySem.W.kitx_int I.kIn True.intro e (λz=>nomatch z) h
 |str y=>obtain⟨t,q⟩:=(show∃t,u=Value.str y t from d);cases q;exact PySem.W.kia_one PySem.W.kitx_str I.kIn True.intro e (λz=>nomatch z) h
 |flt y=>obtain⟨t,q⟩:=(show∃t,u=Value.float y t from d);cases q;exact PySem.W.kia_one PySem.W.kitx_float I.kIn True.intro e (λz=>nomatch z) h
 | @lst a xs f=>
  cases(show u=Value.ref a from d);obtain⟨_,_,n,_,h1⟩:=(show eM X.prog X.w H s.heap a (.lst xs)from I.hok a _ f);exact PySem.W.kia_one PySem.W.kitx_list I.kIn ⟨_,h1,O⟩ e (λz=>nomatch z) h
 | @frz a l xs f=>
  cases(show u=Value.ref a from d);obtain⟨_,_,_,n,_,h1⟩:=(show eM X.prog X.w H s.heap a (.frz l (.lst xs))from I.hok a _ f);exact PySem.W.kia_one PySem.W.kitx_list I.kIn ⟨_,h1,O⟩ e (λz=>nomatch z) h
 | @tup a xs f=>
  cases(show u=Value.ref a from d);obtain⟨_,_,_,p⟩:=(show eM X.prog X.w H s.heap a (.tup xs)from I.hok a _ f);obtain⟨o,h1,h2,_⟩:=p;exact PySem.W.kia_one PySem.W.kitx_tuple I.kIn ⟨o,h1,h2⟩ e (λz=>nomatch z) h
 | @dK a kvs f=>
  cases(show u=Value.ref a from d);obtain⟨_,_,vs,_,p⟩:=(show eM X.prog X.w H s.heap a (.dK kvs)from I.hok a _ f);obtain⟨o,es,ep,h1,h2,_⟩:=p;exact PySem.W.kia_one PySem.W.kitx_dict I.kIn ⟨o,h1,h2.1⟩ e (λz=>nomatch z) h
 | @dT a kvs f=>
  cases(show u=Value.ref a from d);obtain⟨_,_,xs,_,o,es,ep,h1,h2,_⟩:=(show eM X.prog X.w H s.heap a (.dT kvs)from I.hok a _ f);exact PySem.W.kia_one PySem.W.kitx_dict I.kIn ⟨o,h1,h2.1⟩ e (λz=>nomatch z) h
 | @ins a C dx fs f j r m g k=>
  cases(show u=Value.ref a from d);obtain⟨mA,au,_⟩:=Fb I.hok f;obtain⟨v,am,_⟩:=au.look;exact PySem.W.kia_one (PySem.W.kitx_own (j.get _) j.hd r m g k) I.kIn am e (λz=>nomatch z) h
end
end L2
namespace L2
open PySem PySem.Spec PyProof.Rows
structure gf (k:Nat)(A:c6):Prop where
 hd:A.handled=none
 dp:A.depth+3*k+5<recursionLimit
 un:A.units+16*k+200<cLine
 gd:A.guards=some []
theorem gf.mono{j k:Nat}{A:c6}(r:gf k A)(h:j<=k):gf j A:=⟨r.hd,by have:=r.dp;lia,by have:=r.un;lia,r.gd⟩
theorem gf.deeper{k:Nat}{A:c6}(r:gf (k+1) A)(env:Env):gf k (A.deeper env):=
 ⟨r.hd,by have:=r.dp;show A.depth+1+3*k+5<_;lia,by have:=r.un;show A.units+3+16*k+200<_;lia,r.gd⟩
theorem gf.depth{k:Nat}{A:c6}(r:gf k A):A.depth<recursionLimit:=by have:=r.dp;lia
theorem gf.units{k:Nat}{A:c6}(r:gf k A):A.units+64<cLine:=by have:=r.un;lia
def Mp:TA:=λ_ H Q=>Q [] H
def Kg(ta:TE)(tr:TA):TA:=fun σ H Q=>ta σ H λx H1=>tr σ H1 λxs H2=>Q (x::xs) H2
section
variable{X:Cx}{e:Expr}{es:List Expr}{te:TE}{t:TA}{pos:Pos}
theorem ph:PA X [] Mp:=λ_ _ _ _ H Q I h=>Calls.spliced_nil ⟨[],H,I,.nil,h⟩
theorem kC(ha:PE X e te)(hr:PA X es t)(hs:c9 (e::es) X.env=(J,eval e X.env)::c9 es X.env:=by rfl):PA X (e::es) (Kg te t):=by
 intro pos ag s σ H Q I h;rw[hs];show db _ _ (spliced ((J,eval e X.env)::backTo pos (c9 es X.env))) _ _ s;refine Calls.spliced_cons (ff (ha ag s σ H _ I h) λu c ⟨x,H1,f,a,g⟩=>?_);exact ff (hr pos ag c σ H1 _ f g) λi j ⟨xs,H2,d,r2,b⟩=>⟨x::xs,H2,d,.cons a r2,b⟩
def Mk(t:TA):TE:=fun σ H Q=>t σ H λxs H1=>xs.length<=da /\ ∀p,H1 p=Y->Q (.ref p) (upd H1 p (.tup xs))
def Mt(t:TA):TE:=fun σ H Q=>t σ H λxs H1=>xs.length<=da /\ ∀p,H1 p=Y->Q (.ref p) (upd H1 p (.lst xs))
theorem Hv{x1}(h:PA X es t):PE X (.Tuple es x1 pos) (Mk t):=by
 intro ag s σ H Q I f;refine wpAny_Tuple_spliced (ff (h pos ag s σ H _ I f) λg a ⟨xs,H1,c,r,z,q⟩=>⟨by rw[<- r.length];exact z,?_⟩);have d:H1 a.heap.objs.size=Y:=c.hok.fresh (nR1 _);refine⟨.ref a.heap.objs.size,upd H1 a.heap.objs.size (.tup xs),c.laid (t':=a.toks) (λb u e=>hP1 _ e) (nR1 _) ?_,O,q _ d⟩;exact⟨z,g,r,⟨_,hS1 _ O,O,_,O⟩⟩
theorem HA(h:PA X es t):PE X (.List es pos) (Mt t):=by
 intro ag s σ H Q I f;refine wpAny_List_spliced (ff (h pos ag s σ H _ I f) λg a ⟨xs,H1,c,r,z,q⟩=>⟨by rw[<- r.length];exact z,?_⟩);have d:H1 a.heap.objs.size=Y:=c.hok.fresh (nR1 _);refine⟨.ref a.heap.objs.size,upd H1 a.heap.objs.size (.lst xs),c.laid (t':=a.toks) (λb u e=>hP1 _ e) (nR1 _) ?_,O,q _ d⟩;exact⟨z,g,0,r,hS1 _ O⟩
end
abbrev Sp:=List V->Hp->VK->XK->Prop
abbrev Av:=List Env->Hp->c3->XK->cZ->c3->Prop
structure F3 (P:c5)(w:c7)(K:Fg1)(mg:Str->Option cZ)(base:df)(A:c6)(outer:List Env)(s:c3)(H:Hp):Prop where
 frames:A.frames=some outer
 mod:Mod K mg base
 bs:∀b o,base.get? b=some o->s.heap.get? b=some o/\H b=none
 bsz:base.objs.size<=s.heap.objs.size
 funs:s.heap.FunFrames base outer
 frf:∀b∈frs outer,H b=none
 hok:lI P w H s.heap
 bare:AllBare s.gens
def CE(outer:List Env)(P:c5)(w:c7)(H:Hp)(s:c3)(Q:VK)(u:cZ)(s':c3):Prop:=
 ∃v H',s'.os=s.os/\AllBare s'.gens/\Un (frs outer) [] H H' s.heap s'.heap/\lI P w H' s'.heap/\dS v u/\Q v H'
def CR(CX:Av)(outer:List Env)(P:c5)(w:c7)(H:Hp)(s:c3)(Q:VK)(E:XK)(r:Result)(s':c3):Prop:=
 match r with
 | .ok (.ret u)=>CE outer P w H s Q u s'
 | .ok _=>False
 | .error e=>CX outer H s E e s'
structure m4 (P:c5)(w:c7)(K:Fg1)(mg:Str->Option cZ)(base:df)(CX:Av)(k:Nat)(f:c4)(fd:dg)(ps:List Str)(sp:Sp):Prop where
 len:∀vs H Q E,sp vs H Q E->vs.length=ps.length
 run:∀(A:c6) (outer:List Env) (s:c3) (H:Hp) (args:Args) (us:List cZ) (vs:List V) (Q:VK) (E:XK),gf k A->F3 P w K mg base A outer s H->BindsTo s fd args (ps.zip us)->d5 vs us->sp vs H Q E ->
  de (model P w) A (.call (.ref f) args) (CR CX outer P w H s Q E) s
section
variable{X:Cx}{ag:List (c4×Obj)}{σ:St}{H:Hp}{s s':c3}
theorem Inv.env0(I:Inv X ag σ H s):F3 X.prog X.w X.K X.mg X.base X.A X.stack s H:=
 ⟨I.ok.frames,I.ok.mod,I.bs,aC I.ok.bsz I.sz,I.stack,I.stkFree,I.hok,I.bare⟩
theorem Inv.after{Q:VK}{u:cZ}(I:Inv X ag σ H s)(h:CE X.stack X.prog X.w H s Q u s'):EP X ag σ Q u s':=by
 obtain⟨v,H',f,a,un,e,r,q⟩:=h;obtain⟨i,g,d,t,c⟩:=s';obtain rfl:c=s.os:=f;exact⟨v,H',I.call (h':=i) (g':=g) (d':=d) (t':=t) (ch:=[]) un e a (λb z=>absurd z (by simp)),r,q⟩
end
def Kh(sp:Sp)(dvs:List V)(E:XK)(t:TA):TE:=fun σ H Q=>t σ H λvs H1=>sp (vs++dvs) H1 Q E
def kn(K:Fg1)(fd:dg)(ps:List Str)(ds:List cZ):Prop:=
 ∀(s:c3) (us:List cZ),K.In s.heap->(us++ds).length=ps.length->BindsTo s fd ⟨us,[]⟩ (ps.zip (us++ds))
theorem kn.all{K:Fg1}{fd:dg}{ps:List Str}(h:∀a:List cZ,a.length=ps.length->bindArgs fd ⟨a,[]⟩=pure (ps.zip a)):kn K fd ps []:=λs a _ b=>by
 rw[aN]at b ⊢;exact .of_eq (h a b)
def xu(CX:Av)(X:Cx)(E:XK):Prop:=∀(ag:List (c4×Obj)) (σ:St) (H:Hp) (s:c3) (e:cZ) (s':c3),Inv X ag σ H s->CX X.stack H s E e s'->X.xe e s'
section
variable{X:Cx}{CX:Av}{k:Nat}{f C:c4}{fd:dg}{ps:List Str}{sp:Sp}{dvs:List V}{ds:List cZ}{E:XK}{x m:Str}{p pos apos:Pos}{e o:Expr}{es:List Expr}{ta:TE}{t:TA}
theorem G6{ag:List (c4×Obj)}{σ:St}{H:Hp}{s:c3}{Q:VK}{a:List cZ}{vs:List V}(F:m4 X.prog X.w X.K X.mg X.base CX k f fd ps sp)(hr:gf k X.A)(hb:kn X.K fd ps ds)(hd:d5 dvs ds)(hx:xu CX X E)(I:Inv X ag σ H s)(r:d5 vs a)(h:sp (vs++dvs) H Q E):db (model X.prog X.w) X.A (call (.ref f) a) (EP X ag σ Q) X.xe s:=by
 have r2:d5 (vs++dvs) (a++ds):=r.append hd;have d:(a++ds).length=ps.length:=by rw[<- r2.length];exact F.len _ _ _ _ h
 refine wpAny_call (codeAny_mono (F.run X.A X.stack s H ⟨a,[]⟩ (a++ds) (vs++dvs) Q E hr I.env0 (hb s a I.kIn d) r2 h) λr s' b=>?_);cases r with
 |error e=>exact hx ag σ H s e s' I b
 |ok c=>
  cases c with
  |ret u=>exact I.after b
  |next=>exact False.elim b
  |brk=>exact False.elim b
  |cont=>exact False.elim b
theorem Eh (F:m4 X.prog X.w X.K X.mg X.base CX k f fd ps sp)(hr:gf k X.A)(hg:Gl X x)(hm:X.mg x=some (.ref f))(hk:wK1 X.K (.ref f)=true)(hb:kn X.K fd ps ds)(hd:d5 dvs ds)(hx:xu CX X E)
  (ha:PA X (e::es) t) (hdb:(x == ("__debug__":Str))=J:=by decide) (he:c9 (e::es) X.env=(J,eval e X.env)::c9 es X.env:=by rfl) (hpl:(backTo pos (c9 es X.env)).any (·.1)=J:=by rfl):
  PE X (.Call (.Name x p) (e::es) [] pos) (Kh sp dvs E t):=by
 intro ag s σ H Q I h;refine wpAny_Call_Name_kw (yd I hg hm ?_ hdb);refine PySem.W.callWith_K (h₀:=X.base) I.ok.mod.kin hk (ff (ha pos ag s σ H _ I h) λc b ⟨vs,H1,a,r,q⟩=>⟨a.kIn,?_⟩) he hpl;exact G6 F hr hb hd hx a r q
end
section
variable{X:Cx}{CX:Av}{k:Nat}{f C:c4}{fd:dg}{ps ks:List Str}{sp:Sp}{E:XK}{x m:Str}{p pos apos kpos:Pos}{e o:Expr}{es:List Expr}{kws:List Keyword}{te ta:TE}{t tk:TA}{nm:Option Str}
variable{g:List cZ->List cZ->List cZ}{gV:List V->List V->List V}
end
structure g9 (N P:List Str)(sc:dj):Prop where
 kind:sc.kind = .function
 co:sc.isCoroutine=false
 gen:sc.isGenerator=false
 nd:N.Nodup
 pre:N.take P.length=P
 par:∀x∈P,sc.names.lookup x=some .local\/sc.names.lookup x=some .cell
 nofree:∀y∈sc.names,y.2 ≠ .free
theorem sr{kindOf:Str->Option NameKind}{x:Str}:∀{binds:List (Str×cZ)} {m:Str->Option cZ},(∀v,(x,v)∉binds)->bindL kindOf binds m x=m x
 |[],_,_=>rfl
 |(n,v)::r,m,h=>by
  unfold bindL;rw[sr λw a=>h w (mC1 _ a)];split
  ·have:x≠n:=by rintro rfl;exact h v mS1
   simp[this]
  ·rfl
theorem su{kindOf:Str->Option NameKind}{x:Str}:∀{binds:List (Str×cZ)} {m:Str->Option cZ},(∀v,(x,v)∉binds)->bindC kindOf binds m x=m x
 |[],_,_=>rfl
 |(n,v)::r,m,h=>by
  unfold bindC;rw[su λw a=>h w (mC1 _ a)];split
  ·rfl
  ·have:x≠n:=by rintro rfl;exact h v mS1
   simp[this]
theorem ss{kindOf:Str->Option NameKind}{x:Str}{v:cZ}:∀ {P:List Str} {vs:List cZ} {i:Nat} {m:Str->Option cZ},P.Nodup->P[i]? = some x->vs[i]? = some v->kindOf x=some .local ->
  bindL kindOf (P.zip vs) m x=Z v
 |[],_,_,_,_,h,_,_=>by simp at h
 |_::_,[],_,_,_,_,h,_=>by simp at h
 |p::P,w::vs,0,m,nd,h1,h2,hk=>by
  simp at h1 h2;subst h1;subst h2;show bindL kindOf ((p,w)::P.zip vs) m p=_;unfold bindL;rw[sr λv a=>(aO.mp nd).1 (List.of_mem_zip a).1,ak hk];simp
 |p::P,w::vs,i+1,m,nd,h1,h2,hk=>by
  show bindL kindOf ((p,w)::P.zip vs) m x=_;unfold bindL;exact ss (i:=i) (aO.mp nd).2 (by simpa using h1) (by simpa using h2) hk
theorem sv{kindOf:Str->Option NameKind}{x:Str}{v:cZ}:∀ {P:List Str} {vs:List cZ} {i:Nat} {m:Str->Option cZ},P.Nodup->P[i]? = some x->vs[i]? = some v->kindOf x≠some .local ->
  bindC kindOf (P.zip vs) m x=Z v
 |[],_,_,_,_,h,_,_=>by simp at h
 |_::_,[],_,_,_,_,h,_=>by simp at h
 |p::P,w::vs,0,m,nd,h1,h2,hk=>by
  simp at h1 h2;subst h1;subst h2;show bindC kindOf ((p,w)::P.zip vs) m p=_;unfold bindC;rw[su λv a=>(aO.mp nd).1 (List.of_mem_zip a).1,aj hk];simp
 |p::P,w::vs,i+1,m,nd,h1,h2,hk=>by
  show bindC kindOf ((p,w)::P.zip vs) m x=_;unfold bindC;exact sv (i:=i) (aO.mp nd).2 (by simpa using h1) (by simpa using h2) hk
def start(N:List Str)(vs:List V):St:=vs.map Z++aP (N.length-vs.length) Y
def nV(CX:Av)(P:c5)(w:c7)(K:Fg1)(mg:Str->Option cZ)(base:df)(N:List Str)(qual:Str)(scope:dj)(f:c4)(cd:cZ)(A:c6)(outer:List Env)(s:c3)(H:Hp)(E:XK):Cx where
 prog:=P
 w:=w
 K:=K
 mg:=mg
 base:=base
 A:=A.deeper (envOfC qual scope s.heap.objs.size f cd)
 N:=N
 s₀:=s
 H₀:=H
 env:=envOfC qual scope s.heap.objs.size f cd
 outer:=outer
 stack:=envOfC qual scope s.heap.objs.size f cd::outer
 ex:=[]
 calm:=M
 fn:=λ_=>M
 pn:=[]
 xe:=λe s'=>db (model P w) (A.deeper (envOfC qual scope s.heap.objs.size f cd)) (leaving (envOfC qual scope s.heap.objs.size f cd) e) (λ_ s''=>CX outer H s E e s'') (λe' s''=>CX outer H s E e' s'') s'
theorem vK{a:dj}{n:Nat}{x:Str}(h:a.names.lookup x=Z .cell):∃c,(cellsFrom n a.names []).lookup x=Z c:=by
 have q:=PySem.W.cellsFrom_some a.names n [] (.inl h);exact aQ.mp q
theorem zE{CX:Av}{P:c5}{w:c7}{K:Fg1}{mg:Str->Option cZ}{base:df}{N ps:List Str}{g:Str}{scope:dj}{f:c4}{B:cZ}{A:c6}{d:List Env}{s s1:c3}{H:Hp}{E:XK}{C:List cZ}{vs:List V}(S:g9 N ps scope)(hd:A.handled=none)(j:F3 P w K mg base A d s H)(L:vs.length=ps.length)(r:d5 vs C)(x:InCallC s s.heap.objs.size (bindL (envOfC g scope s.heap.objs.size f B).kindOf (ps.zip C) fun _=>none) (cellsFrom (s.heap.objs.size+1) scope.names []) (bindC (envOfC g scope s.heap.objs.size f B).kindOf (ps.zip C) fun _=>none) s1):
  Inv (nV CX P w K mg base N g scope f B A d s H E) [] (start N vs) H s1:=by
 have am:ps.length<=N.length:=by have:=congrArg List.length S.pre;rw[aR]at this;lia
 obtain⟨h1,tk,rfl,F⟩:=x.done;have l:∀b:c4,b∉(nV CX P w K mg base N g scope f B A d s H E).ex:=λb z=>absurd (show b∈([]:List c4)from z) (by simp);refine⟨⟨j.mod,S.kind,O,O,nR1 _,λy z c h1 h2=>?_,λy m=>?_,λy c _ h=>?_,λ_=>hd,Around.frames_deeper j.frames,.inr ⟨O,O⟩,λb z=>absurd z (l b),j.bs,j.bsz,λb _ _=>l b,λb z=>absurd z (l b),j.funs,j.frf⟩,
  rfl,j.bare,Un.kept F,⟨_,x.toInCall.ns,λi y v h1 h2 ao=>?_⟩,λy c h=>⟨_,x.cell y c h⟩,j.hok.fresh (nR1 _),λy c h=>?_,λp o=>absurd (show p∈([]:List (c4×Obj))from o) (by simp),j.hok.kept F,?_⟩
 ·exact name_of_addr x.apart (PySem.mem_of_lookup h1) (PySem.mem_of_lookup h2)
 ·have m:scope.names.lookup y=Z .cell\/scope.names.lookup y=Z .free:=m;rcases m with m|m
  ·exact vK m
  ·exact absurd O (S.nofree _ (PySem.mem_of_lookup m))
 ·exact Nat.le_of_lt (x.above y c (PySem.mem_of_lookup h))
 ·have hi:i<vs.length:=by
   unfold start at h2;by_cases hi:i<vs.length
   ·exact hi
   ·rw[gR1 (by simpa using hi)]at h2;rw[aS]at h2;split at h2<;>cases h2
  have I:vs[i]?=Z v:=by
   unfold start at h2;rw[gL1 (by simpa using hi),gP1]at h2;cases e:vs[i]? with
   |none=>rw[e]at h2;cases h2
   |some a=>rw[e]at h2;cases h2;rfl
  obtain⟨u,D,G⟩:=r.get I;have o:ps[i]?=Z y:=by
   rw[<- S.pre,aT (by lia)];exact h1
  have t:ps.Nodup:=by rw[<- S.pre];exact S.nd.sublist (aU _ _)
  refine⟨u,G,?_⟩;rcases S.par y (gM1 o)with k|k
  ·exact .inl ⟨k,ss t o D k⟩
  ·obtain⟨c,e⟩:=vK (n:=s.heap.objs.size+1) k;refine .inr ⟨.inl k,c,e,?_⟩;have q:=x.cell y c e;rw[sv t o D (by show scope.names.lookup y≠_;rw[k];decide)]at q;exact q
 ·exact j.hok.fresh (Nat.le_of_lt (x.above y c (PySem.mem_of_lookup h)))
 ·unfold start;show _=N.length;rw[lA1,lM1,lR1];lia
theorem Lg{CX:Av}{P:c5}{w:c7}{K:Fg1}{mg:Str->Option cZ}{base:df}{k:Nat}{f:c4}{name c:Str}{params:Arguments}{g:List di}{scope:dj}{au kV m R d ct oc:cZ}{ao W:Option c4}{G:Array (Option cZ)}{N ps:List Str}{sp:Sp}(aq:K.lookup f=some ⟨oc,W,.func (wF1 name c params g scope au kV m R ao d ct),G⟩)(hcd:wC1 K d c=true)(S:g9 N ps scope)(len:∀vs H Q E,sp vs H Q E->vs.length=ps.length)(j:∀(A:c6) (a:List Env) (s:c3) (H:Hp) (vs:List V) (Q:VK) (E:XK),gf k (A.deeper (envOfC c scope s.heap.objs.size f d))->sp vs H Q E ->
   ∃t,vY (nV CX P w K mg base N c scope f d A a s H E) g t/\t {nx:=λ_ H'=>Q .non H',rt:=Q} (start N vs) H):
  m4 P w K mg base CX (k+1) f (wF1 name c params g scope au kV m R ao d ct) ps sp:=by
 refine⟨len,λA a s H T us vs Q E F B U r z=>?_⟩;have hl:=len _ _ _ _ z;have L:K.In s.heap:=B.mod.kin.keeps λb o e=>(B.bs b o e).1;have C:s.heap.NoLimit:=B.mod.nolimit.keeps λb o e=>(B.bs b o e).1;have i:∀y∈ps.zip us,scope.names.lookup y.1=Z .local\/(scope.names.lookup y.1=Z .cell/\((cellsFrom (s.heap.objs.size+1) scope.names []).lookup y.1).isSome=M):=λ⟨n,v⟩ X=>by
  rcases S.par n (List.of_mem_zip X).1 with q|q
  ·exact .inl q
  ·exact .inr ⟨q,PySem.W.cellsFrom_some _ _ _ (.inl q)⟩
 refine codeAny_call_function F.depth (L _ _ aq) O S.co S.gen O (PySem.W.codeRec_of L hcd) (U _ _ _ _ ?_);refine wpAny_newFunctionEnv_cells S.kind i λenv he s1 x=>?_;subst he;refine⟨C.keeps x.toInCall.keep,codeAny_func ?_⟩;obtain⟨t,wq,hq⟩:=j A a s H vs Q E (F.deeper _) z;have I:Inv (nV CX P w K mg base N c scope f d A a s H E) [] (start N vs) H s1:=zE S F.hd B hl r x;refine wpAny_mono (wq [] s1 (start N vs) H _ I hq) (λfl s' l=>?_) λe s' l=>l;have p:∀{h:St} {H':Hp} {v:V} {u:cZ},Inv (nV CX P w K mg base N c scope f d A a s H E) [] h H' s'->dS v u->Q v H'->CE a P w H s Q u s':=
  λ{h H' v u} am D q=>⟨v,H',am.os,am.bare,am.base,am.hok,D,q⟩
 cases fl with
 |ret u=>
  obtain⟨v,h,H',am,D,q⟩:=l;exact p am D q
 |next=>
  obtain⟨h,H',am,q⟩:=l;exact p (v:=V.non) (u:=Value.none) am O q
 |brk=>
  obtain⟨_,_,_,q⟩:=l;exact False.elim q
 |cont=>
  obtain⟨_,_,_,q⟩:=l;exact False.elim q
end L2
namespace L2
open PySem PySem.Spec PyProof.Rows
section
variable{X:Cx}{x:Str}{p pos:Pos}{e:Expr}{es:List Expr}{t:TA}{id T:String}{r:List V->Hp->VK->Prop}
def Nv(r:List V->Hp->VK->Prop)(t:TA):TE:=fun σ H Q=>t σ H λvs H1=>r vs H1 Q
theorem pc (hc:eN X (.builtin id) r)(hg:Gl X x)(hm:X.mg x=none)(hv:bootBuiltins x=some (.builtin id))(ha:PA X (e::es) t)(hn:x≠"__name__":=by decide)(hdb:(x == ("__debug__":Str))=false:=by decide)
  (he:c9 (e::es) X.env=(J,eval e X.env)::c9 es X.env:=by rfl) (hpl:(backTo pos (c9 es X.env)).any (·.1)=J:=by rfl):PE X (.Call (.Name x p) (e::es) [] pos) (Nv r t):=by
 intro ag s σ H Q I h;refine wpAny_Call_Name_kw (j6 I hg hm hv ?_ hn hdb);exact PyProof.Rows.callWith_builtin1 (ff (ha pos ag s σ H _ I h) λf b ⟨vs,H1,c,a,d⟩=>hc ag b σ H1 vs f Q c a d) he hpl
theorem mD (hc:eN X (.type T) r)(hg:Gl X x)(hm:X.mg x=none)(hv:bootBuiltins x=some (.type T))(ha:PA X (e::es) t)(hn:x≠"__name__":=by decide)(hdb:(x == ("__debug__":Str))=false:=by decide)
  (he:c9 (e::es) X.env=(J,eval e X.env)::c9 es X.env:=by rfl) (hpl:(backTo pos (c9 es X.env)).any (·.1)=J:=by rfl):PE X (.Call (.Name x p) (e::es) [] pos) (Nv r t):=by
 intro ag s σ H Q I h;refine wpAny_Call_Name_kw (j6 I hg hm hv ?_ hn hdb);exact PyProof.Rows.callWith_type1 (ff (ha pos ag s σ H _ I h) λf b ⟨vs,H1,c,a,d⟩=>hc ag b σ H1 vs f Q c a d) he hpl
end
end L2
namespace HT
open PySem PyProof.Rows
section
open PySem.SeqAt
open PySem.AutoSeq1 (wpAny_loadPart')
open PySem.MeetsSeq PySem.MeetsSeq2 PySem.MeetsSeq3
end
section
variable{prog:c5}{w:c7}{A:c6}{E:cZ->c3->Prop}{s:c3}
theorem FB {t b:c4}{vs ws:List cZ}{Q:cZ->c3->Prop}(ht:IsTup s.heap t vs.toArray)(hb:IsTup s.heap b ws.toArray)(hv:vs≠[])
  (h1:ws=[]->Q (.ref t) s) (h2:ws≠[]->Q (.ref s.heap.objs.size) {s with heap:=s.heap.push {cls:=.type "tuple",data:=.seq (vs++ws).toArray}})
  (hsz:vs.length+ws.length<=da):db (model prog w) A (binaryOp .Add (.ref t) (.ref b)) Q E s:=by
 obtain⟨⟨cls,k,data,m⟩,i,hc,n,o⟩:=id ht;obtain⟨⟨l,d,j,f⟩,a,g,p,c⟩:=id hb;simp only at hc o g c;subst hc o g c;have e:vs.toArray++ws.toArray=(vs++ws).toArray:=by simp
 by_cases h:ws=[]
 ·exact concat_meets ⟨_,i,rfl⟩ ⟨_,a,rfl⟩ noFill_tuple_add seq_tuple_add PySem.F.slot_tuple_add PySem.F.entry_tuple_add (PySem.F.args_tuple_add_2 _ _)
   (tuple_addW1 t b vs.toArray ws.toArray n p k d m f (by simpa using hv) (by simp[h])) ⟨i,a,h1 h⟩
 ·refine concat_meets ⟨_,i,rfl⟩ ⟨_,a,rfl⟩ noFill_tuple_add seq_tuple_add PySem.F.slot_tuple_add PySem.F.entry_tuple_add (PySem.F.args_tuple_add_2 _ _)
   (tuple_addW2 t b vs.toArray ws.toArray n p k d m f (by simpa using hv) (by simpa using h) (by rw[sT1,sT1];exact hsz)) ⟨i,a,?_⟩
  rw[e];exact h2 h
def sIx(n d:Nat):Option Int->Nat
 |none=>d
 |some v=>if v<0 then(v+(n:Int)).toNat else min v.toNat n
theorem uC(n d:Nat):sIx n d Y=d:=rfl
theorem oe(n d k:Nat):sIx n d (Z (k:Int))=min k n:=by
 show(if(k:Int)<0 then((k:Int)+(n:Int)).toNat else min (k:Int).toNat n)=min k n;rw[aj (by lia),Int.toNat_natCast]
theorem G4(n d:Nat)(hd:d<=n)(o:Option Int):sIx n d o<=n:=by
 cases o with
 |none=>exact hd
 |some v=>
  show(if v<0 then(v+(n:Int)).toNat else min v.toNat n)<=n;by_cases a:v<0
  ·rw[ak a];lia
  ·rw[aj a];exact Nat.min_le_right _ _
theorem yF(v:Int)(n d:Nat):(if v<0 then max (v+(n:Int)) 0 else min v (n:Int))=((sIx n d (Z v):Nat):Int):=by
 show(if v<0 then max (v+(n:Int)) 0 else min v (n:Int))=(((if v<0 then(v+(n:Int)).toNat else min v.toNat n):Nat):Int);by_cases a:v<0
 ·simp only[ak a];lia
 ·simp only[aj a];lia
theorem xk(lo hi:Option Int)(n:Nat):Builtin.Slice.sliceAdjust lo hi 1 (n:Int)=(((sIx n 0 lo:Nat):Int),((sIx n n hi:Nat):Int)):=by
 have h1:¬ ((1:Int)<0):=by lia
 unfold Builtin.Slice.sliceAdjust;simp only[h1,if_false];refine Prod.ext ?_ ?_
 ·cases lo with
  |none=>rfl
  |some v=>exact yF v n 0
 ·cases hi with
  |none=>rfl
  |some v=>exact yF v n n
theorem wx(i j:Nat):Builtin.Slice.slicePlaces (i:Int) (j:Int) 1=j-i:=by
 unfold Builtin.Slice.slicePlaces;have h1:(1:Int)>0:=by lia
 simp only[h1,if_true,Int.ediv_one];split<;>lia
theorem iG{v:cZ}{o:Option Int}{Q:Option Int->c3->Prop}(p:IsPart v o)(h:Q o s):db (model prog w) A (Builtin.Slice.slicePartIndex v) Q E s:=by
 cases p with
 |none=>exact slicePart_none h
 |int i t=>exact slicePart_int h
theorem ji{sl:c4}{c d:cZ}{lo hi:Option Int}{n:Nat}{Q:Int×Int×Nat->c3->Prop}(hs:s.heap.IsSliceOf sl c d .none)(pl:IsPart c lo)(f:IsPart d hi)(h:Q (((sIx n 0 lo:Nat):Int),1,sIx n n hi-sIx n 0 lo) s):db (model prog w) A (Builtin.Slice.sliceApplied (.ref sl) (pure (n:Int))) Q E s:=by
 obtain⟨g,a,e,b⟩:=id hs;unfold Builtin.Slice.sliceApplied Builtin.Slice.sliceFields;refine wB1 (wB1 (wpAny_field a b (x:=c) O (wB1 (wpAny_field a b (x:=d) O (wB1 (wpAny_field a b (x:=.none) O (wP1 ?_)))))));refine wB1 (slicePart_none ?_);show db _ _ (if((1:Int) == 0)=M then _ else _) _ _ s;rw[aj (by decide)];refine wB1 (iG pl (wB1 (iG f (wB1 (wP1 ?_)))));show db _ _ (match Builtin.Slice.sliceAdjust lo hi 1 (n:Int)with|(lo,hi)=>pure (lo,(1:Int),Builtin.Slice.slicePlaces lo hi 1)) _ _ s;rw[xk lo hi n];show db _ _ (pure (((sIx n 0 lo:Nat):Int),(1:Int),Builtin.Slice.slicePlaces ((sIx n 0 lo:Nat):Int) ((sIx n n hi:Nat):Int) 1)) _ _ s;rw[wx];exact wP1 h
theorem Bu(xs:Array cZ)(i k:Nat):((af k).filterMap λ(m:Nat)=>xs[((i:Int)+(m:Int)*1).toNat]?).toArray=((xs.toList.drop i).take k).toArray:=by
 have e:(λ(m:Nat)=>xs[((i:Int)+(m:Int)*1).toNat]?)=λm=>xs[i+m]?:=by
  funext m
  have:((i:Int)+(m:Int)*1).toNat=i+m:=by lia
  rw[this]
 rw[e];have:=pick_run xs i k;rw[aV]at this;have a:((λx=>xs[x]?)∘λx=>i+x)=λm=>xs[i+m]?:=rfl;rw[a]at this;rw[this]
theorem l5 {t sl:c4}{items:Array cZ}{f g:cZ}{lo hi:Option Int}{Q:cZ->c3->Prop}(ht:IsTup s.heap t items)(hs:s.heap.IsSliceOf sl f g .none)(pl:IsPart f lo)(j:IsPart g hi)
  (hw:¬ (sIx items.size 0 lo=0/\sIx items.size items.size hi=items.size))
  (h:Q (.ref s.heap.objs.size) {s with heap:=s.heap.push {cls:=.type "tuple",data:=.seq ((items.toList.drop (sIx items.size 0 lo)).take (sIx items.size items.size hi-sIx items.size 0 lo)).toArray}})
  (hsz:items.size<=da):db (model prog w) A (getItem (.ref t) (.ref sl)) Q E s:=by
 have a:sizeOk (.seq ((items.toList.drop (sIx items.size 0 lo)).take (sIx items.size items.size hi-sIx items.size 0 lo)).toArray):=by
  show((items.toList.drop (sIx items.size 0 lo)).take (sIx items.size items.size hi-sIx items.size 0 lo)).toArray.size<=da;rw[sT1,aR,aW,aI];omega
 have n:sIx items.size items.size hi<=items.size:=G4 _ _ (nR1 _) hi;obtain⟨k,b,e,i⟩:=id hs;have d:s.TypeIs (.ref sl) "slice":=⟨k,b,e⟩;unfold getItem
 try with_reducible refine wpAny_holding ?_
 first|refine wB1 (wP1 ?_)|skip
 refine wB1 (wpAny_sequenceKey ht.typeIs (by decide) ?_);refine wB1 (wpAny_callSpecial?_slot (name:=Str.ofString "__getitem__") ht.typeIs PyProof.Rows.slot_tuple_getitem
  (wE1 PyProof.Rows.slot_tuple_getitem ht.typeIs entry_tuple_getitem ?_ (args_tuple_getitem _ _)))
 show db _ _ (Builtin.Tuple.tupleItemsOf (.ref t) >>= _) _ _ s;refine wB1 (tupleItemsOf_ ht ?_);refine wB1 (wpAny_typeOf d ?_);rw[ak (by decide)];refine wB1 (ji hs pl j ?_);have c:¬ ((((sIx items.size 0 lo:Nat):Int) == 0&&(1:Int) == 1&&(sIx items.size items.size hi-sIx items.size 0 lo) == items.size)=M):=by
  intro q;rw[bA1,bA1]at q;have o:((sIx items.size 0 lo:Nat):Int)=0:=eq_of_beq q.1.1;have l:sIx items.size items.size hi-sIx items.size 0 lo=items.size:=eq_of_beq q.2;exact hw ⟨by omega,by omega⟩
 show db _ _ (if(((sIx items.size 0 lo:Nat):Int) == 0&&(1:Int) == 1&&(sIx items.size items.size hi-sIx items.size 0 lo) == items.size)=M then _ else _) _ _ s;rw[aj c,Bu]
 first
  |exact wB1 (m:=Builtin.Tuple.tupleExact _) (wO1 (wP1 ⟨_,rfl,wP1 h⟩) a)
  |exact wB1 (m:=Builtin.Tuple.tupleExact _) (wO1 (wB1 (wP1 (wP1 ⟨_,rfl,wP1 h⟩))) a)
  |exact wB1 (wB1 (m:=Builtin.Tuple.tupleExact _) (wO1 (wP1 (wP1 ⟨_,rfl,wP1 h⟩)) a))
  |exact wB1 (wB1 (m:=Builtin.Tuple.tupleExact _) (wO1 (wP1 ⟨_,rfl,wP1 h⟩) a))
end
end HT
namespace L2
open PySem PySem.Spec PyProof.Rows
abbrev TO:=St->Hp->(Option Int->Hp->Prop)->Prop
def PO(X:Cx)(e:Option Expr)(t:TO):Prop:=
 ∀(ag:List (c4×Obj)) (s:c3) (σ:St) (H:Hp) (Q:Option Int->Hp->Prop),Inv X ag σ H s->t σ H Q ->
  db (model X.prog X.w) X.A (evalPart e X.env) (λu s'=>∃o H',Inv X ag σ H' s'/\IsPart u o/\Q o H') X.xe s
def DH:TO:=λ_ H Q=>Q Y H
def J7(t:TE):TO:=fun σ H Q=>t σ H λx H1=>∃i,x = .int i/\Q (Z i) H1
section
variable{X:Cx}{e:Expr}{te:TE}{lo hi:Option Expr}{tl th:TO}{pos p2:Pos}
theorem D9:PO X Y DH:=by
 intro ag s σ H Q I h;rw[evalPart_none];exact wP1 ⟨Y,H,I,.none,h⟩
theorem D8(h:PE X e te):PO X (Z e) (J7 te):=by
 intro ag s σ H Q I d;rw[evalPart_some];refine ff (h ag s σ H _ I d) λu f ⟨x,H1,b,a,c⟩=>?_;obtain⟨i,rfl,q⟩:=c;obtain⟨t,rfl⟩:=a;exact⟨Z i,H1,b,.int i t,q⟩
def Dr(X:Cx)(r:V->Option Int->Option Int->Hp->VK->Prop):Prop:=
 ∀(ag:List (c4×Obj)) (s:c3) (σ:St) (H:Hp) (x:V) (v vl vu:cZ) (lo hi:Option Int) (sl:c4) (Q:VK),Inv X ag σ H s->dS x v->s.heap.IsSliceOf sl vl vu .none->IsPart vl lo->IsPart vu hi->r x lo hi H Q ->
  ∃T id,typeLookup (.type T) "__getitem__"=pure (Z (.builtin id))/\s.TypeIs v T/\db (model X.prog X.w) X.A (getItem v (.ref sl)) (EP X ag σ Q) X.xe s
theorem Dr.or{r d:V->Option Int->Option Int->Hp->VK->Prop}(h:Dr X r)(h':Dr X d):Dr X (λx lo hi H Q=>r x lo hi H Q\/d x lo hi H Q):=by
 intro ag s σ H x v c f lo hi e Q I b a pl g q;rcases q with q|q
 ·exact h ag s σ H x v c f lo hi e Q I b a pl g q
 ·exact h' ag s σ H x v c f lo hi e Q I b a pl g q
def NW(r:V->Option Int->Option Int->Hp->VK->Prop)(te:TE)(tl th:TO):TE:=fun σ H Q=>te σ H λx H1=>tl σ H1 λl H2=>th σ H2 λu H3=>r x l u H3 Q
theorem By{r:V->Option Int->Option Int->Hp->VK->Prop}(hr:Dr X r)(he:PE X e te)(D:PO X lo tl)(z:PO X hi th):PE X (.Subscript e (.Slice lo hi Y p2) pos) (NW r te tl th):=by
 intro ag s σ H Q I h;refine Subscript_ (ff (he ag s σ H _ I h) λv g ⟨x,H1,j,n,w⟩=>?_);refine wpAny_Slice (ff (D ag g σ H1 _ j w) λc y ⟨l,H2,o,pl,A⟩=>ff (z ag y σ H2 _ o A) λd a ⟨u,f,p,t,i⟩=>?_);rw[evalPart_none];refine wP1 ?_;have B:Inv X ag σ f {a with heap:=a.heap.push {cls:=.type "slice",data:=.fields #[c,d,.none]}}:=p.kept (t':=a.toks) λb E q=>hP1 _ q;obtain⟨T,id,k,m,C⟩:=hr ag {a with heap:=a.heap.push {cls:=.type "slice",data:=.fields #[c,d,.none]}} σ f x v c d l u a.heap.objs.size Q B n (Heap.IsSliceOf.new ..) pl t i;show db (model X.prog X.w) X.A (subscriptTail e (.Slice lo hi Y p2) v (.ref a.heap.objs.size)) (EP X ag σ Q) X.xe {a with heap:=a.heap.push {cls:=.type "slice",data:=.fields #[c,d,.none]}};exact tail_any (ops:=[.ref a.heap.objs.size,v]) m k C (by with_unfolding_all rfl)
def vG(xs:List V)(lo hi:Option Int):List V:=(xs.drop (HT.sIx xs.length 0 lo)).take (HT.sIx xs.length xs.length hi-HT.sIx xs.length 0 lo)
theorem nA(xs:List V)(lo hi:Option Int):(vG xs lo hi).length<=xs.length:=by
 unfold vG;rw[aR,aW];lia
def MJ(K:Fg1):V->Option Int->Option Int->Hp->VK->Prop:=λx lo hi H Q=>∃a xs,x = .ref a/\kP K H a xs /\
 ¬ (HT.sIx xs.length 0 lo=0/\HT.sIx xs.length xs.length hi=xs.length) /\ ∀p,H p=Y->Q (.ref p) (upd H p (.tup (vG xs lo hi)))
theorem GY:Dr X (MJ X.K):=by
 intro ag s σ H x v m t lo hi n Q I j i pl k h;obtain⟨a,xs,rfl,g,l,q⟩:=h;cases j;obtain⟨d,r,e,f⟩:=I.tuple g;have c:d.toArray.size=xs.length:=by rw[sT1];exact r.length.symm
 refine⟨"tuple",_,PyProof.Rows.slot_tuple_getitem.lookup,e.typeIs,?_⟩;refine HT.l5 e i pl k (by rw[c];exact l) ?_ (by rw[c];exact f);rw[c];refine⟨.ref s.heap.objs.size,_,I.laid (t':=s.toks) (o:=.tup (vG xs lo hi)) (λb p q=>hP1 _ q) (nR1 _) ?_,O,q _ (I.hok.fresh (nR1 _))⟩;exact⟨aC (nA xs lo hi) f,_,(r.drop (HT.sIx xs.length 0 lo)).take (HT.sIx xs.length xs.length hi-HT.sIx xs.length 0 lo),IsTup.new _ _⟩
def Kq(K:Fg1):R2:=λx y H Q=>∃a b xs ys,x = .ref a/\y = .ref b/\kP K H a xs/\kP K H b ys/\xs≠[]/\xs.length+ys.length<=da /\
 (ys=[]->Q (.ref a) H)/\(ys≠[] -> ∀p,H p=Y->Q (.ref p) (upd H p (.tup (xs++ys))))
theorem d5.nil_iff{xs:List V}{a:List cZ}(r:d5 xs a):a=[]↔xs=[]:=by
 cases r with
 |nil=>simp
 |cons _ _=>simp
theorem El:fQ X (binaryOp .Add) (Kq X.K):=by
 intro ag s σ H x y v u Q I k m h;obtain⟨a,b,xs,ys,rfl,rfl,l,i,g,d,p,j⟩:=h;cases k;cases m;obtain⟨f,c,n,_⟩:=I.tuple l;obtain⟨e,r2,p2,_⟩:=I.tuple i;refine HT.FB n p2 (λz=>g (c.nil_iff.mp z)) (λz=>⟨.ref a,H,I,O,p (r2.nil_iff.mp z)⟩) (λz=>?_) (by rw[<- c.length,<- r2.length];exact d);refine⟨.ref s.heap.objs.size,_,I.laid (t':=s.toks) (o:=.tup (xs++ys)) (λb r q=>hP1 _ q) (nR1 _) ?_,O,j (λw=>z (r2.nil_iff.mpr w)) _ (I.hok.fresh (nR1 _))⟩;exact⟨by rw[lA1];exact d,_,c.append r2,IsTup.new _ _⟩
end
end L2
namespace L2
open PySem PySem.Spec PyProof.Rows
def wT(n:Nat)(i:Int):Option Nat:=if 0<=i then(if i<n then Z i.toNat else Y)else if-(n:Int)<=i then Z (i+n).toNat else Y
def vW{α:Type}(xs:List α)(i:Int):Option α:=(wT xs.length i).bind λj=>xs[j]?
theorem tG{n:Nat}{i:Int}{j:Nat}(h:wT n i=Z j):seqIndex? i n=Z j/\j<n /\ -(n:Int)<=i/\i<n:=by
 unfold wT at h;by_cases a:0<=i
 ·rw[ak a]at h;by_cases h1:i<n
  ·rw[ak h1]at h;have e:i.toNat=j:=Option.some.inj h;exact⟨by rw[seqIndex_of a h1,e],by lia,by lia,h1⟩
  ·rw[aj h1]at h;cases h
 ·rw[aj a]at h;by_cases h1: -(n:Int)<=i
  ·rw[ak h1]at h;have e:(i+n).toNat=j:=Option.some.inj h;exact⟨by rw[seqIndex_neg (by lia) h1,e],by lia,h1,by lia⟩
  ·rw[aj h1]at h;cases h
theorem yQ{α:Type}{xs:List α}{i:Int}{v:α}(h:vW xs i=Z v):∃j,seqIndex? i xs.length=Z j/\xs[j]?=Z v/\j<xs.length /\ -(xs.length:Int)<=i/\i<xs.length:=by
 unfold vW at h;cases e:wT xs.length i with
 |none=>rw[e]at h;cases h
 |some j=>
  rw[e]at h;obtain⟨h1,h2,b,a⟩:=tG e;exact⟨j,h1,h,h2,b,a⟩
def oz(b:Expr):Prop:=∀o i,subscripted b J o i=operate [o,i] (getItem o i)
def GC(X:Cx)(r:R2):Prop:=
 ∀(value slice:Expr) (ag:List (c4×Obj)) (s:c3) (σ:St) (H:Hp) (x y:V) (v u:cZ) (Q:VK),Inv X ag σ H s->dS x v->dS y u->r x y H Q ->
  subscripted slice J v u=operate [v,u] (getItem v u)->db (model X.prog X.w) X.A (subscriptTail value slice v u) (EP X ag σ Q) X.xe s
def JH(X:Cx)(id:String)(r:V->List V->Hp->VK->Prop):Prop:=
 ∀(ag:List (c4×Obj)) (s:c3) (σ:St) (H:Hp) (x:V) (xs:List V) (v:cZ) (us:List cZ) (Q:VK),Inv X ag σ H s->dS x v->d5 xs us->r x xs H Q ->
  db (model X.prog X.w) X.A (call (.builtin id) (v::us)) (EP X ag σ Q) X.xe s
section
variable{X:Cx}{a b:Expr}{ta tb:TE}{pos:Pos}
theorem Kx{r:R2}(hr:GC X r)(ha:PE X a ta)(hb:PE X b tb)(hs:oz b):PE X (.Subscript a b pos) (J9 r ta tb):=by
 intro ag s σ H Q I h;exact Subscript_ (Jr ha hb I h λv u f x y H2 d c e q=>hr a b ag f σ H2 x y v u Q d c e q (hs _ _))
def MN(K:Fg1):R2:=λx y H Q=>∃p xs i v,x = .ref p/\y = .int i/\mY K H p xs/\vW xs i=Z v/\Q v H
def MM(K:Fg1):R2:=λx y H Q=>∃p xs i v,x = .ref p/\y = .int i/\kP K H p xs/\vW xs i=Z v/\Q v H
theorem EZ:GC X (MN X.K):=by
 intro value c ag s σ H x y v u Q I B A h f;obtain⟨p,xs,i,z,rfl,rfl,o,l,q⟩:=h;cases B;obtain⟨t,rfl⟩:=A;obtain⟨b,r,pl,D⟩:=I.list o;obtain⟨j,h1,h2,F,n,m⟩:=yQ l;obtain⟨w,g,e⟩:=r.get h2;have C:=r.length;have E:=mK;have a:EP X ag σ Q w s:=⟨z,H,I,e,q⟩;by_cases k:0<=i
 ·have d:i.toNat=j:=by
   rw[seqIndex_of k m]at h1;exact Option.some.inj h1
  exact item_listR pl.isList k (by lia) (by rw[d];simpa using g) a f
 ·have d:(i+(b.toArray.size:Int)).toNat=j:=by
   rw[seqIndex_neg (by lia) n]at h1;rw[sT1,<- C];exact Option.some.inj h1
  exact subscriptTail_builtinR (x:=w) pl.isList.typeIs slot_list_getitem.lookup
   (wpAny_getItem_list_neg (Q:=λr s'=>r=w/\EP X ag σ Q r s') pl.isList (by lia) (by rw[sT1]<;>lia) (by lia) (by rw[d];simpa using g) ⟨O,a⟩) f
theorem IX:GC X (MM X.K):=by
 intro value a ag s σ H x y v u Q I m l h e;obtain⟨p,xs,i,z,rfl,rfl,k,f,q⟩:=h;cases m;obtain⟨t,rfl⟩:=l;obtain⟨d,r,pl,o⟩:=I.tuple k;obtain⟨j,h1,h2,D,B,A⟩:=yQ f;obtain⟨w,g,c⟩:=r.get h2;have n:=r.length;have C:=mK;have b:EP X ag σ Q w s:=⟨z,H,I,c,q⟩;exact subscriptTail_builtinR (x:=w) pl.typeIs slot_tuple_getitem.lookup
  (getItem_tuple (j:=j) (Q:=λr s'=>r=w/\EP X ag σ Q r s') pl (by lia) (by lia) (by rw[sT1,<- n];exact h1) (by simpa using g) ⟨O,b⟩) e
theorem wO(its:List cZ)(n j:Nat)(u:cZ):Obj.mapSeq (·.setIfInBounds j u) {cls:=.type "list",data:=.seq its.toArray n}={cls:=.type "list",data:=.seq (its.set j u).toArray n}:=by
 simp[Obj.mapSeq]
theorem Inv.lst{ag:List (c4×Obj)}{σ:St}{H:Hp}{s:c3}{p:c4}{xs:List V}(I:Inv X ag σ H s)(h:H p=some (.lst xs)):
  ∃(its:List cZ) (n:Nat),d5 xs its/\s.heap.get? p=Z {cls:=.type "list",data:=.seq its.toArray n}/\xs.length<=da:=by
 obtain⟨z,its,n,r,e⟩:=I.hok p _ h;exact⟨its,n,r,e,z⟩
theorem Inv.lstUpd {ag:List (c4×Obj)}{σ:St}{H:Hp}{s:c3}{p:c4}{xs ys:List V}{its its':List cZ}{n n':Nat}{f:Obj->Obj}(I:Inv X ag σ H s)(h:H p=some (.lst xs))
  (ho:s.heap.get? p=Z {cls:=.type "list",data:=.seq its.toArray n}) (hf:f {cls:=.type "list",data:=.seq its.toArray n}={cls:=.type "list",data:=.seq its'.toArray n'}) (r:d5 ys its') (hz:ys.length<=da) (t:Nat):
  Inv X ag σ (upd H p (.lst ys)) {s with heap:=s.heap.update p f,toks:=t}:=by
 have e:(s.heap.update p f).get? p=Z {cls:=.type "list",data:=.seq its'.toArray n'}:=by
  rw[hW1 f ho (by rw[hf]<;>rfl),hf]
 refine I.write (x:=p) (e:=p) (by rw[h];trivial) (.inl O) (λb u a q=>(Heap.get?_update_other _ _ (Ne.symm a)).trans q) ⟨_,e⟩ ?_;exact⟨hz,its',n',r,e⟩
def Kp:V->V->V->Hp->(Hp->Prop)->Prop:=λo i v H Q=>∃p xs k j,o = .ref p/\i = .int k/\H p=Z (.lst xs)/\wT xs.length k=Z j/\Q (upd H p (.lst (xs.set j v)))
theorem A8:xw X Kp:=by
 intro ag s σ H o i v B D u Q I A w x h;obtain⟨p,xs,k,j,rfl,rfl,f,z,q⟩:=h;cases A;obtain⟨t,rfl⟩:=w;obtain⟨a,n,r,c,y⟩:=I.lst f;obtain⟨h1,h2,m,g⟩:=tG z;have b:=r.length;have C:=mK;have e:Inv X ag σ (upd H p (.lst (xs.set j v))) {s with heap:=s.heap.update p (Obj.mapSeq (·.setIfInBounds j u))}:=
  I.lstUpd f c (wO a n j u) (r.set x j) (by rw[aX];exact y) s.toks
 by_cases l:0<=k
 ·have d:k.toNat=j:=by
   rw[seqIndex_of l g]at h1;exact Option.some.inj h1
  exact PySem.W.ki_setAt c l (by lia) (by rw[sT1,<- b];exact g) (by rw[d];exact⟨_,e,q⟩)
 ·have d:(k+(a.toArray.size:Int)).toNat=j:=by
   rw[seqIndex_neg (by lia) m]at h1;rw[sT1,<- b];exact Option.some.inj h1
  exact PySem.W.ki_setBack c (by lia) (by rw[sT1,<- b];exact m) (by lia) (by rw[d];exact⟨_,e,q⟩)
theorem sL(lo hi:Option Int)(n:Nat):(sliceBounds lo hi Y n).1=((HT.sIx n 0 lo:Nat):Int)/\(sliceBounds lo hi Y n).2.1=((HT.sIx n n hi:Nat):Int)/\(sliceBounds lo hi Y n).2.2=1:=by
 refine⟨?_,?_,O⟩
 ·cases lo with
  |none=>simp[sliceBounds,HT.sIx]
  |some i=>
   simp only[sliceBounds,HT.sIx,Option.getD_none,show(1:Int)>0 by decide,if_true];by_cases h:i<0
   ·simp only[h,if_true]<;>lia
   ·simp only[h,if_false]<;>lia
 ·cases hi with
  |none=>simp[sliceBounds,HT.sIx]
  |some i=>
   simp only[sliceBounds,HT.sIx,Option.getD_none,show(1:Int)>0 by decide,if_true];by_cases h:i<0
   ·simp only[h,if_true]<;>lia
   ·simp only[h,if_false]<;>lia
theorem qt(its:List cZ)(lo hi:Option Int):slicePick its.toArray lo hi Y=((its.drop (HT.sIx its.length 0 lo)).take (HT.sIx its.length its.length hi-HT.sIx its.length 0 lo)).toArray:=by
 obtain⟨h1,h2,a⟩:=sL lo hi its.toArray.size;unfold slicePick;rw[h1,h2,a];simp only[sliceRange_one,pick_run,sT1]<;>rfl
def MK(K:Fg1):V->Option Int->Option Int->Hp->VK->Prop:=λx lo hi H Q=>∃a xs,x = .ref a/\mY K H a xs /\ ∀p,H p=Y->Q (.ref p) (upd H p (.lst (vG xs lo hi)))
theorem DO:Dr X (MK X.K):=by
 intro ag s σ H x v l p lo hi m Q I j g pl k h;obtain⟨a,xs,rfl,f,q⟩:=h;cases j;obtain⟨e,r,d,i⟩:=I.list f;have c:=r.length;refine⟨"list",_,slot_list_getitem.lookup,d.isList.typeIs,?_⟩;refine wpAny_getItem_list_slice d.isList g pl k .none (by simp) ?_ (by rw[sT1]<;>lia);rw[qt,<- c];refine⟨.ref s.heap.objs.size,_,I.laid (t':=s.toks) (o:=.lst (vG xs lo hi)) (λb n q=>hP1 _ q) (nR1 _) ?_,O,q _ (I.hok.fresh (nR1 _))⟩;exact⟨aC (nA xs lo hi) i,_,0,(r.drop (HT.sIx xs.length 0 lo)).take (HT.sIx xs.length xs.length hi-HT.sIx xs.length 0 lo),hS1 _ O⟩
def lj:V->Bool
 | .non=>M
 | .bl _=>M
 | .int _=>M
 | .str _=>M
 |_=>J
def vU:V->V->Bool
 | .non,.non=>M
 | .bl a,.bl b=>a == b
 | .bl a,.int b=>(if a then 1 else 0) == b
 | .int a,.bl b=>a == (if b then 1 else 0)
 | .int a,.int b=>a == b
 | .str a,.str b=>a == b
 |_,_=>J
theorem lD{A:c6}{s:c3}{y x:V}{u v:cZ}(f:dS y u)(c:dS x v)(g:lj y=M)(e:lj x=M):SeqAt.EqAt A s u v (vU y x):=by
 cases y with
 |non=>
  cases f;cases x with
  |non=>cases c;exact SeqAt.EqAt.same _
  |bl b=>cases c;exact SeqAt.EqAt.none_bool b
  |int b=>obtain⟨t,rfl⟩:=c;exact SeqAt.EqAt.none_int b t
  |str b=>obtain⟨t,rfl⟩:=c;exact SeqAt.EqAt.none_str b t
  |_=>exact absurd (show J=M from e) aK
 |bl a=>
  cases f;cases x with
  |non=>cases c;exact SeqAt.EqAt.bool_none a
  |bl b=>cases c;exact SeqAt.EqAt.bool_bool a b
  |int b=>obtain⟨t,rfl⟩:=c;exact SeqAt.EqAt.bool_int a b t
  |str b=>obtain⟨t,rfl⟩:=c;exact SeqAt.EqAt.bool_str a b t
  |_=>exact absurd (show J=M from e) aK
 |int a=>
  obtain⟨d,rfl⟩:=f;cases x with
  |non=>cases c;exact SeqAt.EqAt.int_none a d
  |bl b=>cases c;exact SeqAt.EqAt.int_bool a d b
  |int b=>obtain⟨t,rfl⟩:=c;exact SeqAt.EqAt.int_int a d b t
  |str b=>obtain⟨t,rfl⟩:=c;exact SeqAt.EqAt.int_str a d b t
  |_=>exact absurd (show J=M from e) aK
 |str a=>
  obtain⟨d,rfl⟩:=f;cases x with
  |non=>cases c;exact SeqAt.EqAt.str_none a d
  |bl b=>cases c;exact SeqAt.EqAt.str_bool a d b
  |int b=>obtain⟨t,rfl⟩:=c;exact SeqAt.EqAt.str_int a d b t
  |str b=>obtain⟨t,rfl⟩:=c;exact SeqAt.EqAt.str_str a d b t
  |_=>exact absurd (show J=M from e) aK
 |_=>exact absurd (show J=M from g) aK
theorem tY:eN X (.builtin "len") (λxs H Q=>∃p ys,xs=[.ref p]/\(mY X.K H p ys\/kP X.K H p ys)/\Q (.int ys.length) H):=by
 intro ag s σ H xs i Q I r h;obtain⟨p,ys,rfl,b,q⟩:=h;obtain⟨u,rfl,f⟩:=im r;cases f;have g:=mK;rcases b with b|b
 ·obtain⟨c,d,pl,e⟩:=I.list b;have a:=d.length;exact Calls.call_len_list pl.isList (by simp only[sT1]<;>lia) ⟨.int ys.length,H,I.tok _,⟨s.toks+1,by rw[sT1,a]⟩,q⟩
 ·obtain⟨c,d,pl,e⟩:=I.tuple b;have a:=d.length;exact len_tuple pl (by simp only[sT1]<;>lia) ⟨.int ys.length,H,I.tok _,⟨s.toks+1,by rw[sT1,a]⟩,q⟩
theorem tX:eN X (.builtin "len") (λxs H Q=>∃z,xs=[.str z]/\z.length<=da/\Q (.int z.length) H):=by
 intro ag s σ H xs c Q I r h;obtain⟨z,rfl,b,q⟩:=h;obtain⟨u,rfl,t,rfl⟩:=im r;have a:=mK;exact len_str (by lia) ⟨.int z.length,H,I.tok _,⟨_,O⟩,q⟩
theorem tW:eN X (.type "list") (λxs H Q=>∃p ys,xs=[.ref p]/\(mY X.K H p ys\/kP X.K H p ys) /\ ∀l,H l=Y->Q (.ref l) (upd H l (.lst ys))):=by
 intro ag s σ H xs v Q I r h;obtain ⟨p,ys,rfl,j,q⟩:=h;obtain ⟨u,rfl,t⟩:=im r;cases t;have f:∀ (a:List cZ),d5 ys a->ys.length<=da -> ∀ (h':df) (c:Nat),(∀ b o',s.heap.get? b=some o'->h'.get? b=some o') ->
   h'.get? s.heap.objs.size=Z {cls:=.type "list",dict:=Y,data:=.seq a.toArray c,slots:= #[]}->EP X ag σ Q (.ref s.heap.objs.size) {s with heap:=h'}:=λa d g h' c kp e=>
  ⟨.ref s.heap.objs.size,_,I.laid (t':=s.toks) kp (nR1 _) (show eM X.prog X.w _ h' _ (.lst ys)from⟨g,a,c,d,e⟩),O,q _ (I.hok.fresh (nR1 _))⟩
 rcases j with j|j
 ·obtain⟨a,d,pl,g⟩:=I.list j;have i:=d.length;obtain⟨o,k,hc,n,m⟩:=pl.isList;exact call_list_seq p (.inl O) k hc m (λh' c kp e=>f a d g h' c kp e) (by simp only[sT1]<;>lia)
 ·obtain⟨a,d,pl,g⟩:=I.tuple j;have i:=d.length;obtain⟨o,k,hc,n,m⟩:=pl;exact call_list_seq p (.inr O) k hc m (λh' c kp e=>f a d g h' c kp e) (by simp only[sT1]<;>lia)
theorem qL:eN X (.type "tuple") (λxs H Q=>∃p ys,xs=[.ref p]/\((mY X.K H p ys /\ ∀l,H l=Y->Q (.ref l) (upd H l (.tup ys)))\/(kP X.K H p ys/\Q (.ref p) H))):=by
 intro ag s σ H xs m Q I r h;obtain⟨p,ys,rfl,h⟩:=h;obtain⟨u,rfl,k⟩:=im r;cases k;rcases h with⟨c,q⟩|⟨c,q⟩
 ·obtain ⟨a,d,pl,f⟩:=I.list c;have g:=d.length;refine call_tuple_list pl.isList (fun h' kp=>?_) (by simp only [sT1]<;>lia);have i:Inv X ag σ H {s with heap:=h'}:=I.kept (t':=s.toks) kp;have j:Inv X ag σ (upd H h'.objs.size (.tup ys)) {s with heap:=h'.push {cls:=.type "tuple",data:=.seq a.toArray}}:=
   i.laid (t':=s.toks) (λb o e=>hP1 _ e) (nR1 _) (show eM X.prog X.w _ _ _ (.tup ys)from⟨f,a,d,IsTup.new _ _⟩)
  exact⟨.ref h'.objs.size,_,j,O,q _ (i.hok.fresh (nR1 _))⟩
 ·obtain⟨a,d,pl,f⟩:=I.tuple c;exact call_tuple_same pl ⟨.ref p,H,I,O,q⟩
def Nr(K:Fg1)(T:String)(x:V)(H:Hp):Prop:=match x with
 | .str _=>T="str"
 | .int _=>T="int"
 | .ref p=>(T="list" /\ ∃ xs,mY K H p xs)\/(T="tuple" /\ ∃ o,K.lookup p=some o/\o.cls = .type "tuple"/\o.dict=none) \/
   (T="dict"/\((∃kvs,H p=Z (.dK kvs)) \/ ∃kvs,H p=Z (.dT kvs)))\/(T="set" /\ ∃S n,H p=Z (.set S n))
 |_=>False
theorem GM{ag:List (c4×Obj)}{σ:St}{H:Hp}{s:c3}{T:String}{x:V}{v:cZ}(I:Inv X ag σ H s)(r:dS x v)(ty:Nr X.K T x H):
  s.TypeIs v T /\ ∀a,v = .ref a -> ∃g,s.heap.get? a=Z g/\g.dict=Y:=by
 cases x with
 |str z=>
  obtain⟨t,rfl⟩:=r;cases(show T="str" from ty);exact⟨typeIs_str s z t,λ_ e=>nomatch e⟩
 |int i=>
  obtain⟨t,rfl⟩:=r;cases(show T="int" from ty);exact⟨typeIs_int s i t,λ_ e=>nomatch e⟩
 |ref p=>
  cases r;rcases ty with⟨rfl,xs,j⟩|⟨rfl,o,b,hc,f⟩|⟨rfl,b⟩|⟨rfl,S,n,b⟩
  ·obtain⟨h,_,pl,_⟩:=I.list j;refine⟨pl.isList.typeIs,λa e=>?_⟩;cases e;obtain⟨o,n,e,c,f,_⟩:=pl;exact⟨o,e,f⟩
  ·refine⟨⟨o,I.kIn p o b,hc⟩,λa e=>?_⟩;cases e;exact⟨o,I.kIn _ o b,f⟩
  ·have z:∃ o,s.heap.get? p=some o/\o.ExactDict:=by
    rcases b with⟨kvs,b⟩|⟨kvs,b⟩
    ·obtain⟨_,_,_,_,o,_,_,e,ex,_⟩:=I.hok p _ b;exact⟨o,e,ex⟩
    ·obtain⟨_,_,_,_,o,_,_,e,ex,_⟩:=I.hok p _ b;exact⟨o,e,ex⟩
   obtain⟨o,e,ex⟩:=z;refine⟨⟨o,e,ex.1⟩,λa d=>?_⟩;cases d;exact⟨o,e,ex.2.1⟩
  ·obtain⟨o,_,_,_,e,ex,_⟩:=I.hok p _ b;refine⟨⟨o,e,ex.1⟩,λa d=>?_⟩;cases d;exact⟨o,e,ex.2.1⟩
 |_=>exact False.elim ty
def N0(K:Fg1)(T:String)(r:V->List V->Hp->VK->Prop)(to:TE)(t:TA):TE:=fun σ H Q=>to σ H λx H1=>Nr K T x H1/\t σ H1 λxs H2=>r x xs H2 Q
variable{o e:Expr}{es:List Expr}{to:TE}{t:TA}{name:Str}{apos cpos:Pos}{T id:String}{r:V->List V->Hp->VK->Prop}
theorem Kz (d:PlainAttrs T)(slot:Slot T name id)(hty:typeOf (.builtin id)=pure (.type "method_descriptor"))(hm:JH X id r)(ho:PE X o to)(ha:PA X (e::es) t)
  (hbase:attributeBase o name X.env (eval o X.env)=eval o X.env:=by rfl)
  (hfew:((backTo cpos (c9 (e::es) X.env)).all (λx=> !x.1)&&(backToKw cpos (keywordEach [] X.env)).all (λx=>x.1.isSome)
   && decide ((e::es).length+([]:List Keyword).length+(if([]:List Keyword).isEmpty then 0 else 1)<30))=M:=by rfl)
  (hline:(apos.endLine == cpos.line)=M:=by rfl) (hs:c9 (e::es) X.env=(J,eval e X.env)::c9 es X.env:=by rfl) (hplain:(backTo cpos (c9 es X.env)).any (·.1)=J:=by rfl):
  PE X (.Call (.Attribute o name apos) (e::es) [] cpos) (N0 X.K T r to t):=by
 intro ag s σ H Q I h;refine wpAny_Call_method_late hbase hfew hline O (ff (ho ag s σ H _ I h) λv g ⟨x,H1,b,a,ty,j⟩=>?_);obtain⟨h1,h2⟩:=GM b a ty;refine⟨T,id,d,slot,hty,h1,h2,?_⟩;have c:=ha cpos ag g σ H1 _ b j;rw[hs]at c ⊢;refine Calls.callWith_builtin (by show(J||(backTo cpos (c9 es X.env)).any (·.1))=J;rw[hplain]<;>rfl) (Calls.evalArgs_plain ?_);exact ff c λk l ⟨vs,H2,i,r2,f⟩=>hm ag l σ H2 x vs v k Q i a r2 f
end
end L2
namespace L2
open PySem PySem.Spec PyProof.Rows
def Nl(X:Cx)(id:String)(r:V->List V->Hp->VK->Prop):Prop:=
 ∀(ag:List (c4×Obj)) (s:c3) (σ:St) (H:Hp) (x:V) (xs:List V) (v:cZ) (us:List cZ) (Q:VK),Inv X ag σ H s->dS x v->d5 xs us->r x xs H Q ->
  db (model X.prog X.w) X.A (call (.builtin id) (v::us)) (EP X ag σ Q) X.xe s
theorem d5.one:∀{x:V} {a:List cZ},d5 [x] a -> ∃u,a=[u]/\dS x u:=by
 intro x a h;cases h with
 |cons r t=>cases t;exact⟨_,O,r⟩
theorem d5.eraseIdx:∀{xs:List V} {a:List cZ} (i:Nat),d5 xs a->d5 (xs.eraseIdx i) (a.eraseIdx i)
 |_,_,_,.nil=>.nil
 |_,_,0,.cons _ t=>t
 |_,_,i+1,.cons r t=>.cons r (d5.eraseIdx i t)
theorem d5.reverse{xs:List V}{a:List cZ}(h:d5 xs a):d5 xs.reverse a.reverse:=by
 induction h with
 |nil=>exact .nil
 |cons r t ih=>rw[aY,aY];exact d5.append ih (.cons r .nil)
theorem d5.rep{xs:List V}{a:List cZ}(h:d5 xs a):∀k:Nat,d5 (aP k xs).flatten (aP k a).flatten
 |0=>.nil
 |k+1=>by
  rw[aZ,aZ,a0,a0];exact d5.append h (d5.rep h k)
theorem rK{α:Type}:∀(l:List α) (i:Nat),(l.eraseIdx i).length<=l.length
 |[],_=>nR1 _
 |_::_,0=>bc _
 |_::r,i+1=>Nat.succ_le_succ (rK r i)
theorem rY(its:List cZ):∀ (k:Nat) (acc:List cZ),
  List.foldl (λa x2=>a++x2) acc.toArray (aP k its.toArray)=(acc++(aP k its).flatten).toArray
 |0,acc=>by simp
 |k+1,acc=>by
  have e:acc.toArray++its.toArray=(acc++its).toArray:=by simp
  have b:(acc++its)++(aP k its).flatten=acc++(aP (k+1) its).flatten:=by
   rw[aZ,a0,bf]
  rw[<- b,<- rY its k (acc++its),<- e,aZ,bg]
section
variable{X:Cx}{ag:List (c4×Obj)}{σ:St}{H:Hp}{s:c3}{l b:c4}{xs ys zs:List V}
theorem Inv.lset {its its':List cZ}{n:Nat}{f:Array cZ->Array cZ}{t':Nat}(I:Inv X ag σ H s)(a:H l=some (.lst xs))
  (e:s.heap.get? l=Z {cls:=.type "list",data:=.seq its.toArray n}) (hf:f its.toArray=its'.toArray) (hv:d5 ys its') (hz:ys.length<=da):
  Inv X ag σ (upd H l (.lst ys)) {s with heap:=s.heap.update l (Obj.mapSeq f),toks:=t'}:=by
 have q:=PySem.IsL.update e f;rw[hf]at q;refine I.write (x:=l) (e:=l) (by rw[a];exact trivial) (.inl O) (λd u c b=>(Heap.get?_update_other s.heap (Obj.mapSeq f) (Ne.symm c)).trans b) ⟨_,q⟩ ?_;exact⟨hz,its',_,hv,q⟩
theorem Inv.lnew{its:List cZ}{t':Nat}(I:Inv X ag σ H s)(hv:d5 ys its)(hz:ys.length<=da):
  Inv X ag σ (upd H s.heap.objs.size (.lst ys)) {s with heap:=s.heap.push {cls:=.type "list",data:=.seq its.toArray},toks:=t'}:=
 I.laid (λ_ _ q=>hP1 _ q) (nR1 _) ⟨hz,its,0,hv,hS1 _ O⟩
theorem Inv.fresh(I:Inv X ag σ H s):H s.heap.objs.size=Y:=I.hok.fresh (nR1 _)
theorem Inv.lstM(I:Inv X ag σ H s)(a:H l=Z (.lst xs)):xs.length<=da /\ ∃(its:List cZ) (n:Nat),d5 xs its/\xs.length=its.length/\s.heap.get? l=Z {cls:=.type "list",data:=.seq its.toArray n}:=by
 obtain⟨z,its,n,r,e⟩:=I.hok l _ a;exact⟨z,its,n,r,r.length,e⟩
theorem uY{n:Nat}(h:n<=da):Builtin.List.listTooLong n=J:=by
 unfold Builtin.List.listTooLong;exact ai (by lia)
end
section
variable{X:Cx}
def DX:V->List V->Hp->VK->Prop:=λx vs H Q=>∃l xs y,x = .ref l/\vs=[y]/\H l=Z (.lst xs)/\xs.length<da/\Q .non (upd H l (.lst (xs++[y])))
theorem rF:Nl X "list.append" DX:=by
 intro ag s σ H x vs v i Q I f d h;obtain⟨l,xs,y,rfl,rfl,b,g,q⟩:=h;cases f;obtain⟨u,rfl,c⟩:=d.one;obtain⟨z,a,n,r,j,e⟩:=I.lstM b;refine call_meets F.slot_list_append ⟨_,e,O⟩ F.entry_list_append (F.args_list_append_2 _ _) (PySem.list_append l a.toArray n u (by rw[sT1];lia)) ⟨e,?_⟩;refine⟨.non,_,I.lset (its':=a++[u]) b e (by simp) (r.append (.cons c .nil)) ?_,O,q⟩;rw[lA1,bh];lia
def DW:V->List V->Hp->VK->Prop:=λx vs H Q=>∃l b xs zs,x = .ref l/\vs=[.ref b]/\H l=Z (.lst xs)/\H b=Z (.lst zs)/\xs.length+zs.length<=da/\Q .non (upd H l (.lst (xs++zs)))
theorem zq:Nl X "list.extend" DW:=by
 intro ag s σ H x vs v A Q I p k h;obtain⟨l,b,xs,zs,rfl,rfl,g,t,y,q⟩:=h;cases p;obtain⟨u,rfl,i⟩:=k.one;cases i;obtain⟨z,c,n,r,B,e⟩:=I.lstM g;obtain⟨w,a,o,r2,m,j⟩:=I.lstM t;have f:c.toArray.size+a.toArray.size<=da:=by rw[sT1,sT1];lia
 have d:¬ (!c.toArray.isEmpty&&Builtin.List.listTooLong (c.toArray.size+a.toArray.size))=M:=by
  rw[uY f,Bool.and_false];exact aK
 refine call_meets F.slot_list_extend ⟨_,e,O⟩ F.entry_list_extend (F.args_list_extend_2 _ _)
  (AutoSeq1.list_extend_list_list_0 l c.toArray n b a.toArray o d (by rw[sT1];lia) (by lia)) ⟨e,j,?_⟩
 refine⟨.non,_,I.lset (its':=c++a) g e (by simp) (r.append r2) ?_,O,q⟩;rw[lA1];lia
def Hb:V->List V->Hp->VK->Prop:=λx vs H Q=>∃l xs i k y,x = .ref l/\vs=[.int i]/\H l=Z (.lst xs) /\ -(2^63)<=i/\i<2^63/\seqIndex? i xs.length=Z k/\xs[k]?=Z y/\Q y (upd H l (.lst (xs.eraseIdx k)))
theorem BZ:Nl X "list.pop" Hb:=by
 intro ag s σ H x vs v A Q I m f h;obtain⟨l,xs,i,k,y,rfl,rfl,c,h1,h2,o,j,q⟩:=h;cases m;obtain⟨u,rfl,d⟩:=f.one;obtain⟨t,rfl⟩:=d;obtain⟨z,a,n,r,g,e⟩:=I.lstM c;obtain⟨w,p,b⟩:=r.get j;refine call_meets F.slot_list_pop ⟨_,e,O⟩ F.entry_list_pop (F.args_list_pop_2 _ _)
  (MeetsSeq.list_pop_at l a.toArray n i t k w (fitsIndex_both h1 h2) (by rw[sT1,<- g];exact o) (by rw[<- aT1];exact p) (by rw[sT1];lia)) ⟨e,?_⟩
 refine⟨y,_,I.lset (its':=a.eraseIdx k) c e ?_ (r.eraseIdx k) ?_,b,q⟩
 ·show a.toArray.eraseIdxIfInBounds k=(a.eraseIdx k).toArray;rw[List.eraseIdxIfInBounds_toArray]
 ·have:=rK xs k;lia
def MP:R2:=λx y H Q=>∃l b xs zs,x = .ref l/\y = .ref b/\H l=Z (.lst xs)/\H b=Z (.lst zs)/\xs.length+zs.length<=da /\ ∀p,H p=Y->Q (.ref p) (upd H p (.lst (xs++zs)))
theorem HN:fQ X (binaryOp .Add) MP:=by
 intro ag s σ H x y v u Q I j i h;obtain⟨l,b,xs,zs,rfl,rfl,d,m,p,q⟩:=h;cases j;cases i;obtain⟨z,c,n,r,w,e⟩:=I.lstM d;obtain⟨o,a,t,r2,g,f⟩:=I.lstM m;refine PySem.P.add_list e f ?_ (by rw[sT1,sT1];lia);have k:c.toArray++a.toArray=(c++a).toArray:=by simp
 rw[k];exact⟨.ref _,_,I.lnew (t':=s.toks) (r.append r2) (by rw[lA1];lia),O,q _ I.fresh⟩
def ML:R2:=λx y H Q=>∃l k xs,x = .ref l/\y = .int k/\H l=Z (.lst xs) /\ -(2^63)<=k/\k<2^63/\xs.length*k.toNat<=da /\
 ∀p,H p=Y->Q (.ref p) (upd H p (.lst (aP k.toNat xs).flatten))
theorem EO{α:Type}(xs:List α)(k:Nat):(aP k xs).flatten.length=k*xs.length:=by
 induction k with
 |zero=>simp
 |succ k ih=>rw[aZ,a0,lA1,ih,Nat.succ_mul,Nat.add_comm]
theorem HJ:fQ X (binaryOp .Mult) ML:=by
 intro ag s σ H x y v u Q I B A h;obtain⟨l,k,xs,rfl,rfl,p,h1,h2,o,q⟩:=h;cases B;obtain⟨t,rfl⟩:=A;obtain⟨z,b,n,r,C,e⟩:=I.lstM p;have g:b.toArray.size*k.toNat<=da:=by rw[sT1,<- C];exact o
 have f:¬ b.toArray.size*k.toNat>(2^63-1)/8:=by
  have:(da:Nat)<=(2^63-1)/8:=by decide
  lia
 have i:¬ (!Builtin.List.listFitsIndex k)=M:=by
  rw[fitsIndex_both h1 h2];exact aK
 have c:¬ Builtin.List.listTooLong (b.toArray.size*k.toNat)=M:=by
  rw[uY g];exact aK
 have d:List.foldl (λj x2=>j++x2) #[] (aP (if b.toArray.isEmpty=M then 0 else k.toNat) b.toArray)=(aP k.toNat b).flatten.toArray:=by
  have w:∀m:Nat,List.foldl (λj x2=>j++x2) #[] (aP m b.toArray)=(aP m b).flatten.toArray:=λm=>by
   have:=rY b m [];rw[bi]at this;exact this
  rw[w];cases b with
  |nil=>simp
  |cons a D=>rw[aj (by simp)]
 refine wpAny_binaryOp_repeat_ref (T:="list") (U:="int") (by decide) ⟨_,e,O⟩ (λs'=>typeIs_int s' k t) noFill_list_mul F.fills_int_mul F.slot_int_rmul repeat_list F.slot_int_index.lookup
  (call_meets F.slot_int_rmul (typeIs_int s k t) F.entry_int_rmul (F.args_int_rmul_2 _ _) (int___rmul___int_list k t l b.toArray n)
   ⟨e,O,⟨_,e,O⟩,call_meets F.slot_list_mul ⟨_,e,O⟩ F.entry_list_mul (F.args_list_mul_2 _ _) (AutoListH.list___mul___list_int_3 l b.toArray n k t i f c) ⟨e,?_⟩⟩)
 rw[d];exact⟨.ref _,_,I.lnew (t':=s.toks) (r.rep k.toNat) (by rw[EO,Nat.mul_comm];exact o),O,q _ I.fresh⟩
end
section
variable{prog:c5}{w:c7}{A:c6}{E:cZ->c3->Prop}{s:c3}
end
section
variable{X:Cx}
end
end L2
namespace Att
open PySem PySem.W PySem.Calls PyProof.Rows
theorem nR{P:Params}{h:df}:∀(ns:List Int) (vs:List cZ),WellAll P h vs (ns.map WData.int)->IntsAre vs ns:=by
 intro ns
 induction ns with
 |nil=>
  intro vs w;rw[bj]at w;cases w;exact .nil
 |cons n ns ih=>
  intro vs w;rw[mP1]at w;cases w with
  |cons a b=>
   cases a;exact .cons _ _ (ih _ b)
theorem zh{l:OpenLaw}{n:Nat}(hn:l.most=some n){P:Params}{h:df}{args:List WData}{b:List cZ}(c:l.row.toRowW.claim.pre args=true)(k:WellAll P h b args):
  ∃a vs ns,b=[Value.ref a]/\args=[WData.list (ns.map WData.int)]/\h.get? a=Z {cls:=.type "list",data:=.seq vs.toArray}/\IntsAre vs ns/\ns.length<=n:=by
 have j:WShape.hasAll [] args [.list .int]=M:=(pre_splitW c).1;have hc:l.pre.holds [] {args:=args}=M:=(pre_splitW c).2;obtain⟨d,r,rfl,h1,h2⟩:=hasAllW_cons j;obtain rfl:=hasAllW_nil h2;obtain⟨xs,rfl,t⟩:=hasW_list h1;obtain⟨ns,rfl⟩:=items_int t;have f:ns.length<=n:=by
  unfold OpenLaw.pre at hc;have g:(WTm.not (.lt (.lit (.int (n:Int))) (.len (.arg 0)))).holds [] {args:=[.list (ns.map .int)]}=M:=by
   have g:=(holds_andW hc).1;rw[hn]at g;exact g
  have i:=condW_of g (w_not (w_lt w_lit (w_len_list (w_arg O))));rw[lM1]at i;refine Nat.le_of_not_lt λq=>?_;have s:(n:Int)<((ns.length:Nat):Int):=by omega
  first
   |(rw[ah s]at i;exact absurd i (by decide))
   |(simp at i;omega)
 cases k with
 |cons o m=>
  cases m;cases o with
  |list p e=>exact⟨_,_,ns,O,O,p,nR ns _ e,f⟩
theorem zj(l:OpenLaw)(args:List WData):l.row.toRowW.claim.post args (.bool M) args=M:=
 postW_of (r:=l.row.toRowW) (X:=(M == M))
  (show WShape.has [] (.bool M) .bool=M by first|rfl|decide|simp[WShape.has,WShape.arms,WShape.armsAll])
  (show(WTm.eq .res (.lit (.bool M))).value [] {args:=args,res:=Z (.bool M),after:=args}=Z (.bool (M == M))from w_eq_bool (w_res O) w_lit) O
theorem attach_call {l:OpenLaw}{n:Nat}{q:c5}{e:List Str}{XP:(Str->Option cZ)->df->Prop}{A:c7->df->Prop}{d:DefRec}
  (hn:l.most=Z n) (t:d.params.defaults=[])
  (call:∀(w:c7) (c b:c3) (mg y:Str->Option cZ) (m:c4) (o:Obj) (x p g:cZ) (a:c4) (vs:List cZ) (ns:List Int),
   Ground q e [] XP w c mg y b.heap->A w b.heap ->
   b.heap.get? m=Z o->o.data = .func (docDef d.name d.params d.body d.scope x p g)->b.heap.CodeRec p d.name->mg d.name=Z (.ref m) ->
   b.heap.get? a=Z {cls:=.type "list",data:=.seq vs.toArray}->IntsAre vs ns->ns.length<=n->b.gens = #[] ->
   de (model l.prog w) callerA (.call (.ref m) ⟨[.ref a],[]⟩) (λr s'=>r = .ok (.ret (.bool M))/\OldK b.heap s'.heap/\s'.os=b.os/\AllBare s'.gens) b):
  WalkO q e XP A l.row.toRowW d [] (λf vs=>PySem.call f vs):=by
 intro w c b mg y G aq m o x p g am kV au L s C v ao D z as k B N u E;obtain rfl:am = .none:=Dflts.none C t;obtain rfl:kV = .none:=Dflts.noKw C;obtain⟨a,vs,ns,rfl,rfl,i,h,j⟩:=zh hn k u;refine enter_call (codeAny_mono (call w c b mg y m o x p g a vs ns G aq au (fd_plain L) s v i h j ao) λr s' I=>?_);obtain⟨rfl,h2,F,H⟩:=I;exact⟨.inl ⟨.bool M,.bool M,[],O,λ_=>rfl,.bool M,zj l _,λ_=>⟨List.Pairwise.nil,λ_ K=>(nomatch K)⟩⟩,h2,F,H⟩
section
variable{prog:c5}{w:c7}{A:c6}{E:cZ->c3->Prop}{s:c3}{K:Frag}
end
end Att
namespace L2
open PySem PySem.Spec PyProof.Rows
theorem y0:∀{vs:List cZ} {ns:List Int},IntsAre vs ns->d5 (ns.map V.int) vs:=by
 intro vs ns h
 induction h with
 |nil=>exact .nil
 |cons n t h ih=>exact .cons ⟨t,O⟩ ih
def F1(H:Hp):Prop:=∀b,H b=Y \/ ∃o xs,H b=Z (.frz o (.lst xs))
theorem Ck {P:c5}{w:c7}{K:Fg1}{mg L:Str->Option cZ}{CX:Av}{k:Nat}{am a:c4}{fd:dg}{x:Str}{sp:Sp}{s₁:c3}{vs:List cZ}{ns:List Int}
  (au:K.In s₁.heap) (A:s₁.heap.Ns c8 mg) (hb:s₁.heap.Ns builtinsNs L) (E:∀x:Str,x≠"__name__"->L x=bootBuiltins x) (l:s₁.heap.NoLimit) (hg:s₁.gens = #[])
  (ha:s₁.heap.get? a=Z {cls:=.type "list",data:=.seq vs.toArray}) (hi:IntsAre vs ns) (R:ns.length<=da) (hr:gf k callerA)
  (F:∀base:df,K.In base->base.Ns c8 mg->m4 P w K mg base CX k am fd [x] sp) (g:∀(s:c3) (u:cZ),BindsTo s fd ⟨[u],[]⟩ [(x,u)])
  (I:∀H:Hp,F1 H->mY K H a (ns.map V.int)->sp [.ref a] H (λv _=>v = .bl M) λ_ _ _=>False)
  (G:∀H e s',CX [] H s₁ (λ_ _ _=>False) e s'->False):
  de (model P w) callerA (.call (.ref am) ⟨[.ref a],[]⟩) (λr s'=>r = .ok (.ret (.bool M))/\OldK s₁.heap s'.heap/\s'.os=s₁.os/\AllBare s'.gens) s₁:=by
 have Q:=y0 hi;have t:=hi.length
 -- from an abstract heap in which nothing but the script may be tracked
 have f:∀ H:Hp,F1 H->mY K H a (ns.map V.int)->lI P w H s₁.heap->(∀ b,H b≠none->b=a)->(H a≠none->K.lookup a=none) ->
   de (model P w) callerA (.call (.ref am) ⟨[.ref a],[]⟩) (λr s'=>r = .ok (.ret (.bool M))/\OldK s₁.heap s'.heap/\s'.os=s₁.os/\AllBare s'.gens) s₁:=by
  intro H N wq p S hK;have base_of:∀{b:c4} {o:Obj},s₁.heap.get? b=Z o->H b=Y->(tJ s₁.heap H).get? b=Z o:=λe n=>CA e n;have C:∀{b:c4} {o:Obj} {es:Array DictEntry} {ep:Nat},s₁.heap.get? b=Z o->o.data = .dict es ep->H b=Y:=λ{b o es ep} e d=>by
   cases q:H b with
   |none=>rfl
   |some u=>
    have D:b=a:=S b (by rw[q];simp);subst D;rw[ha]at e;cases e;have d':Data.seq vs.toArray _=Data.dict es ep:=d;cases d'
  have c:∀{b:c4} {m:Str->Option cZ},s₁.heap.Ns b m->(tJ s₁.heap H).Ns b m:=λ{b m} ⟨o,es,ep,e,d,r⟩=>⟨o,es,ep,base_of e (C e d),d,r⟩;have y:K.In (tJ s₁.heap H):=λb o e=>base_of (au b o e) (by
   cases q:H b with
   |none=>rfl
   |some u=>
    have D:b=a:=S b (by rw[q];simp);subst D;rw[hK (by rw[q];simp)]at e;cases e)
  have T:Mod K mg (tJ s₁.heap H):=⟨y,c A,⟨L,c hb,E⟩,let ⟨mc,h1,h2⟩:=l;⟨mc,c h1,h2⟩⟩;have e0:F3 P w K mg (tJ s₁.heap H) callerA [] s₁ H:=⟨O,T,λb o e=>En e,Nat.le_of_eq (zL _ _),trivial,λb hb=>absurd (show b∈([]:List c4)from hb) (by simp),p,.of_eq hg⟩;refine codeAny_mono ((F _ y (c A)).run callerA [] s₁ H ⟨[.ref a],[]⟩ [.ref a] [.ref a] _ _ hr e0 (g s₁ (.ref a)) (.cons O .nil) (I H N wq)) λr s' h=>?_;cases r with
  |error e=>exact(G H e s' h).elim
  |ok fl=>
   cases fl with
   |next=>exact False.elim h
   |brk=>exact False.elim h
   |cont=>exact False.elim h
   |ret u=>
    obtain⟨v,H',U,B,un,j,X,q⟩:=h;have q':v = .bl M:=q;subst q';obtain rfl:u=Value.bool true:=X;refine⟨O,OldK.of_keep λb o e=>?_,U,B⟩;cases q:H b with
    |none=>exact un.keep b o e q (by intro z;exact absurd (show b∈([]:List c4)from z) (by simp)) (by simp)
    |some u=>
     rcases N b with z|⟨W,xs,z⟩
     ·rw[q]at z;cases z
     ·have aq:=un.frzs b W _ z;obtain⟨ao,_⟩:=p b _ z;obtain⟨e2,_⟩:=j b _ aq;rw[e]at ao;cases ao;exact e2
 cases hk:K.lookup a with
 |some o=>
  -- the script is one of the module's own objects
  have e:=au a o hk;rw[ha]at e;cases e;refine f (λ_=>Y) (λ_=>.inl O) (.inr ⟨_,vs.toArray,_,hk,O,O,O,by rw[sT1,t];exact R,by simpa using Q⟩) (λb u z=>by have i:(Y:Option HO)=Z u:=z;cases i) (λb z=>absurd O z) λz=>absurd O z
 |none=>
  refine f (λb=>if b=a then Z (.frz {cls:=.type "list",data:=.seq vs.toArray} (.lst (ns.map V.int)))else Y) (λb=>?_) (.inl (.inr ⟨{cls:=.type "list",data:=.seq vs.toArray},ak O⟩)) (λb u z=>?_) (λb z=>?_) λ_=>hk
  ·by_cases hb:b=a
   ·exact .inr ⟨_,_,ak hb⟩
   ·exact .inl (aj hb)
  ·by_cases hb:b=a
   ·have i:=(ak hb).symm.trans z;cases i;subst hb;exact⟨ha,by rw[lM1];exact R,vs,_,Q,ha⟩
   ·have i:=(aj hb).symm.trans z;cases i
  ·by_cases hb:b=a
   ·exact hb
   ·exact absurd (aj hb) z
end L2
namespace L2
open PySem PySem.Spec PyProof.Rows
theorem DF{l:PySem.W.OpenLaw}{n k:Nat}{q:c5}{g:List Str}{XP:(Str->Option cZ)->df->Prop}{B:c7->df->Prop}{d:DefRec}{K:Params->Fg1}{CX:c7->Av}{sp:c7->Sp}{x:Str}(hn:l.most=some n)(z:n<=da)(p:d.params.defaults=[])(hr:gf k callerA)(ao:∀(w:c7) (h:df),B w h->(K w.params).In h)(F:∀(w:c7) (mg:Str->Option cZ) (m:c4) (h:df),(K w.params).In h->h.Ns c8 mg->mg d.name=some (.ref m) ->
   ∃fd:dg,(∀(s:c3) (u:cZ),BindsTo s fd ⟨[u],[]⟩ [(x,u)]) /\
    ∀base:df,(K w.params).In base->base.Ns c8 mg->m4 l.prog w (K w.params) mg base (CX w) k m fd [x] (sp w))(y:∀(w:c7) (H:Hp) (a:c4) (ns:List Int),ns.length<=n->F1 H->mY (K w.params) H a (ns.map V.int)->sp w [.ref a] H (λv _=>v = .bl M) λ_ _ _=>False)(t:∀(w:c7) (H:Hp) (s:c3) (e:cZ) (s':c3),CX w [] H s (λ_ _ _=>False) e s'->False):
  PySem.W.WalkO q g XP B l.row.toRowW d [] (λf vs=>PySem.call f vs):=by
 refine Att.attach_call hn p λw C j mg S m o Q T D a vs ns G aq R P I r i c b N=>?_;have A:=ao w _ aq;obtain⟨fd,E,L⟩:=F w mg m _ A G.T.g r;exact Ck A G.T.g G.T.b G.T.builtins G.T.nolimit N i c (aC b z) hr L E (λH am au=>y w H a ns b am au) λH e s'=>t w H j e s'
end L2
namespace L2
open PySem PySem.Spec PyProof.Rows
def i8(s:di):Arguments:=match s with
 | .FunctionDef _ a _ _ _ _ _ _ _ _=>a
 |_=>{posonlyargs:=[],args:=[],vararg:=Y,kwonlyargs:=[],kw_defaults:=[],kwarg:=Y,defaults:=[]}
def fB(s:di):List di:=match s with
 | .FunctionDef _ _ b _ _ _ _ _ _ _=>b
 |_=>[]
def dX(s:di):dj:=match s with
 | .FunctionDef _ _ _ _ _ _ sc _ _ _=>sc
 |_=>{kind:=.function,names:=[],isGenerator:=J,isCoroutine:=J}
abbrev vT:Av:=λ_ _ _ _ _ _=>False
abbrev E0:XK:=λ_ _ _=>False
theorem KB{X:Cx}:xu vT X E0:=λ_ _ _ _ _ _ _ h=>h.elim
structure yV (K:Fg1)(x qual:Str)(st:di)(f:c4)(fd:dg):Prop where
 ex:∃(oc:cZ) (od:Option c4) (kV doc pm:cZ) (an:Option c4) (cdv ct:cZ) (osl:Array (Option cZ)),
  fd=wF1 x qual (i8 st) (fB st) (dX st) .none kV doc pm an cdv ct/\K.lookup f=some ⟨oc,od,.func fd,osl⟩/\wC1 K cdv qual=true
 kp:wK1 K (.ref f)=true
section
variable{P:c5}{w:c7}{K:Fg1}{mg:Str->Option cZ}{base:df}
theorem yV.ok{x b:Str}{st:di}{f:c4}{fd:dg}{N ps:List Str}{k:Nat}{sp:Sp}(F:yV K x b st f fd)(S:g9 N ps (dX st))(len:∀ vs H Q E,sp vs H Q E->vs.length=ps.length)(d:∀(c:cZ) (A:c6) (a:List Env) (s:c3) (H:Hp) (vs:List V) (Q:VK) (E:XK),gf k (A.deeper (envOfC b (dX st) s.heap.objs.size f c))->sp vs H Q E ->
   ∃t,vY (nV vT P w K mg base N b (dX st) f c A a s H E).nox (fB st) t/\t {nx:=λ_ H'=>Q .non H',rt:=Q} (start N vs) H):m4 P w K mg base vT (k+1) f fd ps sp:=by
 obtain⟨r,n,kV,i,o,p,c,ct,j,rfl,l,g⟩:=F.ex;refine Lg l g S len λA a s H vs Q E m e=>?_;obtain⟨t,h,q⟩:=d c A a s H vs Q E m e;exact⟨t,h.nox,q⟩
theorem yV.binds{x a:Str}{st:di}{f:c4}{fd:dg}{ps:List Str}(F:yV K x a st f fd)(h:∀(kV b d:cZ) (e:Option c4) (c ct:cZ) (g:List cZ),g.length=ps.length->bindArgs (wF1 x a (i8 st) (fB st) (dX st) .none kV b d e c ct) ⟨g,[]⟩=pure (ps.zip g)):kn K fd ps []:=by
 obtain⟨m,k,kV,b,d,e,c,ct,i,rfl,l,j⟩:=F.ex;exact .all (h kV b d e c ct)
theorem CL{x a:Str}{st:di}{f:c4}{j:cZ}{i h:Option c4}{e:Array (Option cZ)}{kV d g b ct:cZ}(l:K.lookup f=Z ⟨j,i,.func (wF1 x a (i8 st) (fB st) (dX st) .none kV d g h b ct),e⟩)(c:wC1 K b a=M)(k:wK1 K (.ref f)=M):yV K x a st f (wF1 x a (i8 st) (fB st) (dX st) .none kV d g h b ct):=⟨⟨j,i,kV,d,g,h,b,ct,e,O,l,c⟩,k⟩
end
section
variable{X:Cx}
end
def Al(H H':Hp):Prop:=∀b o,H b=Z o->H' b=Z o
theorem Al.trans{H H1 H2:Hp}(a:Al H H1)(b:Al H1 H2):Al H H2:=λc o h=>b c o (a c o h)
theorem Al.free{H H':Hp}(e:Al H H'){l:c4}(h:H' l=Option.none):H l=Option.none:=by
 cases q:H l with
 |none=>rfl
 |some o=>
  rw[e l o q]at h;cases h
end L2
namespace L2
open PySem PySem.Spec PyProof.Rows
section
variable{κ:Type} [DecidableEq κ]
def jz(kvs:List (κ×V))(k:κ):Option V:=(kvs.find? λkv=>decide (kv.1=k)).map (·.2)
def ij(kvs:List (κ×V))(k:κ)(v:V):List (κ×V):=
 if(kvs.any λkv=>decide (kv.1=k))=M then kvs.map (λkv=>if kv.1=k then(kv.1,v)else kv)else kvs++[(k,v)]
theorem oF{p:κ×V}{r:List (κ×V)}{k:κ}(e:p.1=k):jz (p::r) k=Z p.2:=by simp[jz,bm,e]
theorem oG{p:κ×V}{r:List (κ×V)}{k:κ}(e:¬ p.1=k):jz (p::r) k=jz r k:=by simp[jz,bm,e]
theorem uo(k:κ):∀kvs:List (κ×V),(kvs.any λa=>decide (a.1=k))=(jz kvs k).isSome
 |[]=>rfl
 |p::r=>by
  rw[bn];by_cases e:p.1=k
  ·simp only[oF e,ah e,Bool.true_or,Option.isSome_some]
  ·rw[oG e,ai e,Bool.false_or];exact uo k r
theorem j5(kvs:List (κ×V))(k:κ)(v:V):(ij kvs k v).length<=kvs.length+1:=by
 unfold ij;split
 ·rw[lM1];lia
 ·rw[lA1,lC1,bo];lia
theorem mZ.isSome_eq{o:Option V}{u:Option cZ}(r:mZ o u):o.isSome=u.isSome:=by
 cases o with
 |none=>cases u with
  |none=>rfl
  |some _=>exact(show False from r).elim
 |some _=>cases u with
  |none=>exact(show False from r).elim
  |some _=>rfl
theorem mZ.getD{o:Option V}{u:Option cZ}{d:V}{d':cZ}(r:mZ o u)(a:dS d d'):dS (o.getD d) (u.getD d'):=by
 cases o with
 |none=>cases u with
  |none=>exact a
  |some _=>exact(show False from r).elim
 |some _=>cases u with
  |none=>exact(show False from r).elim
  |some _=>exact r
theorem KV.val{kvs:List (κ×V)}{vs:List (κ×cZ)}(r:KV kvs vs)(k:κ):mZ (jz kvs k) (valueAt vs k):=by
 unfold KV at r
 induction r with
 |nil=>exact True.intro
 | @cons p q ps a h t ih=>
  obtain⟨h1,h2⟩:=h;by_cases e:p.1=k
  ·have c:q.1=k:=h1.symm.trans e;have b:valueAt (q::a) k=Z q.2:=by simp[valueAt,bm,c]
   rw[oF e,b];exact h2
  ·have c:¬ q.1=k:=λz=>e (h1.trans z);have b:valueAt (q::a) k=valueAt a k:=by simp[valueAt,bm,c]
   rw[oG e,b];exact ih
theorem KV.any{kvs:List (κ×V)}{vs:List (κ×cZ)}(r:KV kvs vs)(k:κ):(kvs.any λa=>decide (a.1=k))=vs.any λa=>decide (a.1=k):=by
 unfold KV at r
 induction r with
 |nil=>rfl
 |cons h t ih=>rw[bn,bn,ih,h.1]
theorem KV.repl{kvs:List (κ×V)}{vs:List (κ×cZ)}(r:KV kvs vs)(k:κ){y:V}{u:cZ}(b:dS y u):
  KV (kvs.map λa=>if a.1=k then(a.1,y)else a) (vs.map λa=>if a.1=k then(a.1,u)else a):=by
 unfold KV at r ⊢
 induction r with
 |nil=>exact .nil
 | @cons p q ps c h t ih=>
  rw[mP1,mP1];refine .cons ?_ ih;obtain⟨h1,h2⟩:=h;by_cases e:p.1=k
  ·rw[ak e,ak (h1.symm.trans e)];exact⟨h1,b⟩
  ·rw[aj e,aj (λz=>e (h1.trans z))];exact⟨h1,h2⟩
theorem KV.put{kvs:List (κ×V)}{vs:List (κ×cZ)}(r:KV kvs vs)(k:κ){y:V}{u:cZ}(a:dS y u):KV (ij kvs k y) (stored vs k u):=by
 unfold ij stored;rw[r.any k];by_cases e:(vs.any λb=>decide (b.1=k))=M
 ·rw[ak e,ak e];exact r.repl k a
 ·rw[aj e,aj e];exact Paired.snoc r ⟨O,a⟩
theorem KV.length{kvs:List (κ×V)}{vs:List (κ×cZ)}(r:KV kvs vs):kvs.length=vs.length:=Paired.length r
end
theorem pB{P:c5}{w:c7}{k:Key}{u:cZ}(r:dS (kV k) u):(eF P w).is k u=M:=by
 cases k with
 |inl i=>obtain⟨t,e⟩:=(show∃t,u=Value.int i t from r);subst e;exact u7 P w i t
 |inr x=>obtain⟨t,e⟩:=(show∃t,u=Value.str x t from r);subst e;exact u6 P w x t
theorem rM{P:c5}{w:c7}:∀{ks:List Key} {a:List cZ},d5 (ks.map kV) a->ItemsAre (eF P w) ks a
 |[],_,r=>by rw[bj]at r;cases r;exact .nil
 |k::ks,_,r=>by
  rw[mP1]at r;cases r with
  |cons h t=>exact .cons (pB h) (rM t)
abbrev KT(H:Hp):List (List Key×V)->List (List Key×c4×cZ)->Prop:=Paired λp q=>p.1=q.1/\H q.2.1=Z (.tup (p.1.map kV))/\dS p.2 q.2.2
theorem KT.val{H:Hp}{kvs:List (List Key×V)}{xs:List (List Key×c4×cZ)}(r:KT H kvs xs)(k:List Key):mZ (jz kvs k) ((atKey xs k).map (·.2)):=by
 induction r with
 |nil=>exact True.intro
 | @cons p q ps a h t ih=>
  obtain⟨h1,_,h2⟩:=h;by_cases e:p.1=k
  ·have c:q.1=k:=h1.symm.trans e;have b:atKey (q::a) k=Z q.2:=by simp[atKey,bm,c]
   rw[oF e,b];exact h2
  ·have c:¬ q.1=k:=λz=>e (h1.trans z);have b:atKey (q::a) k=atKey a k:=by simp[atKey,bm,c]
   rw[oG e,b];exact ih
theorem KT.repl{H:Hp}{kvs:List (List Key×V)}{xs:List (List Key×c4×cZ)}(r:KT H kvs xs)(k:List Key){y:V}{u:cZ}(c:dS y u):
  KT H (kvs.map λa=>if a.1=k then(a.1,y)else a) (xs.map (putAt k u)):=by
 induction r with
 |nil=>exact .nil
 | @cons p q ps d h t ih=>
  rw[mP1,mP1];refine .cons ?_ ih;obtain⟨h1,h2,b⟩:=h;unfold putAt;by_cases e:p.1=k
  ·rw[ak e,ak (h1.symm.trans e)];exact⟨h1,h2,c⟩
  ·rw[aj e,aj (λz=>e (h1.trans z))];exact⟨h1,h2,b⟩
theorem KT.put{H:Hp}{kvs:List (List Key×V)}{xs:List (List Key×c4×cZ)}(r:KT H kvs xs)(k:List Key){b:c4}{y:V}{u:cZ}(hb:H b=some (.tup (k.map kV)))(a:dS y u):
  KT H (ij kvs k y) (storedH xs k b u):=by
 have e:(kvs.any λc=>decide (c.1=k))=(atKey xs k).isSome:=by
  rw[uo,(r.val k).isSome_eq,bp]
 unfold ij storedH;rw[e];by_cases q:(atKey xs k).isSome=M
 ·rw[ak q,ak q];exact r.repl k a
 ·rw[aj q,aj q];exact Paired.snoc r ⟨O,hb,a⟩
theorem KT.keeps{H H':Hp}{kvs:List (List Key×V)}{xs:List (List Key×c4×cZ)}(r:KT H kvs xs)(ht:∀b ys,H b=Z (.tup ys)->H' b=Z (.tup ys)):KT H' kvs xs:=
 Paired.mapP r λ_ _ z=>⟨z.1,ht _ _ z.2.1,z.2.2⟩
section
variable{P:c5}{w:c7}{H:Hp}{h:df}{a:c4}
theorem Gg{u:HO}(ok:lI P w H h)(e:Rd H a u):eM P w H h a u:=e.ok ok
theorem sd{kvs:List (Key×V)}(ok:lI P w H h)(e:Rd H a (.dK kvs)):kvs.length<=da/\(a == sysModules)=J /\ ∃vs,KV kvs vs/\h.DictOf (eF P w) a vs:=
 show eM P w H h a (.dK kvs)from Gg ok e
theorem yA{kvs:List (Key×V)}(ok:lI P w H h)(e:H a=Z (.dK kvs)):kvs.length<=da/\(a == sysModules)=J /\ ∃vs,KV kvs vs/\h.DictOf (eF P w) a vs:=sd ok (.inl e)
theorem pA{ks:List Key}(ok:lI P w H h)(e:H a=Z (.tup (ks.map kV))):(tupleKind (eF P w)).is h ks a:=by
 obtain⟨_,b,r,o,h1,h2,n,c⟩:=(show eM P w H h a (.tup (ks.map kV))from ok a _ e);exact⟨o,b.toArray,n,h1,h2,c,by simpa using rM r⟩
theorem vB{kvs:List (List Key×V)}(ok:lI P w H h)(e:Rd H a (.dT kvs)):kvs.length<=da/\(a == sysModules)=false /\
  ∃xs,KT H kvs xs/\h.DictOfH (tupleKind (eF P w)) a xs:=by
 obtain⟨z,y,xs,r,o,es,ep,h1,h2,g,f,d⟩:=(show eM P w H h a (.dT kvs)from Gg ok e);refine⟨z,y,xs,r,o,es,ep,h1,h2,g,f,λx b=>?_,d⟩;have all:∀{l:List (List Key×V)} {m:List (List Key×c4×cZ)},KT H l m -> ∀x∈m,(tupleKind (eF P w)).is h x.1 x.2.1:=by
  intro l m q
  induction q with
  |nil=>intro x b;exact nomatch b
  | @cons p q ps i c t ih=>
   intro x b;rcases aE.mp b with e|b
   ·subst e;exact pA ok (by rw[<- c.1];exact c.2.1)
   ·exact ih x b
 exact all r x b
theorem Lr{kvs:List (List Key×V)}(ok:lI P w H h)(e:H a=some (.dT kvs)):kvs.length<=da/\(a == sysModules)=false /\
  ∃xs,KT H kvs xs/\h.DictOfH (tupleKind (eF P w)) a xs:=vB ok (.inl e)
end
def q9(H:Hp)(a:c4)(y:V)(r:Option V):Prop:=
 (∃kvs k,Rd H a (.dK kvs)/\y=kV k/\r=jz kvs k) \/ ∃kvs k b,Rd H a (.dT kvs)/\y = .ref b/\H b=Z (.tup (k.map kV))/\r=jz kvs k
def Ao(H:Hp)(a:c4)(y v:V)(H':Hp):Prop:=
 (∃kvs k,H a=Z (.dK kvs)/\y=kV k/\kvs.length<da/\H'=upd H a (.dK (ij kvs k v))) \/
 ∃kvs k b,H a=Z (.dT kvs)/\y = .ref b/\H b=Z (.tup (k.map kV))/\kvs.length<da/\H'=upd H a (.dT (ij kvs k v))
theorem q9.k{H:Hp}{a:c4}{kvs:List (Key×V)}{k:Key}(e:H a=Z (.dK kvs)):q9 H a (kV k) (jz kvs k):=.inl ⟨kvs,k,.inl e,O,O⟩
theorem q9.t{H:Hp}{a b:c4}{kvs:List (List Key×V)}{k:List Key}(e:H a=Z (.dT kvs))(c:H b=Z (.tup (k.map kV))):q9 H a (.ref b) (jz kvs k):=.inr ⟨kvs,k,b,.inl e,O,c,O⟩
theorem Ao.k{H:Hp}{a:c4}{kvs:List (Key×V)}{k:Key}{v:V}(e:H a=Z (.dK kvs))(b:kvs.length<da):Ao H a (kV k) v (upd H a (.dK (ij kvs k v))):=.inl ⟨kvs,k,e,O,b,O⟩
theorem Ao.t{H:Hp}{a b:c4}{kvs:List (List Key×V)}{k:List Key}{v:V}(e:H a=some (.dT kvs))(d:H b=some (.tup (k.map kV)))(c:kvs.length<da):
  Ao H a (.ref b) v (upd H a (.dT (ij kvs k v))):=.inr ⟨kvs,k,b,e,O,d,c,O⟩
section
variable{X:Cx}{ag:List (c4×Obj)}{σ:St}{H:Hp}{s:c3}{a:c4}{y v:V}{u r:cZ}{o:Option V}{A:c6}{E:cZ->c3->Prop}
theorem Inv.big(I:Inv X ag σ H s):sysModules<s.heap.objs.size:=by
 have h:c8<s.heap.objs.size:=(I.mod.glob.keeps I.bk).lt;exact bq (by decide) h
theorem zZ{Q:cZ->c3->Prop}(r:A.units+1<cLine)(I:Inv X ag σ H s)(g:q9 H a y (some v))(q:dS y u)(h:∀ f s',Inv X ag σ H s'->dS v f->Q f s'):
  db (model X.prog X.w) A (getItem (.ref a) u) Q E s:=by
 rcases g with⟨kvs,k,e,i,l⟩|⟨kvs,k,b,e,i,t,l⟩
 ·subst i;obtain⟨z,x,vs,c,j⟩:=sd I.hok e;obtain⟨f,n,d⟩:=mZ.some_of (v:=v) (o:=valueAt vs k) (by rw[l];exact c.val k);exact wpAny_getItem_of (pB q) j.mapOf n (h f _ (I.tok _) d)
 ·subst i;cases(show u=Value.ref b from q);obtain⟨z,x,xs,c,j⟩:=vB I.hok e;obtain⟨f,n,d⟩:=mZ.some_of (v:=v) (o:=(atKey xs k).map (·.2)) (by rw[l];exact c.val k);obtain⟨p,w,m⟩:=oM1.mp n;refine wpAny_getItem_heap (tupleKind_room_in1 r) (pA I.hok t) j w ?_;rw[m];exact h f _ (I.tok _) d
theorem M9{Q:cZ->c3->Prop}(m:A.units+1<cLine)(I:Inv X ag σ H s)(g:q9 H a y o)(j:dS y u)(h:∀ s',Inv X ag σ H s'->Q (.bool o.isSome) s'):
  db (model X.prog X.w) A (compareOp .In u (.ref a)) Q E s:=by
 rcases g with⟨kvs,k,e,d,l⟩|⟨kvs,k,b,e,d,n,l⟩
 ·subst d;obtain⟨z,f,vs,c,i⟩:=sd I.hok e;refine wpAny_in_of (pB j) f i.mapOf ?_;rw[<- (c.val k).isSome_eq,<- l];exact h _ (I.tok _)
 ·subst d;cases(show u=Value.ref b from j);obtain⟨z,f,xs,c,i⟩:=vB I.hok e;refine wpAny_in_heap (tupleKind_room_in1 m) (pA I.hok n) f i ?_;have q:=(c.val k).isSome_eq;rw[bp]at q;rw[<- q,<- l];exact h _ (I.tok _)
theorem Fv{Q:cZ->c3->Prop}(m:A.units+1<cLine)(I:Inv X ag σ H s)(g:q9 H a y o)(j:dS y u)(h:∀ s',Inv X ag σ H s'->Q (.bool (!o.isSome)) s'):
  db (model X.prog X.w) A (compareOp .NotIn u (.ref a)) Q E s:=by
 rcases g with⟨kvs,k,e,d,l⟩|⟨kvs,k,b,e,d,n,l⟩
 ·subst d;obtain⟨z,f,vs,c,i⟩:=sd I.hok e;refine wpAny_notIn_of (pB j) f i.mapOf ?_;rw[<- (c.val k).isSome_eq,<- l];exact h _ (I.tok _)
 ·subst d;cases(show u=Value.ref b from j);obtain⟨z,f,xs,c,i⟩:=vB I.hok e;refine wpAny_notIn_heap (tupleKind_room_in1 m) (pA I.hok n) f i ?_;have q:=(c.val k).isSome_eq;rw[bp]at q;rw[<- q,<- l];exact h _ (I.tok _)
theorem md{h':df}{t':Nat}{c:HO}(I:Inv X ag σ H s)(mu:JG (H a))(hs:Heap.SameBut a s.heap h')(he:∃ q,h'.get? a=some q)(new:eM X.prog X.w (upd H a c) h' a c):
  Inv X ag σ (upd H a c) {s with heap:=h',toks:=t'}:=
 I.write (x:=a) (e:=a) mu (.inl O) (λb q d z=>(hs.2 b d).trans z) he new
theorem CZ{P:c5}{w:c7}{H':Hp}{h':df}{kvs:List (Key×V)}{vs:List (Key×cZ)}(z:kvs.length<=da)(hd:(a == sysModules)=false)(b:KV kvs vs)(dd:h'.DictOf (eF P w) a vs):
  eM P w H' h' a (.dK kvs):=⟨z,hd,vs,b,dd⟩
theorem zY{H':Hp}{Q:Unit->c3->Prop}(am:A.units+1<cLine)(I:Inv X ag σ H s)(g:Ao H a y v H')(B:dS y u)(C:dS v r)(h:∀ s',Inv X ag σ H' s'->Q () s'):
  db (model X.prog X.w) A (setItem (.ref a) u r) Q E s:=by
 rcases g with⟨kvs,k,e,j,l,m⟩|⟨kvs,k,b,e,j,x,l,m⟩
 ·subst j m;obtain⟨z,o,vs,d,t⟩:=yA I.hok e;have w:vs.length<=da:=by rw[<- d.length];exact z
  have p:(ij kvs k v).length<=da:=by have:=j5 kvs k v;lia
  refine wpAny_setItem_pairs (hsz:=w) (pB B) t λh' f n=>h _ ?_;have K:∃q,h'.get? a=Z q:=let ⟨q,_,_,i,_⟩:=f;⟨q,i⟩
  exact md I (by rw[e];exact True.intro) n K (CZ p o (d.put k C) f)
 ·subst j m;cases(show u=Value.ref b from B);obtain⟨z,o,xs,d,t⟩:=Lr I.hok e;have w:xs.length<=da:=by rw[<- Paired.length d];exact z
  have p:(ij kvs k v).length<=da:=by have:=j5 kvs k v;lia
  refine wpAny_setItem_heap (hsz:=w) (tupleKind_room_in1 am) (pA I.hok x) t λh' f n=>h _ ?_;obtain⟨q,es,ep,i,h2,F,G,_,L⟩:=f;refine md I (by rw[e];exact True.intro) n ⟨q,i⟩ ⟨p,o,_,(d.put k x C).keeps λc ys D=>?_,q,es,ep,i,h2,F,G,L⟩;rw[d0 (KO D e (λz=>nomatch z))];exact D
end
section
variable{X:Cx}{ag:List (c4×Obj)}{σ:St}{H:Hp}{s:c3}{a:c4}{kvs:List (Key×V)}{k:Key}{u:cZ}{A:c6}{E:cZ->c3->Prop}
theorem Lv{Q:cZ->c3->Prop}(I:Inv X ag σ H s)(e:Rd H a (.dK kvs))(h:∀t s',Inv X ag σ H s'->Q (.int kvs.length t) s'):db (model X.prog X.w) A (call (.builtin "len") [.ref a]) Q E s:=by
 obtain⟨z,c,vs,b,d⟩:=sd I.hok e;refine call_len_dict c d (by rw[<- b.length];rw[sizeLine_eq]at z;lia) ?_;rw[<- b.length];exact h _ _ (I.tok _)
end
theorem vD{X:Cx}{ag:List (c4×Obj)}{σ:St}{H:Hp}{s:c3}{a:c4}{y:V}{o:Option V}(I:Inv X ag σ H s)(g:q9 H a y o):s.TypeIs (.ref a) "dict":=by
 rcases g with⟨kvs,k,e,_,_⟩|⟨kvs,k,b,e,_,_,_⟩
 ·obtain⟨_,_,vs,_,c⟩:=sd I.hok e;exact c.typeIs
 ·obtain⟨_,_,xs,_,c⟩:=vB I.hok e;exact c.typeIs
section
variable{X:Cx}{o i e value:Expr}{pos pos' tpos:Pos}{td ty tv:TE}
end
theorem vC{P:c5}{w:c7}{H:Hp}(h:df)(hb:sysModules<h.objs.size):eM P w H (h.push {cls:=.type "dict",data:=.dict #[]}) h.objs.size (.dK []):=
 ⟨br _,beq_eq_false_iff_ne.mpr (Ne.symm (nN1 hb)),[],.nil,Heap.DictOf.new h⟩
def GT:TE:=λ_ H Q=>∀p,H p=Y->Q (.ref p) (upd H p (.dK []))
section
variable{X:Cx}{pos:Pos}
theorem BA:PE X (.Dict [] [] pos) GT:=λag s σ H Q I h=>
 wpAny_Dict_empty ⟨.ref s.heap.objs.size,_,I.laid (a:=s.heap.objs.size) (o:=.dK []) (t':=s.toks) (λ_ _ q=>hP1 _ q) (nR1 _) (vC s.heap I.big),O,h _ (I.hok.fresh (nR1 _))⟩
end
def sI:List (TE×TE)->St->Hp->(List (V×V)->Hp->Prop)->Prop
 |[],_,H,Q=>Q [] H
 |(tk,tv)::r,σ,H,Q=>tk σ H λx H1=>tv σ H1 λy H2=>sI r σ H2 λps H3=>Q ((x,y)::ps) H3
abbrev VV:List (V×V)->List (cZ×cZ)->Prop:=Paired λp q=>dS p.1 q.1/\dS p.2 q.2
def LP(X:Cx)(pos:Pos)(keys:List (Option Expr))(values:List Expr)(trs:List (TE×TE)):Prop:=
 ∀(ag:List (c4×Obj)) (s:c3) (σ:St) (H:Hp) (Q:List (V×V)->Hp->Prop),Inv X ag σ H s->sI trs σ H Q ->
  db (model X.prog X.w) X.A (evalPairs (pairTrees keys values X.env pos)) (λvs s'=>∃ps H',Inv X ag σ H' s'/\VV ps vs/\Q ps H') X.xe s
theorem D7{X:Cx}{pos:Pos}:LP X pos [] [] []:=λag s σ H Q I h=>pairTrees_nil_walk ⟨[],H,I,.nil,h⟩
theorem Bp{X:Cx}{pos:Pos}{k v:Expr}{ks:List (Option Expr)}{vs:List Expr}{tk tv:TE}{a:List (TE×TE)}(hk:PE X k tk)(hv:PE X v tv)(hr:LP X pos ks vs a):
  LP X pos (Z k::ks) (v::vs) ((tk,tv)::a):=λag s σ H Q I h=>
 pairTrees_cons_walk (ff (hk ag s σ H _ I h) λu e ⟨x,H1,l,m,n⟩=>ff (hv ag e σ H1 _ l n) λp o ⟨y,H2,g,i,d⟩=>
  ff (hr ag o σ H2 _ g d) λws q ⟨ps,c,j,b,f⟩=>⟨(x,y)::ps,c,j,.cons ⟨m,i⟩ b,f⟩)
def jG(kvs more:List (Key×V)):List (Key×V):=more.foldl (λacc kv=>ij acc kv.1 kv.2) kvs
theorem KV.merge:∀{more:List (Key×V)} {rs:List (Key×cZ)} {kvs:List (Key×V)} {vs:List (Key×cZ)},KV more rs->KV kvs vs->KV (jG kvs more) (merged vs rs):=by
 intro more rs kvs vs r;unfold KV at r
 induction r generalizing kvs vs with
 |nil=>intro q;exact q
 | @cons p q ps b h t ih=>
  intro a;have e:KV (ij kvs p.1 p.2) (stored vs q.1 q.2):=by
   have:=a.put p.1 h.2;rw[<- h.1];exact this
  exact ih e
theorem lh:∀(more kvs:List (Key×V)),(jG kvs more).length<=kvs.length+more.length
 |[],kvs=>by show kvs.length<=kvs.length+0;lia
 |p::r,kvs=>by
  have h1:=lh r (ij kvs p.1 p.2);have h2:=j5 kvs p.1 p.2;show(jG (ij kvs p.1 p.2) r).length<=_;rw[lC1];lia
theorem pW{P:c5}{w:c7}:∀{kvs:List (Key×V)} {ws:List (cZ×cZ)},VV (kvs.map λd=>(kV d.1,d.2)) ws -> ∃rs,Carries (eF P w) ws rs/\KV kvs rs
 |[],_,r=>by rw[bj]at r;cases r;exact⟨[],True.intro,.nil⟩
 |p::kvs,_,r=>by
  rw[mP1]at r;cases r with
  | @cons a b as bs h t=>
   obtain⟨rs,c,q⟩:=pW (P:=P) (w:=w) t;obtain⟨b1,b2⟩:=b;exact⟨(p.1,b2)::rs,⟨pB h.1,O,c⟩,.cons ⟨O,h.2⟩ q⟩
def Kf(trs:List (TE×TE)):TE:=fun σ H Q=>∀p,H p=Y->sI trs σ (upd H p (.dK [])) λps H2=>H2 p=Z (.dK []) /\ ∃kvs:List (Key×V),ps=kvs.map (λkv=>(kV kv.1,kv.2))/\kvs.length<=15/\Q (.ref p) (upd H2 p (.dK (jG [] kvs)))
theorem Ee{X:Cx}{pos:Pos}{b:List (Option Expr)}{values:List Expr}{d:List (TE×TE)}(h:LP X pos b values d)(g:b.all (·.isSome)=M)(v:b.length=values.length)(h0:b≠[])(j:b.length<=15):PE X (.Dict b values pos) (Kf d):=by
 intro ag s σ H Q I q;have l:=I.hok.fresh (nR1 s.heap.objs.size);have m:=I.laid (a:=s.heap.objs.size) (o:=.dK []) (h':=s.heap.push {cls:=.type "dict",data:=.dict #[]}) (t':=s.toks) (λ_ _ q=>hP1 _ q) (nR1 _) (vC s.heap I.big);refine wpAny_Dict_walk (knd:=eF X.prog X.w) g v h0 j (ff (h ag _ σ _ _ m (q _ l)) λws C ⟨ps,H2,k,i,e,kvs,ep,B,p⟩=>?_);subst ep;obtain⟨rs,c,rk⟩:=pW (P:=X.prog) (w:=X.w) i;obtain⟨z,r,x,t,u⟩:=yA k.hok e;cases t;refine⟨rs,c,u,λh' f n=>⟨.ref s.heap.objs.size,_,?_,O,p⟩⟩;have A:(jG [] kvs).length<=da:=by
  have h1:=lh kvs [];rw[bo]at h1;rw[sizeLine_eq];lia
 have y:∃q,h'.get? s.heap.objs.size=Z q:=let ⟨q,_,_,hq,_⟩:=f;⟨q,hq⟩
 exact md k (by rw[e];exact True.intro) n y (CZ A r (rk.merge .nil) f)
structure M2 (X:Cx)(o:Expr)(m:Str)(apos:Pos)(e f:Expr)(cpos:Pos):Prop where
 base:attributeBase o m X.env (eval o X.env)=eval o X.env
 few:((backTo cpos (c9 [e,f] X.env)).all (λx=> !x.1)&&(backToKw cpos (keywordEach [] X.env)).all (λx=>x.1.isSome)
  && decide (([e,f]:List Expr).length+([]:List Keyword).length+(if([]:List Keyword).isEmpty then 0 else 1)<30))=true
 line:(apos.endLine == cpos.line)=true
 trees:backTo cpos (c9 [e,f] X.env)=[(false,eval e X.env),(false,eval f X.env)]
section
variable{X:Cx}{ag:List (c4×Obj)}{σ:St}{H:Hp}{s:c3}{a:c4}{y d:V}{u r:cZ}{o:Option V}{A:c6}{E:cZ->c3->Prop}
end
section
variable{X:Cx}{o e f:Expr}{apos cpos:Pos}{td ty tx:TE}
end
section
variable{X:Cx}{ag:List (c4×Obj)}{σ:St}{H:Hp}{s:c3}{a:c4}{kvs:List (Key×V)}{A:c6}{E:cZ->c3->Prop}
end
section
variable{X:Cx}{ag:List (c4×Obj)}{σ:St}{H:Hp}{s:c3}{a:c4}{y:V}{u:cZ}{A:c6}{E:cZ->c3->Prop}
end
end L2
namespace Mi
open PySem PySem.Spec PyProof.Rows L2
inductive TK where
 |non|int (i:Int)|tup (xs:List TK)
instance:DecidableEq TK:=λ_ _=>Classical.propDecidable _
mutual
def TK.hash:TK->Int
 | .non=>0xFCA86420
 | .int i=>hashInt i
 | .tup xs=>reduceHash (Builtin.Tuple.tupleHashOf (TK.hashes xs))
def TK.hashes:List TK->List Int
 |[]=>[]
 |x::xs=>TK.hash x::TK.hashes xs
end
mutual
def TK.draws:TK->Nat
 | .non=>1
 | .int _=>1
 | .tup xs=>TK.drawsAll xs+1
def TK.drawsAll:List TK->Nat
 |[]=>0
 |x::xs=>TK.draws x+TK.drawsAll xs
end
mutual
def TK.dep:TK->Nat
 | .non=>0
 | .int _=>0
 | .tup xs=>TK.depAll xs+1
def TK.depAll:List TK->Nat
 |[]=>0
 |x::xs=>max (TK.dep x) (TK.depAll xs)
end
theorem TK.dep_mem:∀{xs:List TK} {x:TK},x∈xs->x.dep<=TK.depAll xs
 |y::ys,x,h=>by
  rw[TK.depAll];rcases aE.mp h with e|e
  ·rw[e];exact Nat.le_max_left _ _
  ·exact aC (TK.dep_mem e) (Nat.le_max_right _ _)
theorem TK.hashes_app:∀a b:List TK,TK.hashes (a++b)=TK.hashes a++TK.hashes b
 |[],_=>rfl
 |x::xs,b=>by rw[bt,TK.hashes,TK.hashes,TK.hashes_app xs b];rfl
theorem TK.draws_app:∀a b:List TK,TK.drawsAll (a++b)=TK.drawsAll a+TK.drawsAll b
 |[],_=>by simp[TK.drawsAll]
 |x::xs,b=>by rw[bt,TK.drawsAll,TK.drawsAll,TK.draws_app xs b,bu]
def xt(xs:Array Nat):Prop:=xs.toList.Pairwise (· < ·)
def Ge(m:Nat):Nat->Nat->Nat->List Nat
 |0,_,_=>[]
 |n+1,i,b=>List.range' i (SetTable.runEnd m i-i+1)++Ge m n (SetTable.leap m i b).1 (SetTable.leap m i b).2
def N1(m:Nat):Prop:=m=7\/m=31\/m=127
def Mz(m:Nat)(h:Int):List Nat:=Ge m (SetTable.turns m) (SetTable.bits h%(m+1)) (SetTable.bits h)
def MC(m:Nat)(occ:List Nat)(h:Int)(j:Nat):Prop:=∃pre post,Mz m h=pre++j::post /\ ∀y∈pre,y∈occ
structure MB (es:Array (Int×cZ))(t:SetTable):Prop where
 mks:N1 t.mask
 up:xt t.place
 du:t.dummies = #[]
 sz:t.place.size=es.size
 le:∀j∈t.place.toList,j<=t.mask
 fl:es.size<=t.mask
 rc:∀z∈t.place.toList.zip es.toList,MC t.mask t.place.toList z.2.1 z.1
def stO(es:Array (Int×cZ))(ep:Nat)(t:SetTable):Obj:={cls:=.type "set",dict:=Y,data:=.set es ep t,slots:= #[]}
def LO(a:c4)(xs:List (TK×c4×cZ))(h:df):Prop:=(xs.map (·.1)).Nodup /\ ∃es ep t,h.get? a=Z (stO es ep t)/\MB es t/\t.tooFull=J/\(∀e∈es.toList,∃z∈xs,e=(z.1.hash,.ref z.2.1))/\(∀z∈xs,(z.1.hash,Value.ref z.2.1)∈es.toList)/\es.size=xs.length
inductive D where
 |non|bl (b:Bool)|int (i:Int)|str (x:Str)|tup (xs:List D)|rol (xs:List D)|ref (n:Nat)|fn (x:Str)
inductive Ob where
 |lst (xs:List D)|dct (kvs:List (Key×D))|dcT (kvs:List (TK×D))|iset (xs:List Int)|dcF (kvs:List (TK×D))|tst (ks:List TK)
abbrev dr:=List Ob
abbrev Ev:=List (Option D)
abbrev FE:=Ev->dr->Option (D×dr)
abbrev FT:=Ev->dr->Option (Bool×dr)
abbrev FA:=Ev->dr->Option (List D×dr)
abbrev FN:=List D->dr->Option (D×dr)
inductive Fl where
 |nx|rt (d:D)|bk|ct
abbrev FS:=Ev->dr->Option (Fl×Ev×dr)
def RoL(K:Fg1)(H:Hp)(a:c4)(xs:List V):Prop:=(∃o,H a=Z (.frz o (.lst xs))) \/
 ∃(o:Obj) (its:Array cZ) (n:Nat),K.lookup a=Z o/\o.cls = .type "list"/\o.dict=Y/\o.data = .seq its n/\its.size<=da/\d5 xs its.toList
theorem RoL.sq{K:Fg1}{H:Hp}{a:c4}{xs:List V}(h:RoL K H a xs):mY K H a xs:=h.elim (λ⟨o,q⟩=>.inl (.inr ⟨o,q⟩)) .inr
mutual
inductive eQ (K:Fg1)(H:Hp)(mu:List c4):D->V->Prop
 |non:eQ K H mu .non .non
 |bl (b:Bool):eQ K H mu (.bl b) (.bl b)
 |int (i:Int):eQ K H mu (.int i) (.int i)
 |str (x:Str):eQ K H mu (.str x) (.str x)
 |tup {ds:List D} {vs:List V} {a:c4} (h:kP K H a vs) (r:dI K H mu ds vs):eQ K H mu (.tup ds) (.ref a)
 |rol {ds:List D} {vs:List V} {a:c4} (h:RoL K H a vs) (r:dI K H mu ds vs):eQ K H mu (.rol ds) (.ref a)
 |ref {n:Nat} {a:c4} (h:mu[n]?=some a):eQ K H mu (.ref n) (.ref a)
 |fn {x:Str} {a:c4} (h:wN1 K c8 x=some (some (.ref a))):eQ K H mu (.fn x) (.ref a)
inductive dI (K:Fg1)(H:Hp)(mu:List c4):List D->List V->Prop
 |nil:dI K H mu [] []
 |cons {d:D} {v:V} {ds:List D} {vs:List V} (r:eQ K H mu d v) (t:dI K H mu ds vs):dI K H mu (d::ds) (v::vs)
end
structure Ext (mu mu':List c4)(H H':Hp):Prop where
 pre:mu <+: mu'
 old:∀a o,H a=some o->a∉mu->H' a=some o
 tup:∀a xs,Rd H a (.tup xs)->Rd H' a (.tup xs)
 frz:∀a o u,H a=some (.frz o u)->H' a=some (.frz o u)
 new:∀a∈mu',a∈mu\/H a=none
theorem Ext.refl(mu:List c4)(H:Hp):Ext mu mu H H:=⟨bv,λ_ _ h _=>h,λ_ _ h=>h,λ_ _ _ h=>h,λ_ h=>.inl h⟩
theorem Ext.trans{mu m1 m2:List c4}{H H1 H2:Hp}(a:Ext mu m1 H H1)(b:Ext m1 m2 H1 H2):Ext mu m2 H H2 where
 pre:=a.pre.trans b.pre
 old:=λc o h n=>b.old c o (a.old c o h n) λz=>by
  rcases a.new c z with q|q
  ·exact n q
  ·rw[h]at q;cases q
 tup:=λc xs h=>b.tup c xs (a.tup c xs h)
 frz:=λc o u h=>b.frz c o u (a.frz c o u h)
 new:=λc h=>by
  rcases b.new c h with q|q
  ·exact a.new c q
  ·by_cases z:c∈mu
   ·exact .inl z
   ·right;cases e:H c with
    |none=>rfl
    |some o=>rw[a.old c o e z]at q;cases q
theorem Ext.at{mu mu':List c4}{H H':Hp}(e:Ext mu mu' H H'){n:Nat}{a:c4}(h:mu[n]?=Z a):mu'[n]?=Z a:=by
 obtain⟨t,rfl⟩:=e.pre;have b:n<mu.length:=(gE1.mp h).1;rw[gL1 b];exact h
theorem Ext.back{mu mu':List c4}{H H':Hp}(e:Ext mu mu' H H'):Ext mu mu H H':=⟨bv,e.old,e.tup,e.frz,λ_ h=>.inl h⟩
structure uh (mu mu':List c4)(H H':Hp):Prop where
 pre:mu <+: mu'
 tup:∀a xs,Rd H a (.tup xs)->Rd H' a (.tup xs)
 frz:∀a o u,H a=some (.frz o u)->H' a=some (.frz o u)
theorem Ext.w{mu mu':List c4}{H H':Hp}(e:Ext mu mu' H H'):uh mu mu' H H':=⟨e.pre,e.tup,e.frz⟩
theorem uh.trans{mu m1 m2:List c4}{H H1 H2:Hp}(a:uh mu m1 H H1)(b:uh m1 m2 H1 H2):uh mu m2 H H2:=⟨a.pre.trans b.pre,λc xs h=>b.tup c xs (a.tup c xs h),λc o u h=>b.frz c o u (a.frz c o u h)⟩
theorem uh.at{mu mu':List c4}{H H':Hp}(e:uh mu mu' H H'){n:Nat}{a:c4}(h:mu[n]?=Z a):mu'[n]?=Z a:=by
 obtain⟨t,rfl⟩:=e.pre;have b:n<mu.length:=(gE1.mp h).1;rw[gL1 b];exact h
structure GD (mu mu':List c4)(H H':Hp):Prop where
 pre:mu <+: mu'
 tup:∀a xs,Rd H a (.tup xs)->Rd H' a (.tup xs)
 frl:∀a o xs,H a=some (.frz o (.lst xs))->H' a=some (.frz o (.lst xs))
theorem uh.v{mu mu':List c4}{H H':Hp}(e:uh mu mu' H H'):GD mu mu' H H':=⟨e.pre,e.tup,λa o xs h=>e.frz a o _ h⟩
theorem Ext.v{mu mu':List c4}{H H':Hp}(e:Ext mu mu' H H'):GD mu mu' H H':=e.w.v
theorem GD.at{mu mu':List c4}{H H':Hp}(e:GD mu mu' H H'){n:Nat}{a:c4}(h:mu[n]?=Z a):mu'[n]?=Z a:=by
 obtain⟨t,rfl⟩:=e.pre;have b:n<mu.length:=(gE1.mp h).1;rw[gL1 b];exact h
theorem kP.exv{K:Fg1}{mu mu':List c4}{H H':Hp}{a:c4}{vs:List V}(e:GD mu mu' H H')(h:kP K H a vs):kP K H' a vs:=by
 rcases h with h|h
 ·exact .inl (e.tup a vs h)
 ·exact .inr h
theorem RoL.exv{K:Fg1}{mu mu':List c4}{H H':Hp}{a:c4}{vs:List V}(e:GD mu mu' H H')(h:RoL K H a vs):RoL K H' a vs:=by
 rcases h with⟨o,h⟩|h
 ·exact .inl ⟨o,e.frl a o _ h⟩
 ·exact .inr h
theorem eQ.exv{K:Fg1}{mu mu':List c4}{H H':Hp}(e:GD mu mu' H H'):∀ {d:D} {v:V},eQ K H mu d v->eQ K H' mu' d v:=fun h=>h.rec (motive_1:=fun d v _=>eQ K H' mu' d v) (motive_2:=fun ds vs _=>dI K H' mu' ds vs)
  .non .bl .int .str (λh _ ih=>.tup (kP.exv e h) ih) (λh _ ih=>.rol (RoL.exv e h) ih) (λh=>.ref (e.at h)) (λh=>.fn h) .nil (λ_ _ a b=>.cons a b)
theorem dI.ind{K:Fg1}{mu:List c4}{H:Hp}{P:(ds:List D)->(vs:List V)->dI K H mu ds vs->Prop}(hn:P [] [] .nil)(hc:∀{d v ds vs} (r:eQ K H mu d v) (t:dI K H mu ds vs),P ds vs t->P (d::ds) (v::vs) (.cons r t)){ds:List D}{vs:List V}(h:dI K H mu ds vs):P ds vs h:=
 h.rec (motive_1:=λ_ _ _=>True) (motive_2:=P) trivial (λ_=>trivial) (λ_=>trivial) (λ_=>trivial) (λ_ _ _=>trivial) (λ_ _ _=>trivial) (λ_=>trivial) (λ_=>trivial) hn (λr t _ ih=>hc r t ih)
theorem dI.exv{K:Fg1}{mu mu':List c4}{H H':Hp}(e:GD mu mu' H H'):∀{ds:List D} {vs:List V},dI K H mu ds vs->dI K H' mu' ds vs:=λh=>h.ind (P:=λds vs _=>dI K H' mu' ds vs) .nil λr _ ih=>.cons (eQ.exv e r) ih
section
variable{K:Fg1}{mu mu':List c4}{H H':Hp}{a:c4}{vs:List V}
theorem eQ.exw(e:uh mu mu' H H'){d:D}{v:V}(h:eQ K H mu d v):eQ K H' mu' d v:=h.exv e.v
theorem dI.exw(e:uh mu mu' H H'){ds:List D}(h:dI K H mu ds vs):dI K H' mu' ds vs:=h.exv e.v
theorem eQ.ext(e:Ext mu mu' H H'){d:D}{v:V}(h:eQ K H mu d v):eQ K H' mu' d v:=h.exv e.v
theorem dI.ext(e:Ext mu mu' H H'){ds:List D}(h:dI K H mu ds vs):dI K H' mu' ds vs:=h.exv e.v
end
section
variable{K:Fg1}{H:Hp}{mu:List c4}
theorem dI.length:∀{ds:List D} {vs:List V},dI K H mu ds vs->ds.length=vs.length:=λh=>h.ind (P:=λds vs _=>ds.length=vs.length) O λ_ _ ih=>congrArg (· + 1) ih
theorem dI.get:∀{ds:List D} {vs:List V} {i:Nat} {d:D},dI K H mu ds vs->ds[i]?=Z d -> ∃v,vs[i]?=Z v/\eQ K H mu d v:=by
 intro ds vs i d h e
 induction h using dI.ind generalizing i with
 |hn=>cases e
 |hc r t ih=>cases i with
  |zero=>cases e;exact⟨_,O,r⟩
  |succ i=>exact ih (i:=i) e
theorem dI.getV:∀{ds:List D} {vs:List V} {i:Nat} {v:V},dI K H mu ds vs->vs[i]?=Z v -> ∃d,ds[i]?=Z d/\eQ K H mu d v:=by
 intro ds vs i d h e
 induction h using dI.ind generalizing i with
 |hn=>cases e
 |hc r t ih=>cases i with
  |zero=>cases e;exact⟨_,O,r⟩
  |succ i=>exact ih (i:=i) e
theorem dI.append:∀{ds es:List D} {vs ws:List V},dI K H mu ds vs->dI K H mu es ws->dI K H mu (ds++es) (vs++ws):=λh s=>h.ind (P:=λds vs _=>dI K H mu (ds++_) (vs++_)) s λr _ ih=>.cons r ih
theorem dI.take:∀{ds:List D} {vs:List V} (n:Nat),dI K H mu ds vs->dI K H mu (ds.take n) (vs.take n):=by
 intro ds vs n h
 induction h using dI.ind generalizing n with
 |hn=>rw[av,av];exact .nil
 |hc r t ih=>cases n with
  |zero=>exact .nil
  |succ n=>exact .cons r (ih n)
theorem dI.drop:∀{ds:List D} {vs:List V} (n:Nat),dI K H mu ds vs->dI K H mu (ds.drop n) (vs.drop n):=by
 intro ds vs n h
 induction h using dI.ind generalizing n with
 |hn=>rw[aw,aw];exact .nil
 |hc r t ih=>cases n with
  |zero=>exact .cons r t
  |succ n=>exact ih n
theorem dI.set{d:D}{v:V}(r:eQ K H mu d v):∀{ds:List D} {vs:List V} (i:Nat),dI K H mu ds vs->dI K H mu (ds.set i d) (vs.set i v):=by
 intro ds vs i h
 induction h using dI.ind generalizing i with
 |hn=>exact .nil
 |hc q t ih=>cases i with
  |zero=>exact .cons r t
  |succ i=>exact .cons q (ih i)
theorem dI.eraseIdx:∀{ds:List D} {vs:List V} (i:Nat),dI K H mu ds vs->dI K H mu (ds.eraseIdx i) (vs.eraseIdx i):=by
 intro ds vs i h
 induction h using dI.ind generalizing i with
 |hn=>exact .nil
 |hc q t ih=>cases i with
  |zero=>exact t
  |succ i=>exact .cons q (ih i)
theorem dI.reverse:∀{ds:List D} {vs:List V},dI K H mu ds vs->dI K H mu ds.reverse vs.reverse:=by
 intro ds vs h
 induction h using dI.ind with
 |hn=>exact .nil
 |hc r t ih=>rw[aY,aY];exact dI.append ih (.cons r .nil)
end
def KR{κ:Type}(K:Fg1)(H:Hp)(mu:List c4):List (κ×D)->List (κ×V)->Prop:=Paired λp q=>p.1=q.1/\eQ K H mu p.2 q.2
mutual
def tkD:TK->D
 | .non=>.non
 | .int i=>.int i
 | .tup xs=>.tup (lK xs)
def lK:List TK->List D
 |[]=>[]
 |x::xs=>tkD x::lK xs
end
def iW(a:c4)(xs:List (TK×c4×cZ))(h:df):Prop:=(a == sysModules)=J/\(xs.map (·.1)).Nodup /\ ∃o es ep,h.get? a=Z o/\o.ExactDict/\o.data = .dict es ep/\es.toList=xs.map λx=>(⟨x.1.hash,.ref x.2.1,x.2.2⟩:DictEntry)
def GE(a:c4)(xs:List (TK×c4×cZ))(o:Obj):Prop:=(a == sysModules)=J/\(xs.map (·.1)).Nodup/\o.ExactDict /\ ∃es ep,o.data = .dict es ep/\es.toList=xs.map λx=>(⟨x.1.hash,.ref x.2.1,x.2.2⟩:DictEntry)
def KT(K:Fg1)(H:Hp)(mu:List c4):List (TK×D)->List (TK×c4×cZ)->Prop:=Paired λp q=>p.1=q.1/\p.1.dep<=8/\eQ K H mu (tkD p.1) (.ref q.2.1) /\ ∃v,dS v q.2.2/\eQ K H mu p.2 v
def qs(K:Fg1)(H:Hp)(mu:List c4)(a:c4):Ob->Prop
 | .lst ds=>∃vs,H a=Z (.lst vs)/\dI K H mu ds vs
 | .dct kvs=>∃ws,H a=Z (.dK ws)/\KR K H mu kvs ws
 | .dcT kvs=>∃xs,H a=Z (.ext (iW a xs))/\KT K H mu kvs xs/\xs.length<=da
 | .iset xs=>H a=Z (.set (λk=>xs.contains k) xs.length)/\xs.Nodup
 | .dcF kvs=>∃xs,(∃o u,H a=Z (.frz o u)/\GE a xs o)/\KT K H mu kvs xs/\xs.length<=da
 | .tst ks=>∃xs,H a=Z (.ext (LO a xs))/\KT K H mu (ks.map λk=>(k,D.non)) xs
structure Sim (K:Fg1)(H:Hp)(mu:List c4)(S:dr):Prop where
 len:mu.length=S.length
 nd:mu.Nodup
 ob:∀(n:Nat) (o:Ob) (a:c4),S[n]?=some o->mu[n]?=some a->qs K H mu a o
structure fH (K:Fg1)(H:Hp)(mu:List c4)(r:Ev)(σ:L2.St):Prop where
 len:r.length=σ.length
 val:∀(i:Nat) (d:D),r[i]?=some (some d) -> ∃v,σ[i]?=some (some v)/\eQ K H mu d v
theorem fH.ext{K:Fg1}{mu mu':List c4}{H H':Hp}{r:Ev}{σ:L2.St}(e:Ext mu mu' H H')(h:fH K H mu r σ):fH K H' mu' r σ:=⟨h.len,λi d q=>by
 obtain⟨v,a,b⟩:=h.val i d q;exact⟨v,a,b.ext e⟩⟩
theorem KR.ext{κ:Type}{K:Fg1}{mu mu':List c4}{H H':Hp}{ks:List (κ×D)}{ws:List (κ×V)}(e:Ext mu mu' H H')(h:KR K H mu ks ws):KR K H' mu' ks ws:=
 Paired.mapP h λ_ _ z=>⟨z.1,z.2.ext e⟩
theorem KT.ext{K:Fg1}{mu mu':List c4}{H H':Hp}{ks:List (TK×D)}{ws:List (TK×c4×cZ)}(e:Ext mu mu' H H')(h:KT K H mu ks ws):KT K H' mu' ks ws:=
 Paired.mapP h λ_ _ ⟨z,d,k,v,a,r⟩=>⟨z,d,k.ext e,v,a,r.ext e⟩
theorem Sim.nil{K:Fg1}{H:Hp}:Sim K H [] []:=⟨O,bA,λn o a h=>by simp at h⟩
theorem Sim.here{K:Fg1}{H:Hp}{mu:List c4}{S:dr}(s:Sim K H mu S){a:c4}(h:a∈mu):∃o,H a=Z o:=by
 obtain⟨n,b⟩:=bB h;have c:n<S.length:=by rw[<- s.len];exact(gE1.mp b).1
 have q:=s.ob n _ a (gG1 c) b;cases e:S[n]with
 |lst ds=>rw[e]at q;obtain⟨vs,z,_⟩:=q;exact⟨_,z⟩
 |dct ks=>rw[e]at q;obtain⟨vs,z,_⟩:=q;exact⟨_,z⟩
 |dcT ks=>rw[e]at q;obtain⟨vs,z,_⟩:=q;exact⟨_,z⟩
 |iset xs=>rw[e]at q;exact⟨_,q.1⟩
 |dcF ks=>rw[e]at q;obtain⟨vs,⟨_,_,z,_⟩,_⟩:=q;exact⟨_,z⟩
 |tst ks=>rw[e]at q;obtain⟨vs,z,_⟩:=q;exact⟨_,z⟩
def ue(K:Fg1)(mu:List c4)(H:Hp)(d:D)(S':dr)(Q:VK):Prop:=∀v H' mu',Ext mu mu' H H'->eQ K H' mu' d v->Sim K H' mu' S'->Q v H'
inductive tM (K:Fg1)(m:FE)(σ:L2.St)(H:Hp)(Q:VK):Prop
 |mk (r:Ev) (mu:List c4) (S:dr) (d:D) (S':dr) (he:fH K H mu r σ) (hs:Sim K H mu S) (hm:m r S=some (d,S')) (hc:ue K mu H d S' Q)
inductive DJ (K:Fg1)(m:FT)(σ:L2.St)(H:Hp)(Q:Bool->Hp->Prop):Prop
 |mk (r:Ev) (mu:List c4) (S:dr) (b:Bool) (S':dr) (he:fH K H mu r σ) (hs:Sim K H mu S) (hm:m r S=some (b,S')) (hc:∀H' mu',Ext mu mu' H H'->Sim K H' mu' S'->Q b H')
inductive Nu (K:Fg1)(m:FA)(σ:L2.St)(H:Hp)(Q:List V->Hp->Prop):Prop
 |mk (r:Ev) (mu:List c4) (S:dr) (ds:List D) (S':dr) (he:fH K H mu r σ) (hs:Sim K H mu S) (hm:m r S=some (ds,S')) (hc:∀vs H' mu',Ext mu mu' H H'->dI K H' mu' ds vs->Sim K H' mu' S'->Q vs H')
def Mq(K:Fg1)(mu:List c4)(H:Hp)(r':Ev)(S':dr)(E:kl)(f:Fl):Prop:=match f with
 | .nx=>∀ σ' H' mu',Ext mu mu' H H'->fH K H' mu' r' σ'->Sim K H' mu' S'->E.nx σ' H'
 | .bk=>∀ σ' H' mu',Ext mu mu' H H'->fH K H' mu' r' σ'->Sim K H' mu' S'->E.bk σ' H'
 | .ct=>∀ σ' H' mu',Ext mu mu' H H'->fH K H' mu' r' σ'->Sim K H' mu' S'->E.ct σ' H'
 | .rt d=>ue K mu H d S' E.rt
inductive xL (K:Fg1)(m:FS)(E:kl)(σ:L2.St)(H:Hp):Prop
 |mk (r:Ev) (mu:List c4) (S:dr) (f:Fl) (r':Ev) (S':dr) (he:fH K H mu r σ) (hs:Sim K H mu S) (hm:m r S=some (f,r',S')) (hc:Mq K mu H r' S' E f)
inductive rN (K:Fg1)(f:FN)(vs:List V)(H:Hp)(Q:VK):Prop
 |mk (mu:List c4) (S:dr) (ds:List D) (d:D) (S':dr) (hr:dI K H mu ds vs) (hs:Sim K H mu S) (hm:f ds S=some (d,S')) (hc:ue K mu H d S' Q)
abbrev ME(X:Cx)(e:Expr)(m:FE):Prop:=PE X e (tM X.K m)
abbrev MT(X:Cx)(e:Expr)(m:FT):Prop:=PT X e (DJ X.K m)
abbrev MW(X:Cx)(e:Expr)(m:FT):Prop:=PW X e (DJ X.K m)
abbrev MA(X:Cx)(es:List Expr)(m:FA):Prop:=PA X es (Nu X.K m)
abbrev MS(X:Cx)(st:di)(m:FS):Prop:=PS X st (xL X.K m)
abbrev Am(X:Cx)(st:List di)(m:FS):Prop:=vY X st (xL X.K m)
section
variable{X:Cx}{e:Expr}{es:List Expr}{st:di}{sts:List di}
theorem eP{t t':TE}(h:PE X e t)(i:∀ σ H Q,t' σ H Q->t σ H Q):PE X e t':=λag s σ H Q I q=>h ag s σ H Q I (i σ H Q q)
theorem ww{t t':TT}(h:PT X e t)(i:∀ σ H Q,t' σ H Q->t σ H Q):PT X e t':=λag s σ H Q I q=>h ag s σ H Q I (i σ H Q q)
theorem Bh{t t':TT}(h:PW X e t)(i:∀ σ H Q,t' σ H Q->t σ H Q):PW X e t':=λa ag s σ H Q I q=>h a ag s σ H Q I (i σ H Q q)
theorem BG{t t':TA}(h:PA X es t)(i:∀ σ H Q,t' σ H Q->t σ H Q):PA X es t':=λpos ag s σ H Q I q=>h pos ag s σ H Q I (i σ H Q q)
theorem iI{t t':TS}(h:PS X st t)(i:∀E σ H,t' E σ H->t E σ H):PS X st t':=λag s σ H E I q=>h ag s σ H E I (i E σ H q)
theorem sP{t t':TS}(h:vY X sts t)(i:∀E σ H,t' E σ H->t E σ H):vY X sts t':=λag s σ H E I q=>h ag s σ H E I (i E σ H q)
end
noncomputable def mV (i:Nat):FE:=λr S=>match r[i]? with
 |some (some d)=>some (d,S)
 |_=>none
noncomputable def mC (d:D):FE:=λ_ S=>some (d,S)
section
variable{X:Cx}{pos:Pos}
theorem Iw (i:Nat){x:Str}(hN:X.N[i]?=Z x)(hv:Vis X.env.scope x)(hd:(x == ("__debug__":Str))=J:=by decide)(hcd:(x == ("__classdict__":Str))=J:=by decide):ME X (.Name x pos) (mV i):=
 eP (Hu hN hv hd hcd) <| by
  rintro σ H Q ⟨r,mu,S,d,h,g,b,a,hc⟩;unfold mV at a;split at a
  ·rename_i j e;cases a;obtain⟨v,c,f⟩:=g.val i _ e;exact⟨v,c,hc v H mu (.refl _ _) f b⟩
  ·cases a
theorem B9{e:Expr}{v:V}(d:D)(h:PE X e (tC v))(hr:∀H mu,eQ X.K H mu d v):ME X e (mC d):=
 eP h <| by
  rintro σ H Q ⟨r,mu,S,c,g,f,a,b,hc⟩;cases b;exact hc v H mu (.refl _ _) (hr H mu) a
theorem IE{i:Int}{j}:ME X (.Constant (.int i) j pos) (mC (.int i)):=B9 _ HB λ_ _=>.int i
theorem K1{b:Bool}{j}:ME X (.Constant (.bool b) j pos) (mC (.bl b)):=B9 _ KA λ_ _=>.bl b
theorem IC{j}:ME X (.Constant .none j pos) (mC .non):=B9 _ Hz λ_ _=>.non
theorem Iy{x:Str}{j}:ME X (.Constant (.str x) j pos) (mC (.str x)):=B9 _ Hw λ_ _=>.str x
end
def dq:FA:=λ_ S=>Z ([],S)
noncomputable def dn (m:FE)(n:FA):FA:=λr S=>(m r S).bind λp=>(n r p.2).bind λq=>some (p.1::q.1,q.2)
section
variable{X:Cx}{pos:Pos}{e:Expr}{es:List Expr}{m:FE}{n:FA}
theorem IH:MA X [] dq:=BG ph <| by
 rintro σ H Q ⟨r,mu,S,ds,d,c,b,a,hc⟩;cases a;exact hc [] H mu (.refl _ _) .nil b
theorem EI(h:ME X e m)(ht:MA X es n)(hs:c9 (e::es) X.env=(J,eval e X.env)::c9 es X.env:=by rfl):MA X (e::es) (dn m n):=
 BG (kC h ht hs) <| by
  rintro σ H Q ⟨r,mu,S,ds,s,f,hs,a,hc⟩;unfold dn at a;obtain⟨⟨d,i⟩,k,a⟩:=oB1.mp a;obtain⟨⟨b,q⟩,j,a⟩:=oB1.mp a;cases a;refine⟨r,mu,S,d,i,f,hs,k,λv H1 mu1 g l o=>?_⟩;refine⟨r,mu1,i,b,_,f.ext g,o,j,λvs H2 c x2 r2 p=>?_⟩;exact hc _ H2 c (g.trans x2) (.cons (l.ext x2) r2) p
end
noncomputable def m2 (f:FN)(a b:FE):FE:=λr S=>(a r S).bind λp=>(b r p.2).bind λq=>f [p.1,q.1] q.2
noncomputable def m1 (f:FN)(a:FE):FE:=λr S=>(a r S).bind λp=>f [p.1] p.2
noncomputable def mN (f:FN)(a:FA):FE:=λr S=>(a r S).bind λp=>f p.1 p.2
abbrev r2(K:Fg1)(f:FN):R2:=λx y H Q=>rN K f [x,y] H Q
section
variable{X:Cx}{K:Fg1}{f:FN}{a b:FE}{σ:L2.St}{H:Hp}{Q:VK}
theorem yc(h:tM K (m2 f a b) σ H Q):J9 (r2 K f) (tM K a) (tM K b) σ H Q:=by
 obtain⟨r,mu,S,d,t,m,x,c,hc⟩:=h;obtain⟨⟨k,l⟩,o,c⟩:=oB1.mp c;obtain⟨⟨j,i⟩,z,c⟩:=oB1.mp c;refine⟨r,mu,S,k,l,m,x,o,λv H1 mu1 n s p=>?_⟩;refine⟨r,mu1,l,j,i,m.ext n,p,z,λu H2 e x2 r2 w=>?_⟩;exact⟨e,i,[k,j],d,t,.cons (s.ext x2) (.cons r2 .nil),w,c,λv B g A q y=>hc v B g ((n.trans x2).trans A) q y⟩
theorem K3(h:tM K (m1 f a) σ H Q):Nt (λx H Q=>rN K f [x] H Q) (tM K a) σ H Q:=by
 obtain⟨r,mu,S,d,m,o,j,b,hc⟩:=h;obtain⟨⟨e,g⟩,k,b⟩:=oB1.mp b;refine⟨r,mu,S,e,g,o,j,k,λv H1 mu1 q l n=>?_⟩;exact⟨mu1,g,[e],d,m,.cons l .nil,n,b,λv t c p i s=>hc v t c (q.trans p) i s⟩
theorem Cd{a:FA}(h:tM K (mN f a) σ H Q):Nu K a σ H λvs H1=>rN K f vs H1 Q:=by
 obtain⟨r,mu,S,d,m,o,j,b,hc⟩:=h;obtain⟨⟨e,g⟩,k,b⟩:=oB1.mp b;refine⟨r,mu,S,e,g,o,j,k,λv H1 mu1 q l n=>?_⟩;exact⟨mu1,g,e,d,m,l,n,b,λv t c p i s=>hc v t c (q.trans p) i s⟩
theorem KX{op:Operator}{x y:Expr}{pos:Pos}(ho:fQ X (binaryOp op) (r2 X.K f))(hx:ME X x a)(hy:ME X y b):ME X (.BinOp x op y pos) (m2 f a b):=eP (Kw ho hx hy) λ_ _ _=>yc
theorem KW{op:UnaryOp}{x:Expr}{pos:Pos}(ho:JO X (unaryOp op) (λx H Q=>rN X.K f [x] H Q))(hx:ME X x a):ME X (.UnaryOp op x pos) (m1 f a):=eP (Kv ho hx) λ_ _ _=>K3
theorem IF{op:CmpOp}{x y:Expr}{pos:Pos}(ho:fQ X (compareOp op) (r2 X.K f))(hx:ME X x a)(hy:ME X y b)(hm:behindInMarks op y=J):ME X (.Compare x [op] [y] pos) (m2 f a b):=eP (Eg ho hx hy hm) λ_ _ _=>yc
theorem KY{x y:Expr}{pos:Pos}(ho:GC X (r2 X.K f))(hx:ME X x a)(hy:ME X y b)(hs:oz y):ME X (.Subscript x y pos) (m2 f a b):=eP (Kx ho hx hy hs) λ_ _ _=>yc
theorem B8 {x:Str}{p pos:Pos}{e:Expr}{es:List Expr}{id:String}{a:FA}(hc:eN X (.builtin id) (rN X.K f))(hg:Gl X x)(hm:X.mg x=none)(hv:bootBuiltins x=some (.builtin id))(ha:MA X (e::es) a)(hn:x≠"__name__":=by decide)(hdb:(x == ("__debug__":Str))=false:=by decide)
  (he:c9 (e::es) X.env=(J,eval e X.env)::c9 es X.env:=by rfl) (hpl:(backTo pos (c9 es X.env)).any (·.1)=J:=by rfl):ME X (.Call (.Name x p) (e::es) [] pos) (mN f a):=
 eP (pc hc hg hm hv ha hn hdb he hpl) λ_ _ _=>Cd
theorem zy {x:Str}{p pos:Pos}{e:Expr}{es:List Expr}{T:String}{a:FA}(hc:eN X (.type T) (rN X.K f))(hg:Gl X x)(hm:X.mg x=none)(hv:bootBuiltins x=some (.type T))(ha:MA X (e::es) a)(hn:x≠"__name__":=by decide)(hdb:(x == ("__debug__":Str))=false:=by decide)
  (he:c9 (e::es) X.env=(J,eval e X.env)::c9 es X.env:=by rfl) (hpl:(backTo pos (c9 es X.env)).any (·.1)=J:=by rfl):ME X (.Call (.Name x p) (e::es) [] pos) (mN f a):=
 eP (mD hc hg hm hv ha hn hdb he hpl) λ_ _ _=>Cd
end
noncomputable def mB (m:FE):FT:=λr S=>(m r S).bind λp=>match p.1 with
 | .bl b=>some (b,p.2)
 |_=>none
theorem K2{K:Fg1}{m:FE}{σ:L2.St}{H:Hp}{Q:Bool->Hp->Prop}(h:DJ K (mB m) σ H Q):tB (tM K m) σ H Q:=by
 obtain⟨r,mu,S,b,l,i,c,a,hc⟩:=h;obtain⟨⟨g,n⟩,d,a⟩:=oB1.mp a;cases g with
 |bl k=>
  cases a;refine⟨r,mu,S,_,_,i,c,d,λv H1 mu1 j e f=>?_⟩;cases e;exact⟨_,O,hc H1 mu1 j f⟩
 |_=>cases a
def mI(a b:FT):FT:=λr S=>(a r S).bind λp=>if p.1=M then b r p.2 else Z (J,p.2)
def wP(a b:FT):FT:=λr S=>(a r S).bind λp=>if p.1=M then Z (M,p.2)else b r p.2
def iz(a:FT):FT:=λr S=>(a r S).bind λp=>Z (!p.1,p.2)
def gv(a b:FE):FE:=λr S=>(a r S).bind λp=>match p.1 with
 | .bl c=>if c=M then b r p.2 else Z (.bl J,p.2)
 |_=>Y
def Ol(a b:FE):FE:=λr S=>(a r S).bind λp=>match p.1 with
 | .bl c=>if c=M then Z (.bl M,p.2)else b r p.2
 |_=>Y
def pv(a:FE):FE:=λr S=>(a r S).bind λp=>match p.1 with
 | .bl c=>Z (.bl (!c),p.2)
 |_=>Y
def u8(c:FT)(a b:FE):FE:=λr S=>(c r S).bind λp=>if p.1=M then a r p.2 else b r p.2
section
variable{X:Cx}{x y c:Expr}{rest:List Expr}{pos:Pos}{a b:FT}{f g:FE}
theorem Ie{op:CmpOp}{f:FN}{a b:FE}(ho:fQ X (compareOp op) (r2 X.K f))(hx:ME X x a)(hy:ME X y b)(hm:behindInMarks op y=J):MT X (.Compare x [op] [y] pos) (mB (m2 f a b)):=
 ww (D0 ho hx hy hm) fun σ H Q h=>by
  obtain⟨r,mu,S,d,g,j,c,hm,hc⟩:=K2 h;exact yc ⟨r,mu,S,d,g,j,c,hm,λv H' mu' k e i=>hc v H' mu' k e i⟩
theorem Es(ha:MT X x a):MW X (.BoolOp .And [x] pos) a:=DY ha
theorem Ia(ha:MT X x a):MW X (.BoolOp .Or [x] pos) a:=Hc ha
theorem Ib(ha:MT X x a)(hb:MW X (.BoolOp .And (y::rest) pos) b):MW X (.BoolOp .And (x::y::rest) pos) (mI a b):=
 Bh (Hd ha hb) <| by
  rintro σ H Q ⟨r,mu,S,k,l,f,i,c,hc⟩;obtain⟨⟨b1,h⟩,j,c⟩:=oB1.mp c;refine⟨r,mu,S,b1,h,f,i,j,λH1 mu1 d g=>?_⟩;cases b1 with
  |true=>exact⟨r,mu1,h,k,l,f.ext d,g,c,λH2 e x2 m=>hc H2 e (d.trans x2) m⟩
  |false=>cases c;exact hc H1 mu1 d g
theorem KQ(ha:MT X x a)(hb:MW X (.BoolOp .Or (y::rest) pos) b):MW X (.BoolOp .Or (x::y::rest) pos) (wP a b):=
 Bh (Kr ha hb) <| by
  rintro σ H Q ⟨r,mu,S,k,l,f,i,c,hc⟩;obtain⟨⟨b1,h⟩,j,c⟩:=oB1.mp c;refine⟨r,mu,S,b1,h,f,i,j,λH1 mu1 d g=>?_⟩;cases b1 with
  |false=>exact⟨r,mu1,h,k,l,f.ext d,g,c,λH2 e x2 m=>hc H2 e (d.trans x2) m⟩
  |true=>cases c;exact hc H1 mu1 d g
theorem MR(h:MW X x a):MT X x a:=PW.pt h
theorem Ic(ha:MT X x a):MT X (.UnaryOp .Not x pos) (iz a):=
 ww (Hg ha) <| by
  rintro σ H Q ⟨r,mu,S,k,i,e,c,b,hc⟩;obtain⟨⟨b1,h⟩,d,b⟩:=oB1.mp b;cases b;exact⟨r,mu,S,b1,h,e,c,d,λH1 mu1 g f=>hc H1 mu1 g f⟩
theorem IA{op}(h:ME X x f):ME X (.BoolOp op [x] pos) f:=Hx h
theorem IG(ha:ME X x f)(hb:ME X (.BoolOp .And (y::rest) pos) g):ME X (.BoolOp .And (x::y::rest) pos) (gv f g):=
 eP (HD ha hb) <| by
  rintro σ H Q ⟨r,mu,S,k,o,h,l,a,hc⟩;obtain⟨⟨e,i⟩,m,a⟩:=oB1.mp a;refine⟨r,mu,S,e,i,h,l,m,λv H1 mu1 b n d=>?_⟩;cases e with
  |bl b1=>
   cases n;refine⟨b1,O,?_⟩;cases b1 with
   |true=>exact⟨r,mu1,i,k,o,h.ext b,d,a,λj H2 c x2 r2 p=>hc j H2 c (b.trans x2) r2 p⟩
   |false=>cases a;exact hc _ H1 mu1 b (.bl J) d
  |_=>cases a
theorem IB(ha:ME X x f):ME X (.UnaryOp .Not x pos) (pv f):=
 eP (Hy ha) <| by
  rintro σ H Q ⟨r,mu,S,k,l,h,c,a,hc⟩;obtain⟨⟨b,j⟩,d,a⟩:=oB1.mp a;refine⟨r,mu,S,b,j,h,c,d,λv H1 mu1 i e g=>?_⟩;cases b with
  |bl b1=>
   cases e;cases a;exact⟨b1,O,hc _ H1 mu1 i (.bl _) g⟩
  |_=>cases a
theorem KZ(hc:MT X c a)(hx:ME X x f)(hy:ME X y g):ME X (.IfExp c x y pos) (u8 a f g):=
 eP (Bz hc hx hy) <| by
  rintro σ H Q ⟨r,mu,S,k,m,i,o,d,hc⟩;obtain⟨⟨b1,j⟩,p,d⟩:=oB1.mp d;refine⟨r,mu,S,b1,j,i,o,p,λH1 mu1 e n=>?_⟩;cases b1 with
  |true=>exact⟨r,mu1,j,k,m,i.ext e,n,d,λh H2 b x2 r2 l=>hc h H2 b (e.trans x2) r2 l⟩
  |false=>exact⟨r,mu1,j,k,m,i.ext e,n,d,λh H2 b x2 r2 l=>hc h H2 b (e.trans x2) r2 l⟩
end
def EL(f g:FN)(a b c:FE):FE:=λr S=>(a r S).bind λp=>(b r p.2).bind λq=>(f [p.1,q.1] q.2).bind λt=>match t.1 with
 | .bl k=>if k=M then(c r t.2).bind λz=>g [q.1,z.1] z.2 else Z (.bl J,t.2)
 |_=>Y
section
variable{X:Cx}{x y z:Expr}{pos:Pos}{f g:FN}{a b c:FE}{op op':CmpOp}
theorem II{K:Fg1}{σ:L2.St}{H:Hp}{Q:VK}(h:tM K (EL f g a b c) σ H Q):AV (r2 K f) (r2 K g) (tM K a) (tM K b) (tM K c) σ H Q:=by
 obtain⟨r,mu,S,d,L,q,P,e,hc⟩:=h;obtain⟨⟨w,z⟩,B,e⟩:=oB1.mp e;obtain⟨⟨n,s⟩,U,e⟩:=oB1.mp e;obtain⟨⟨t,A⟩,au,e⟩:=oB1.mp e;refine⟨r,mu,S,w,z,q,P,B,λv1 H1 mu1 l am C=>?_⟩;refine⟨r,mu1,z,n,s,q.ext l,C,U,λX H2 m x2 r2 N=>?_⟩;refine⟨m,s,[w,n],t,A,.cons (am.ext x2) (.cons r2 .nil),N,au,λwq V i j G y=>?_⟩;cases t with
 |bl k=>
  cases G;refine⟨k,O,?_⟩;cases k with
  |false=>cases e;exact hc _ V i ((l.trans x2).trans j) (.bl J) y
  |true=>
   obtain⟨⟨x,v⟩,T,e⟩:=oB1.mp e;refine⟨r,i,A,x,v,q.ext ((l.trans x2).trans j),y,T,λaq H4 o u E F=>?_⟩;exact⟨o,v,[n,x],d,L,.cons ((r2.ext j).ext u) (.cons E .nil),F,e,λI D p R W ao=>hc I D p ((((l.trans x2).trans j).trans u).trans R) W ao⟩
 |_=>cases e
theorem B7(ho:fQ X (compareOp op) (r2 X.K f))(ho':fQ X (compareOp op') (r2 X.K g))(hx:ME X x a)(hy:ME X y b)(hz:ME X z c)(hm:lastMarks [op,op'] [y,z]=false:=by with_unfolding_all rfl):
  ME X (.Compare x [op,op'] [y,z] pos) (EL f g a b c):=eP (BB ho ho' hx hy hz hm) λ_ _ _=>II
end
mutual
def D.und(n:Nat):D->Bool
 | .tup xs=>D.unds n xs
 | .rol xs=>D.unds n xs
 | .ref k=>decide (k<n)
 | .non=>M
 | .bl _=>M
 | .int _=>M
 | .str _=>M
 | .fn _=>M
def D.unds(n:Nat):List D->Bool
 |[]=>M
 |d::ds=>D.und n d&&D.unds n ds
end
def D.sames(a b:List D):Bool:=@decide (a=b) (Classical.propDecidable _)
theorem D.sames_eq{a b:List D}(h:D.sames a b=M):a=b:=@of_decide_eq_true _ (Classical.propDecidable _) h
theorem D.sames_refl(a:List D):D.sames a a=M:=@decide_eq_true _ (Classical.propDecidable _) O
section
variable{K:Fg1}{H:Hp}{mu mu':List c4}
theorem eQ.cut{n:Nat}(h:∀ k,k<n->mu[k]? = mu'[k]?):∀ {d:D} {v:V},eQ K H mu d v->d.und n=true->eQ K H mu' d v:=fun c=>c.rec (motive_1:=fun d v _=>d.und n=true->eQ K H mu' d v) (motive_2:=fun ds vs _=>D.unds n ds=true->dI K H mu' ds vs)
  (λ_=>.non) (λb _=>.bl b) (λi _=>.int i) (λx _=>.str x) (λq _ ih e=>.tup q (ih (by rw[D.und]at e;exact e))) (λq _ ih e=>.rol q (ih (by rw[D.und]at e;exact e)))
  (λq e=>.ref (by rw[D.und]at e;rw[<- h _ (of_decide_eq_true e)];exact q)) (λq _=>.fn q) (λ_=>.nil) (λ_ _ a b e=>by rw[D.unds,bA1]at e;exact .cons (a e.1) (b e.2))
theorem dI.cut{n:Nat}(h:∀k,k<n->mu[k]?=mu'[k]?):∀{ds:List D} {vs:List V},dI K H mu ds vs->D.unds n ds=M->dI K H mu' ds vs:=λa=>a.ind (P:=λds vs _=>D.unds n ds=M->dI K H mu' ds vs) (λ_=>.nil) λr _ b e=>by rw[D.unds,bA1]at e;exact .cons (eQ.cut h r e.1) (b e.2)
end
def Ob.und(n:Nat):Ob->Bool
 | .lst xs=>D.unds n xs
 | .dct kvs=>D.unds n (kvs.map (·.2))
 | .dcT kvs=>D.unds n (kvs.map (·.2))
 | .iset _=>M
 | .dcF kvs=>D.unds n (kvs.map (·.2))
 | .tst _=>M
theorem KR.cut{κ:Type}{K:Fg1}{H:Hp}{mu mu':List c4}{n:Nat}(h:∀k,k<n->mu[k]?=mu'[k]?):∀{ks:List (κ×D)} {ws:List (κ×V)},KR K H mu ks ws->D.unds n (ks.map (·.2))=M->KR K H mu' ks ws:=by
 intro ks ws a e
 induction a with
 |nil=>exact .nil
 |cons r t ih=>
  rw[mP1,D.unds,bA1]at e;exact .cons ⟨r.1,r.2.cut h e.1⟩ (ih e.2)
mutual
theorem AS(n:Nat):∀k:TK,(tkD k).und n=M
 | .non=>rfl
 | .int _=>rfl
 | .tup xs=>by rw[tkD,D.und];exact xH n xs
theorem xH(n:Nat):∀ks:List TK,D.unds n (lK ks)=M
 |[]=>rfl
 |x::xs=>by rw[lK,D.unds,AS n x,xH n xs];rfl
end
theorem KT.cut{K:Fg1}{H:Hp}{mu mu':List c4}{n:Nat}(h:∀k,k<n->mu[k]?=mu'[k]?):∀{ks:List (TK×D)} {ws:List (TK×c4×cZ)},KT K H mu ks ws->D.unds n (ks.map (·.2))=M->KT K H mu' ks ws:=by
 intro ks ws b e
 induction b with
 |nil=>exact .nil
 |cons r t ih=>
  rw[mP1,D.unds,bA1]at e;obtain⟨z,d,k,v,a,r⟩:=r;exact .cons ⟨z,d,k.cut h (AS n _),v,a,r.cut h e.1⟩ (ih e.2)
theorem x4(n:Nat):∀ks:List TK,D.unds n ((ks.map λk=>(k,D.non)).map (·.2))=M
 |[]=>rfl
 |_::ks=>by rw[mP1,mP1,D.unds,x4 n ks];rfl
theorem qs.cut{K:Fg1}{H:Hp}{mu mu':List c4}{n:Nat}{a:c4}(h:∀k,k<n->mu[k]?=mu'[k]?):∀{o:Ob},qs K H mu a o->o.und n=M->qs K H mu' a o
 | .lst _,⟨vs,e,r⟩,b=>⟨vs,e,r.cut h b⟩
 | .dct _,⟨ws,e,r⟩,b=>⟨ws,e,KR.cut h r b⟩
 | .dcT _,⟨ws,e,r,l⟩,b=>⟨ws,e,KT.cut h r b,l⟩
 | .iset _,q,_=>q
 | .dcF _,⟨ws,e,r,l⟩,b=>⟨ws,e,KT.cut h r b,l⟩
 | .tst ks,⟨ws,e,r⟩,_=>⟨ws,e,KT.cut h r (x4 n ks)⟩
def gc(n:Nat)(p:D×dr):D×dr:=if p.1.und n&&(p.2.take n).all (Ob.und n)then(p.1,p.2.take n)else p
mutual
def D.sh(n:Nat):D->D
 | .tup xs=>.tup (D.shs n xs)
 | .rol xs=>.rol (D.shs n xs)
 | .ref k=>.ref (n+k)
 | .fn x=>.fn x
 | .non=>.non
 | .bl b=>.bl b
 | .int i=>.int i
 | .str x=>.str x
def D.shs(n:Nat):List D->List D
 |[]=>[]
 |d::ds=>D.sh n d::D.shs n ds
end
def Ob.sh(n:Nat):Ob->Ob
 | .lst xs=>.lst (D.shs n xs)
 | .dct kvs=>.dct (kvs.map λp=>(p.1,p.2.sh n))
 | .dcT kvs=>.dcT (kvs.map λp=>(p.1,p.2.sh n))
 | .iset xs=>.iset xs
 | .dcF kvs=>.dcF (kvs.map λp=>(p.1,p.2.sh n))
 | .tst ks=>.tst ks
theorem eQ.sh{K:Fg1}{H:Hp}{mu mu':List c4}:∀ {d:D} {v:V},eQ K H mu' d v->eQ K H (mu++mu') (d.sh mu.length) v:=fun c=>c.rec (motive_1:=fun d v _=>eQ K H (mu++mu') (d.sh mu.length) v) (motive_2:=fun ds vs _=>dI K H (mu++mu') (D.shs mu.length ds) vs)
  .non .bl .int .str (λh _ ih=>.tup h ih) (λh _ ih=>.rol h ih) (λh=>.ref (by rw[gR1 (bC _ _),Nat.add_sub_cancel_left];exact h)) (λh=>.fn h) .nil (λ_ _ a b=>.cons a b)
theorem dI.sh{K:Fg1}{H:Hp}{mu mu':List c4}:∀{ds:List D} {vs:List V},dI K H mu' ds vs->dI K H (mu++mu') (D.shs mu.length ds) vs:=λh=>h.ind (P:=λds vs _=>dI K H (mu++mu') (D.shs mu.length ds) vs) .nil λr _ ih=>.cons (eQ.sh r) ih
theorem KR.sh{κ:Type}{K:Fg1}{H:Hp}{mu mu':List c4}:∀{ks:List (κ×D)} {ws:List (κ×V)},KR K H mu' ks ws->KR K H (mu++mu') (ks.map λp=>(p.1,p.2.sh mu.length)) ws:=by
 intro ks ws h
 induction h with
 |nil=>exact .nil
 |cons r t ih=>exact .cons ⟨r.1,r.2.sh⟩ ih
mutual
theorem Gb(n:Nat):∀k:TK,(tkD k).sh n=tkD k
 | .non=>rfl
 | .int _=>rfl
 | .tup xs=>by rw[tkD,D.sh,AQ n xs]
theorem AQ(n:Nat):∀ks:List TK,D.shs n (lK ks)=lK ks
 |[]=>rfl
 |x::xs=>by rw[lK,D.shs,Gb n x,AQ n xs]
end
theorem KT.sh{K:Fg1}{H:Hp}{mu mu':List c4}:∀{ks:List (TK×D)} {ws:List (TK×c4×cZ)},KT K H mu' ks ws->KT K H (mu++mu') (ks.map λp=>(p.1,p.2.sh mu.length)) ws:=by
 intro ks ws h
 induction h with
 |nil=>exact .nil
 |cons r t ih=>
  obtain⟨z,d,k,v,a,r⟩:=r;exact .cons ⟨z,d,by have:=k.sh (mu:=mu);rw[Gb]at this;exact this,v,a,r.sh⟩ ih
theorem qs.sh{K:Fg1}{H:Hp}{mu mu':List c4}{a:c4}:∀{o:Ob},qs K H mu' a o->qs K H (mu++mu') a (o.sh mu.length)
 | .lst _,⟨vs,e,r⟩=>⟨vs,e,r.sh⟩
 | .dct _,⟨ws,e,r⟩=>⟨ws,e,KR.sh r⟩
 | .dcT _,⟨ws,e,r,l⟩=>⟨ws,e,KT.sh r,l⟩
 | .iset _,q=>q
 | .dcF _,⟨ws,e,r,l⟩=>⟨ws,e,KT.sh r,l⟩
 | .tst ks,⟨ws,e,r⟩=>⟨ws,e,by have:=KT.sh (mu:=mu) r;rw[bD]at this;exact this⟩
theorem eQ.mor{K:Fg1}{H:Hp}{mu:List c4}(mu':List c4):∀{d:D} {v:V},eQ K H mu d v->eQ K H (mu++mu') d v:=λh=>h.exv ⟨bE _ _,λ_ _ h=>h,λ_ _ _ h=>h⟩
theorem dI.mor{K:Fg1}{H:Hp}{mu:List c4}(mu':List c4):∀{ds:List D} {vs:List V},dI K H mu ds vs->dI K H (mu++mu') ds vs:=λh=>h.exv ⟨bE _ _,λ_ _ h=>h,λ_ _ _ h=>h⟩
theorem KR.mor{κ:Type}{K:Fg1}{H:Hp}{mu:List c4}(mu':List c4){ks:List (κ×D)}{ws:List (κ×V)}(h:KR K H mu ks ws):KR K H (mu++mu') ks ws:=Paired.mapP h λ_ _ z=>⟨z.1,z.2.mor mu'⟩
theorem qs.mor{K:Fg1}{H:Hp}{mu:List c4}{a:c4}(mu':List c4):∀{o:Ob},qs K H mu a o->qs K H (mu++mu') a o
 | .lst _,⟨vs,e,r⟩=>⟨vs,e,r.mor mu'⟩
 | .dct _,⟨ws,e,r⟩=>⟨ws,e,KR.mor mu' r⟩
 | .dcT _,⟨ws,e,r,l⟩=>⟨ws,e,Paired.mapP r λ_ _ ⟨z,d,k,v,b,r⟩=>⟨z,d,k.mor mu',v,b,r.mor mu'⟩,l⟩
 | .iset _,q=>q
 | .dcF _,⟨ws,e,r,l⟩=>⟨ws,e,Paired.mapP r λ_ _ ⟨z,d,k,v,b,r⟩=>⟨z,d,k.mor mu',v,b,r.mor mu'⟩,l⟩
 | .tst _,⟨ws,e,r⟩=>⟨ws,e,Paired.mapP r λ_ _ ⟨z,d,k,v,b,r⟩=>⟨z,d,k.mor mu',v,b,r.mor mu'⟩⟩
def sm(f:FN):FN:=λds S=>if D.unds 0 ds=M then(f ds []).map λp=>if p.1.und 0=M then(p.1,S)else(p.1.sh S.length,S++p.2.map (Ob.sh S.length))else(f ds S).map (gc S.length)
theorem qs.keep{K:Fg1}{H H':Hp}{mu:List c4}{a:c4}(e:Ext mu mu H H')(h:∀o,H a=Z o->H' a=Z o):∀{o:Ob},qs K H mu a o->qs K H' mu a o
 | .lst _,⟨vs,q,r⟩=>⟨vs,h _ q,r.ext e⟩
 | .dct _,⟨ws,q,r⟩=>⟨ws,h _ q,KR.ext e r⟩
 | .dcT _,⟨ws,q,r,l⟩=>⟨ws,h _ q,KT.ext e r,l⟩
 | .iset _,q=>⟨h _ q.1,q.2⟩
 | .dcF _,⟨ws,⟨o,u,b,c⟩,r,l⟩=>⟨ws,⟨o,u,h _ b,c⟩,KT.ext e r,l⟩
 | .tst _,⟨ws,q,r⟩=>⟨ws,h _ q,KT.ext e r⟩
theorem C8{K:Fg1}{f:FN}{vs:List V}{H:Hp}{Q:VK}(h:rN K (sm f) vs H Q):rN K f vs H Q:=by
 obtain⟨mu,S,ds,d,L,E,c,g,hc⟩:=h;unfold sm at g;split at g
 ·rename_i j;obtain⟨⟨y,p⟩,u,g⟩:=oM1.mp g;refine⟨[],[],ds,y,p,E.cut (n:=0) (λk i=>absurd i (bF _)) j,.nil,u,λv H' mu' x r s=>?_⟩;have B:Ext mu mu H H':=⟨bv,λa o e _=>x.old a o e (by simp),x.tup,x.frz,λ_ z=>.inl z⟩;dsimp only at g;split at g
  ·rename_i am;cases g;refine hc v H' mu B (r.cut (n:=0) (λk i=>absurd i (bF _)) am) ⟨c.len,c.nd,λn o a h1 h2=>?_⟩;exact(c.ob n o a h1 h2).keep B λo e=>x.old a o e (by simp)
  ·cases g;have C:∀ a∈mu',H a=none:=fun a w=>(x.new a w).resolve_left (by simp);have x2:Ext mu (mu++mu') H H':=⟨bE _ _,fun a o e _=>x.old a o e (by simp),x.tup,x.frz,fun a z=>by
    rcases aF.mp z with z|z
    ·exact .inl z
    ·exact .inr (C a z)⟩
   refine hc v H' (mu++mu') x2 (by rw[<- c.len];exact r.sh) ⟨by rw[lA1,lA1,lM1,c.len,s.len],?_,λn o a h1 h2=>?_⟩
   ·refine bG.mpr ⟨c.nd,s.nd,λa w b j z=>?_⟩;subst z;obtain⟨o,e⟩:=c.here w;rw[C a j]at e;cases e
   ·by_cases l:n<S.length
    ·rw[gL1 l]at h1;rw[gL1 (by rw[c.len];exact l)]at h2;exact((c.ob n o a h1 h2).keep B λo e=>x.old a o e (by simp)).mor mu'
    ·have m:=Nat.le_of_not_lt l;rw[gR1 m]at h1;rw[gR1 (by rw[c.len];exact m)]at h2;rw[gP1]at h1;obtain⟨I,F,G⟩:=oM1.mp h1;subst G;have q:=s.ob (n-S.length) I a F (by rw[c.len]at h2;exact h2);rw[<- c.len];exact q.sh
 ·obtain⟨⟨y,p⟩,u,g⟩:=oM1.mp g;refine⟨mu,S,ds,y,p,E,c,u,λv H' mu' x r s=>?_⟩;unfold gc at g;split at g
  ·rename_i j;cases g;rw [bA1] at j;have i:∀ k,k<S.length->mu'[k]? = mu[k]?:=fun k i=>by
    obtain⟨t,rfl⟩:=x.pre;rw[gL1 (by rw[c.len];exact i)]
   refine hc v H' mu x.back (r.cut i j.1) ⟨?_,c.nd,λn o a h1 h2=>?_⟩
   ·have:=s.len;have D:=x.pre.length_le;rw[aR,<- s.len];rw[c.len]at D ⊢;exact(Nat.min_eq_left D).symm
   ·have l:n<S.length:=by rw[<- c.len];exact(gE1.mp h2).1
    have A:p[n]?=Z o:=by rw[aT l]at h1;exact h1
    refine(s.ob n o a A ((i n l).trans h2)).cut i ?_;exact bH.mp j.2 o (gM1 h1)
  ·cases g;exact hc v H' mu' x r s
def spM(K:Fg1)(n:Nat)(f:FN):Sp:=λvs H Q _=>vs.length=n/\rN K f vs H Q
section
variable{X:Cx}{k n:Nat}{f:c4}{fd:dg}{ps:List Str}{x:Str}{p pos:Pos}{e:Expr}{es:List Expr}{m:FN}{a:FA}
noncomputable def dv (n:Nat)(f:FN):FN:=λds S=>if ds.length=n then sm f ds S else none
theorem EH (F:m4 X.prog X.w X.K X.mg X.base vT k f fd ps (spM X.K n m))(hr:gf k X.A)(hg:Gl X x)(hm:X.mg x=some (.ref f))(hk:wK1 X.K (.ref f)=true)(hb:kn X.K fd ps [])
  (ha:MA X (e::es) a) (hdb:(x == ("__debug__":Str))=J:=by decide) (he:c9 (e::es) X.env=(J,eval e X.env)::c9 es X.env:=by rfl) (hpl:(backTo pos (c9 es X.env)).any (·.1)=J:=by rfl):
  ME X (.Call (.Name x p) (e::es) [] pos) (mN (dv n m) a):=
 eP (Eh (E:=E0) F hr hg hm hk hb .nil KB ha hdb he hpl) fun σ H Q h=>by
  obtain⟨r,mu,S,ds,o,he,j,hm,hc⟩:=Cd h;refine⟨r,mu,S,ds,o,he,j,hm,λvs H' mu' u l s=>?_⟩;have q:=hc vs H' mu' u l s;show spM X.K n m (vs++[]) H' Q E0;rw[aN];obtain⟨c,i,d,v,g,h1,h2,b,t⟩:=q;unfold dv at b;split at b
  ·rename_i w;exact⟨by rw[<- h1.length];exact w,C8 ⟨c,i,d,v,g,h1,h2,b,t⟩⟩
  ·cases b
end
def kH:FS:=λr S=>Z (.nx,r,S)
noncomputable def dG (a b:FS):FS:=λr S=>(a r S).bind λp=>match p.1 with
 | .nx=>b p.2.1 p.2.2
 |f=>some (f,p.2.1,p.2.2)
noncomputable def ee (m:FE):FS:=λr S=>(m r S).bind λp=>some (.rt p.1,r,p.2)
def NA:FS:=λr S=>Z (.rt .non,r,S)
noncomputable def fm (m:FE):FS:=λr S=>(m r S).bind λp=>some (.nx,r,p.2)
noncomputable def fh (c:FT)(a b:FS):FS:=λr S=>(c r S).bind λp=>if p.1=true then a r p.2 else b r p.2
section
variable{X:Cx}{pos:Pos}{e c:Expr}{st:di}{rest as bs:List di}{a b:FS}{m:FE}{t:FT}
theorem Eu:Am X [] kH:=sP D2 <| by
 rintro E σ H ⟨r,mu,S,f,e,d,b,a,c,hc⟩;cases c;exact hc σ H mu (.refl _ _) b a
theorem B1(h1:MS X st a)(h2:Am X rest b):Am X (st::rest) (dG a b):=sP (Bl h1 h2) <| by
 rintro E σ H ⟨r,mu,S,f,t,q,s,o,g,hc⟩;obtain⟨⟨l,k,m⟩,p,g⟩:=oB1.mp g;refine⟨r,mu,S,l,k,m,s,o,p,?_⟩;cases l with
 |nx=>
  intro n H1 mu1 h i j;refine⟨k,mu1,m,f,t,q,i,j,g,?_⟩;cases f with
  |nx=>exact λe H2 c x2=>hc e H2 c (h.trans x2)
  |bk=>exact λe H2 c x2=>hc e H2 c (h.trans x2)
  |ct=>exact λe H2 c x2=>hc e H2 c (h.trans x2)
  |rt d=>exact λv H2 c x2=>hc v H2 c (h.trans x2)
 |bk=>cases g;exact hc
 |ct=>cases g;exact hc
 |rt d=>cases g;exact hc
theorem Et(h1:MS X st a):Am X [st] a:=D1 h1
theorem Ex(h:ME X e m)(hs:swapsWith e Y pos.line X.env=pure J:=by rfl):MS X (.Expr e pos) (fm m):=iI (D4 h hs) <| by
 rintro E σ H ⟨r,mu,S,f,k,j,b,hs,a,hc⟩;obtain⟨⟨d,l⟩,c,a⟩:=oB1.mp a;cases a;exact⟨r,mu,S,d,_,b,hs,c,λv H' mu' x i g=>hc σ H' mu' x (b.ext x) g⟩
theorem Ih(h:ME X e m):MS X (.Return (Z e) pos) (ee m):=iI (Hj h) <| by
 rintro E σ H ⟨r,mu,S,f,j,i,g,b,a,hc⟩;obtain⟨⟨d,k⟩,c,a⟩:=oB1.mp a;cases a;exact⟨r,mu,S,d,_,g,b,c,hc⟩
theorem KU(hc:MT X c t)(ha:Am X as a)(hb:Am X bs b):MS X (.If c as bs pos) (fh t a b):=iI (Ks hc ha hb) <| by
 rintro E σ H ⟨r,mu,S,f,o,m,l,p,h,hc⟩;obtain⟨⟨k,j⟩,q,h⟩:=oB1.mp h;refine⟨r,mu,S,k,j,l,p,q,λH1 mu1 i s=>?_⟩;have n:∀c:FS,c r j=Z (f,o,m)->xL X.K c E σ H1:=λc h=>by
  refine⟨r,mu1,j,f,o,m,l.ext i,s,h,?_⟩;cases f with
  |nx=>exact λg H2 e x2=>hc g H2 e (i.trans x2)
  |bk=>exact λg H2 e x2=>hc g H2 e (i.trans x2)
  |ct=>exact λg H2 e x2=>hc g H2 e (i.trans x2)
  |rt d=>exact λv H2 e x2=>hc v H2 e (i.trans x2)
 cases k with
 |true=>exact n a h
 |false=>exact n b h
end
abbrev FG:=D->Ev->dr->Option (Ev×dr)
abbrev Do:=List D->Ev->dr->Option (Ev×dr)
inductive Kc (K:Fg1)(g:FG)(v:V)(σ:L2.St)(H:Hp)(Q:L2.St->Hp->Prop):Prop
 |mk (r:Ev) (mu:List c4) (S:dr) (d:D) (r':Ev) (S':dr) (he:fH K H mu r σ) (hs:Sim K H mu S) (hr:eQ K H mu d v) (hm:g d r S=some (r',S')) (hc:∀ σ' H' mu',Ext mu mu' H H'->fH K H' mu' r' σ'->Sim K H' mu' S'->Q σ' H')
inductive Ms (K:Fg1)(g:Do)(vs:List V)(σ:L2.St)(H:Hp)(Q:L2.St->Hp->Prop):Prop
 |mk (r:Ev) (mu:List c4) (S:dr) (ds:List D) (r':Ev) (S':dr) (he:fH K H mu r σ) (hs:Sim K H mu S) (hr:dI K H mu ds vs) (hm:g ds r S=some (r',S')) (hc:∀ σ' H' mu',Ext mu mu' H H'->fH K H' mu' r' σ'->Sim K H' mu' S'->Q σ' H')
abbrev MG(X:Cx)(e:Expr)(g:FG):Prop:=PG X e (Kc X.K g)
abbrev LR(X:Cx)(es:List Expr)(g:Do):Prop:=JE X es (Ms X.K g)
noncomputable def gN (i:Nat):FG:=λd r S=>some (r.set i (some d),S)
def i7:Do:=λds r S=>match ds with
 |[]=>Z (r,S)
 |_=>Y
noncomputable def eU (g:FG)(gs:Do):Do:=λds r S=>match ds with
 |d::ds=>(g d r S).bind λp=>gs ds p.1 p.2
 |[]=>none
noncomputable def gT (n:Nat)(gs:Do):FG:=λd r S=>match d with
 | .tup ds=>if ds.length=n then gs ds r S else none
 |_=>none
theorem fH.set{K:Fg1}{H:Hp}{mu:List c4}{r:Ev}{σ:L2.St}{i:Nat}{d:D}{v:V}(h:fH K H mu r σ)(q:eQ K H mu d v):fH K H mu (r.set i (Z d)) (σ.set i (Z v)):=by
 refine⟨by rw[aX,aX];exact h.len,λj f e=>?_⟩;by_cases a:i=j
 ·subst a;have b:i<r.length:=by
   have:=(gE1.mp e).1
   rwa [aX]at this
  rw[aH b]at e;cases e;exact⟨v,aH (by rw[<- h.len];exact b),q⟩
 ·rw[gS1 a]at e;obtain⟨c,g,k⟩:=h.val j f e;exact⟨c,by rw[gS1 a];exact g,k⟩
section
variable{X:Cx}{pos:Pos}
theorem wy{e:Expr}{t t':TG}(h:PG X e t)(i:∀v σ H Q,t' v σ H Q->t v σ H Q):PG X e t':=λag s σ H v u Q I r q=>h ag s σ H v u Q I r (i v σ H Q q)
theorem xV{e:List Expr}{t t':GA}(h:JE X e t)(i:∀v σ H Q,t' v σ H Q->t v σ H Q):JE X e t':=λag s σ H v u Q I r q=>h ag s σ H v u Q I r (i v σ H Q q)
theorem EF(i:Nat){x:Str}(hN:X.N.Nodup)(hi:X.N[i]?=Z x)(hx:xy X.env.scope x)(hf:X.fn x=M\/X.env.scope.names.lookup x=Z .local:=by first|exact .inl rfl|exact .inr rfl|assumption):MG X (.Name x pos) (gN i):=
 wy (xW hN hi hx hf) <| by
  rintro v σ H Q ⟨r,mu,S,d,g,f,b,a,e,c,hc⟩;cases c;exact hc _ H mu (.refl _ _) (b.set e) a
theorem EE:LR X [] i7:=xV Ec <| by
 rintro vs σ H Q ⟨r,mu,S,ds,f,e,c,b,d,a,hc⟩;unfold i7 at a;split at a
 ·cases a;cases d;exact⟨O,hc σ H mu (.refl _ _) c b⟩
 ·cases a
theorem B3{e:Expr}{es:List Expr}{g:FG}{f:Do}(h1:MG X e g)(h2:LR X es f)(hs:(assignEach (e::es) X.env).map (·.2)=assign e X.env::(assignEach es X.env).map (·.2):=by rfl):LR X (e::es) (eU g f):=
 xV (Bv h1 h2 hs) <| by
  rintro vs σ H Q ⟨r,mu,S,ds,p,m,o,hs,s,a,hc⟩;unfold eU at a;split at a
  ·obtain⟨⟨h,j⟩,l,a⟩:=oB1.mp a;cases s with
   |cons q t=>
    exact⟨_,_,O,r,mu,S,_,h,j,o,hs,q,l,λk H1 mu1 i b n=>⟨h,mu1,j,_,p,m,b,n,t.ext i,a,λc H2 d x2=>hc c H2 d (i.trans x2)⟩⟩
  ·cases a
theorem Ir{es:List Expr}{k:Nat}{b:Do}{n:Nat}(hc:X.calm=M)(h:LR X es b)(hn:(assignEach es X.env).length=n:=by rfl)(hst:(assignEach es X.env).findIdx? (·.1)=Y:=by rfl):MG X (.Tuple es k pos) (gT n b):=
 wy (Hs hc h hn hst) <| by
  rintro v σ H Q ⟨r,mu,S,d,g,f,e,c,i,a,hc⟩;cases d with
  |tup ds=>
   rw[gT]at a;split at a
   ·rename_i j;cases i with
    |tup q t=>exact⟨_,_,O,q,by rw[<- t.length];exact j,r,mu,S,ds,g,f,e,c,t,a,hc⟩
   ·cases a
  |_=>cases a
inductive rU (K:Fg1)(f:FN)(o i v:V)(H:Hp)(Q:Hp->Prop):Prop
 |mk (mu:List c4) (S:dr) (ds:List D) (d:D) (S':dr) (hr:dI K H mu ds [o,i,v]) (hs:Sim K H mu S) (hm:f ds S=some (d,S')) (hc:∀H' mu',Ext mu mu' H H'->Sim K H' mu' S'->Q H')
def gS(f:FN)(a b:FE):FG:=λd r S=>(a r S).bind λp=>(b r p.2).bind λq=>(f [p.1,q.1,d] q.2).bind λt=>Z (r,t.2)
theorem Iu{o i:Expr}{a b:FE}{f:FN}(ho:ME X o a)(hi:ME X i b)(hs:xw X (rU X.K f))(ha:∀v,assign (.Subscript o i pos) X.env v=(do
   let ov<-holding [v] (eval o X.env)
   let iv<-holding [v,ov] (eval i X.env)
   standAt pos
   holding [v,ov,iv] (setItem ov iv v)
   release [v,ov,iv] []):=by intro _;rfl):MG X (.Subscript o i pos) (gS f a b):=
 wy (Ht ho hi hs ha) <| by
  rintro v σ H Q ⟨r,mu,S,d,F,E,h,hs,y,c,hc⟩;obtain⟨⟨m,n⟩,q,c⟩:=oB1.mp c;obtain⟨⟨l,k⟩,A,c⟩:=oB1.mp c;obtain⟨⟨s,G⟩,x,c⟩:=oB1.mp c;cases c;refine⟨r,mu,S,m,n,h,hs,q,λD H1 mu1 e u t=>?_⟩;refine⟨r,mu1,n,l,k,h.ext e,t,A,λC H2 g x2 r2 w=>?_⟩;exact⟨g,k,[m,l,d],s,_,.cons (u.ext x2) (.cons r2 (.cons ((y.ext e).ext x2) .nil)),w,x,λB j p z=>hc σ B j ((e.trans x2).trans p) (((h.ext e).ext x2).ext p) z⟩
noncomputable def dH (m:FE)(g:FG):FS:=λr S=>(m r S).bind λp=>(g p.1 r p.2).bind λq=>some (.nx,q.1,q.2)
theorem tE{K:Fg1}{m:FE}{g:FG}{E:kl}{σ:L2.St}{H:Hp}(h:xL K (dH m g) E σ H):AW (tM K m) (Kc K g) E σ H:=by
 obtain⟨r,mu,S,f,u,t,e,k,a,hc⟩:=h;obtain⟨⟨d,j⟩,n,a⟩:=oB1.mp a;obtain⟨⟨r2,s⟩,l,a⟩:=oB1.mp a;cases a;refine⟨r,mu,S,d,j,e,k,n,λq H1 mu1 i o p=>?_⟩;exact⟨r,mu1,j,d,_,_,e.ext i,p,o,l,λb H2 c x2=>hc b H2 c (i.trans x2)⟩
theorem Ik{tg e:Expr}{m:FE}{g:FG}(he:ME X e m)(hg:MG X tg g)(hs:swapsWithSole [tg] e pos.line X.env=pure J:=by rfl)(hw:swappedStores [tg] e X.env=pure Y:=by rfl)(h1:(assignEach [tg] X.env).map (·.2)=[assign tg X.env]:=by rfl):MS X (.Assign [tg] e pos) (dH m g):=iI (Hn he hg hs hw h1) λ_ _ _=>tE
theorem Ig(i:Nat){x:Str}{e:Expr}{m:FE}{pos':Pos}(hN:X.N.Nodup)(hi:X.N[i]? = some x)(hx:xy X.env.scope x)(he:ME X e m)(hs:swapsWith e (some (.Name x pos')) pos.line X.env=pure false:=by rfl)(hf:X.fn x=true\/X.env.scope.names.lookup x=some .local:=by first | exact .inl rfl | exact .inr rfl | assumption):
  MS X (.Assign [.Name x pos'] e pos) (dH m (gN i)):=iI (Hi hN hi hx he hs hf) λE σ H h=>by
 obtain⟨r,mu,S,d,g,h1,h2,p,n⟩:=tE h;refine⟨r,mu,S,d,g,h1,h2,p,λv H' mu' o f j=>?_⟩;obtain⟨r2,a,t,w,s,u,b,k,l,q,c⟩:=n v H' mu' o f j;cases q;exact c _ H' a (.refl _ _) (b.set l) k
def EM(i:Nat)(f:FN)(m:FE):FS:=λr S=>match r[i]? with
 |some (Z d)=>(m r S).bind λp=>(f [d,p.1] p.2).bind λq=>Z (.nx,r.set i (Z q.1),q.2)
 |_=>Y
theorem Ij(i:Nat){x:Str}{e:Expr}{m:FE}{op:Operator}{f:FN}{pos':Pos}(hN:X.N.Nodup)(hi:X.N[i]? = some x)(hx:xy X.env.scope x)(he:ME X e m)(ho:Mf X op (r2 X.K f))(hf:X.fn x=true\/X.env.scope.names.lookup x=some .local:=by first | exact .inl rfl | exact .inr rfl | assumption):
  MS X (.AugAssign (.Name x pos') op e pos) (EM i f m):=iI (Hm hN hi hx he ho hf) <| by
 rintro E σ H ⟨r,mu,S,F,D,C,he,s,a,hc⟩;unfold EM at a;split at a
 ·rename_i d e;obtain⟨⟨g,h⟩,k,a⟩:=oB1.mp a;obtain⟨⟨n,z⟩,w,a⟩:=oB1.mp a;cases a;obtain⟨v,p,t⟩:=he.val i d e;refine⟨v,p,r,mu,S,g,h,he,s,k,λB H1 mu1 c q l=>?_⟩;exact⟨mu1,h,[d,g],n,_,.cons (t.ext c) (.cons q .nil),l,w,λA y b j o u=>hc _ y b (c.trans j) (((he.ext c).ext j).set o) u⟩
 ·cases a
end
noncomputable def uf (c:FT)(b:FS):Nat->FS
 |0=>λ_ _=>none
 | n+1=>fun r S=>(c r S).bind fun p=>if p.1=true then (b r p.2).bind fun q=>match q.1 with
   | .nx=>uf c b n q.2.1 q.2.2
   | .ct=>uf c b n q.2.1 q.2.2
   | .bk=>some (.nx,q.2.1,q.2.2)
   | .rt d=>some (.rt d,q.2.1,q.2.2)
  else some (.nx,r,p.2)
theorem GI{K:Fg1}{c:FT}{b:FS}{n:Nat}{E:kl}{σ:L2.St}{H:Hp}(h:xL K (uf c b n) E σ H):AT (DJ K c) (xL K b) E σ H:=by
 refine⟨λm a H'=>xL K (uf c b m) E a H',⟨n,h⟩,λm s H1 q=>?_⟩;obtain⟨r,mu,S,f,A,z,t,G,i,hc⟩:=q;cases m with
 |zero=>cases i
 |succ m=>
  obtain⟨⟨k,C⟩,D,i⟩:=oB1.mp i;refine⟨r,mu,S,k,C,t,G,D,λH2 e x2 B=>?_⟩;cases k with
  |false=>
   cases i;exact hc s H2 e x2 (t.ext x2) B
  |true=>
   obtain⟨⟨u,o,p⟩,F,i⟩:=oB1.mp i;have w:∀{a H' mu'},Ext e mu' H2 H'->fH K H' mu' o a->Sim K H' mu' p->uf c b m o p=Z (f,A,z)->xL K (uf c b m) E a H':=λ{a H' mu'} x g l i=>by
    refine⟨o,mu',p,f,A,z,g,l,i,?_⟩;cases f with
    |nx=>exact λj H2 e y=>hc j H2 e ((x2.trans x).trans y)
    |bk=>exact λj H2 e y=>hc j H2 e ((x2.trans x).trans y)
    |ct=>exact λj H2 e y=>hc j H2 e ((x2.trans x).trans y)
    |rt d=>exact λv H2 e y=>hc v H2 e ((x2.trans x).trans y)
   refine⟨λa H'=>xL K (uf c b m) E a H',λa H' q=>⟨m,bI _,q⟩,r,e,C,u,o,p,t.ext x2,B,F,?_⟩;cases u with
   |nx=>exact λa H' mu' x g l=>w x g l i
   |ct=>exact λa H' mu' x g l=>w x g l i
   |bk=>cases i;exact λa H' mu' x g l=>hc a H' mu' (x2.trans x) g l
   |rt d=>cases i;exact λv H' mu' x o l=>hc v H' mu' (x2.trans x) o l
theorem B2{X:Cx}{pos:Pos}(n:Nat){c:Expr}{a:List di}{t:FT}{b:FS}(hp:PassesOwn (model X.prog X.w) X.A X.env X.xe)(hc:MT X c t)(hb:Am X a b):MS X (.While c a [] pos) (uf t b n):=
 iI (Bm hp hc hb) λ_ _ _=>GI
structure An where
 items:List D
 chk:List (Nat×List D)
noncomputable def qx (S:dr):List (Nat×List D)->Bool
 |[]=>true
 | (n,xs)::c=>(match S[n]? with
   |some (.lst ys)=>D.sames ys xs
   |_=>false)&&qx S c
def Np(K:Fg1)(j:It)(am:An)(mu:List c4)(H:Hp):Prop:=∀i H1 mu1 S1,uh mu mu1 H H1->Sim K H1 mu1 S1->qx S1 am.chk=M ->
 (∀d,am.items[i]?=Z d->j.go i H1 /\ ∀x H2,j.yld i H1 x H2->Ext mu1 mu1 H1 H2/\Sim K H2 mu1 S1/\eQ K H2 mu1 d x)/\(am.items.length<=i->j.stop i H1)
abbrev FI:=Ev->dr->Option (An×dr)
inductive Mr (K:Fg1)(m:FI)(σ:L2.St)(H:Hp)(R:It->Hp->Prop):Prop
 |mk (r:Ev) (mu:List c4) (S:dr) (am:An) (S':dr) (he:fH K H mu r σ) (hs:Sim K H mu S) (hm:m r S=some (am,S')) (hc:∀j H' mu',Ext mu mu' H H'->Np K j am mu' H'->Sim K H' mu' S'->R j H')
abbrev MI(X:Cx)(tg iter:Expr)(m:FI):Prop:=PI X tg iter (Mr X.K m)
theorem pa{X:Cx}{tg e:Expr}{t t':TI}(h:PI X tg e t)(i:∀ σ H R,t' σ H R->t σ H R):PI X tg e t':=λag s σ H R I q=>h ag s σ H R I (i σ H R q)
theorem Ku{X:Cx}{tg e:Expr}{t t':TI}(h:PI X tg e t)(h':PI X tg e t'):PI X tg e (fun σ H R=>t σ H R\/t' σ H R):=λag s σ H R I q=>q.elim (h ag s σ H R I) (h' ag s σ H R I)
noncomputable def jO (c:List (Nat×List D))(g:FG)(b:FS):List D->FS
 |[]=>λr S=>if qx S c=true then some (.nx,r,S)else none
 | d::ds=>fun r S=>if qx S c=true then (g d r S).bind fun p=>(b p.1 p.2).bind fun q=>match q.1 with
   | .nx=>jO c g b ds q.2.1 q.2.2
   | .ct=>jO c g b ds q.2.1 q.2.2
   | .bk=>some (.nx,q.2.1,q.2.2)
   | .rt v=>some (.rt v,q.2.1,q.2.2)
  else none
noncomputable def fD (m:FI)(g:FG)(b:FS):FS:=λr S=>(m r S).bind λp=>jO p.1.chk g b p.1.items r p.2
theorem nz{α:Type}{l:List α}{i:Nat}{d:α}{ds:List α}(h:l.drop i=d::ds):l[i]?=Z d/\l.drop (i+1)=ds:=by
 have h1:l[i]?=Z d:=by
  have:=congrArg (·[0]?) h;simpa using this
 refine⟨h1,?_⟩;rw[<- List.drop_drop,h];rfl
inductive Nm (K:Fg1)(mu1:List c4)(H1:Hp)(c:List (Nat×List D))(g:FG)(b:FS)(f:Fl)(r':Ev)(S':dr)(L:List D)(σ':L2.St)(H':Hp):Prop
 |mk (r2:Ev) (mu2:List c4) (S2:dr):Ext mu1 mu2 H1 H'->fH K H' mu2 r2 σ'->Sim K H' mu2 S2->jO c g b L r2 S2=some (f,r',S')->Nm K mu1 H1 c g b f r' S' L σ' H'
theorem EJ{K:Fg1}{m:FI}{g:FG}{b:FS}{E:kl}{σ:L2.St}{H:Hp}(h:xL K (fD m g b) E σ H):Kd (Mr K m) (Kc K g) (xL K b) E σ H:=by
 obtain⟨r,mu,S,f,au,N,T,hs,D,hc⟩:=h;obtain⟨⟨am,Q⟩,W,D⟩:=oB1.mp D;refine⟨r,mu,S,am,Q,T,hs,W,λj H1 mu1 z U X=>?_⟩;refine⟨λi k t H'=>k=(am.items.drop i).length/\Nm K mu1 H1 am.chk g b f au N (am.items.drop i) t H',⟨_,O,r,mu1,Q,.refl _ _,T.ext z,X,D⟩,?_⟩;rintro i k G H2 ⟨rfl,r2,l,V,x2,s,C,a⟩;cases hl:am.items.drop i with
 |nil=>
  left;rw[hl]at a;rw[jO]at a;dsimp only at a;split at a
  ·rename_i ok;cases a;refine⟨(U i H2 l _ x2.w C ok).2 (List.drop_eq_nil_iff.mp hl),?_⟩;exact hc G H2 l (z.trans x2) s C
  ·cases a
 |cons d ds=>
  right;rw[hl]at a;obtain⟨hi,P⟩:=nz hl;rw[jO]at a;dsimp only at a;split at a
  ·rename_i ok;obtain⟨⟨ao,R⟩,e3,a⟩:=oB1.mp a;obtain⟨⟨L,A,B⟩,e4,a⟩:=oB1.mp a;obtain⟨wq,yl⟩:=(U i H2 l _ x2.w C ok).1 d hi;refine⟨wq,Nm K mu1 H1 am.chk g b f au N ds,?_,λx H3 y=>?_⟩
   ·intro t H' h5;exact⟨ds.length,bI _,(congrArg List.length P).symm,P.symm ▸ h5⟩
   ·obtain⟨u,s3,aq⟩:=yl x H3 y;refine⟨r2,l,V,d,ao,R,s.ext u,s3,aq,e3,fun σ4 H4 F w I s4=>?_⟩;refine⟨ao,F,R,L,A,B,I,s4,e4,?_⟩;cases L with
    |nx=>exact λn q c p e o=>⟨A,c,B,(x2.trans u).trans (w.trans p),e,o,a⟩
    |ct=>exact λn q c p e o=>⟨A,c,B,(x2.trans u).trans (w.trans p),e,o,a⟩
    |bk=>cases a;exact λn q c p e o=>hc n q c ((z.trans x2).trans (u.trans (w.trans p))) e o
    |rt v=>cases a;exact λv5 q c p r5 o=>hc v5 q c ((z.trans x2).trans (u.trans (w.trans p))) r5 o
  ·cases a
theorem Ii{X:Cx}{pos:Pos}{tg iter:Expr}{a:List di}{m:FI}{g:FG}{b:FS}(hp:PassesOwn (model X.prog X.w) X.A X.env X.xe)(hc:X.calm=M)(hi:MI X tg iter m)(hg:MG X tg g)(hb:Am X a b)(hs:∀x,foldedSetIterable iter X.env x=pure x:=by intro _;rfl):MS X (.For tg iter a [] pos) (fD m g b):=iI (Hl hp hc hi hg hb hs) λ_ _ _=>EJ
def fI(n:Nat)(ds:List D):Ev:=ds.map Z++aP (n-ds.length) Y
noncomputable def gG (n:Nat)(b:FS):FN:=λds S=>(b (fI n ds) S).bind λp=>match p.1 with
 | .rt d=>some (d,p.2.2)
 | .nx=>some (.non,p.2.2)
 |_=>none
theorem zf{K:Fg1}{H:Hp}{mu:List c4}{ds:List D}{vs:List V}(N:List Str)(h:dI K H mu ds vs):fH K H mu (fI N.length ds) (L2.start N vs):=by
 refine⟨?_,λi d e=>?_⟩
 ·unfold fI L2.start;rw[lA1,lA1,lM1,lM1,lR1,lR1,h.length]
 ·unfold fI at e;unfold L2.start;by_cases hi:i<ds.length
  ·rw[gL1 (by rw[lM1];exact hi),gP1]at e;obtain⟨f,a,c⟩:=oM1.mp e;cases c;obtain⟨v,b,r⟩:=h.get a;refine⟨v,?_,r⟩;rw[gL1 (by rw[lM1,<- h.length];exact hi),gP1,b];rfl
  ·rw[gR1 (by rw[lM1];lia)]at e;have:=gM1 e;rw[List.mem_replicate]at this;cases this.2
theorem Lh{P:c5}{w:c7}{K:Fg1}{mg:Str->Option cZ}{base:df}{x c:Str}{st:di}{f:c4}{fd:dg}{N ps:List Str}{k:Nat}{b:FS}(F:yV K x c st f fd)(S:g9 N ps (dX st))(g:∀(e:cZ) (A:c6) (a:List Env) (s:c3) (H:Hp) (E:XK),gf k (A.deeper (envOfC c (dX st) s.heap.objs.size f e)) ->
   Am (nV vT P w K mg base N c (dX st) f e A a s H E).nox (fB st) b):m4 P w K mg base vT (k+1) f fd ps (spM K ps.length (gG N.length b)):=by
 refine yV.ok F S (λvs H Q E h=>h.1) λe A a s H vs Q E q j=>⟨_,g e A a s H E q,?_⟩;obtain⟨_,mu,St,ds,d,t,h1,h2,i,m⟩:=j;unfold gG at i;obtain⟨⟨l,p,r⟩,n,i⟩:=oB1.mp i;refine⟨_,mu,St,l,p,r,zf N h1,h2,n,?_⟩;cases l with
 |nx=>cases i;exact λo H' mu' x u s=>m .non H' mu' x .non s
 |rt d=>cases i;exact m
 |bk=>cases i
 |ct=>cases i
def kX(cells:List (Str×c4)):List (Str×NameKind)->List (Str×c4)->Option (List (Str×c4))
 |[],acc=>Z acc
 |(n,k)::r,acc=>if k == .free then(cells.lookup n).bind λc=>kX cells r ((n,c)::acc)else kX cells r acc
theorem xg{env:Env}(f:Str×NameKind->List (Str×c4)->Sem (ForInStep (List (Str×c4))))(hf:∀n k cs,f (n,k) cs=if k == .free then(do let c<-cellOf env n;pure (.yield ((n,c)::cs)))else pure (.yield cs)):
  ∀(a:List (Str×NameKind)) (acc b:List (Str×c4)),kX env.cells a acc=Z b->forIn a acc f=(pure b:Sem (List (Str×c4)))
 |[],acc,b,h=>by cases h;rfl
 |(n,k)::r,acc,b,h=>by
  rw[List.forIn_cons,hf];unfold kX at h;split at h
  ·rename_i d;rw[ak d];obtain⟨c,e,h⟩:=oB1.mp h;have:cellOf env n=pure c:=by unfold cellOf;rw[e]
   rw[this,pure_bind,pure_bind];exact xg f hf r _ b h
  ·rename_i d;rw[aj d,pure_bind];exact xg f hf r _ b h
theorem C2{scope:dj}{env:Env}{cl:List (Str×c4)}(h:kX env.cells scope.names []=Z cl):closureFor scope env=pure cl:=by
 simp only[closureFor];rw[xg (env:=env) _ (λn k cs=>by cases hk:k == NameKind.free<;>simp[hk]) scope.names [] cl h];rfl
theorem xf{a:List (Str×c4)}:∀{b:List (Str×NameKind)} {acc d:List (Str×c4)},kX a b acc=Z d->(∀x c,acc.lookup x=Z c->a.lookup x=Z c) -> ∀x c,d.lookup x=Z c->a.lookup x=Z c
 |[],acc,d,h,ha=>by cases h;exact ha
 |(n,k)::r,acc,d,h,ha=>by
  unfold kX at h;split at h
  ·obtain⟨c,e,h⟩:=oB1.mp h;refine xf h λx f q=>?_;rw[bJ]at q;split at q
   ·rename_i g;cases q;rw[beq_iff_eq.mp g];exact e
   ·exact ha x f q
  ·exact xf h ha
theorem ow{b:List (Str×c4)}{x:Str}:∀{a:List (Str×NameKind)} {acc d:List (Str×c4)},kX b a acc=Z d->(a.lookup x=Z .free\/(acc.lookup x).isSome=M)->(d.lookup x).isSome=M
 |[],acc,d,h,ha=>by
  cases h;rcases ha with q|q
  ·cases q
  ·exact q
 |(n,k)::r,acc,d,h,ha=>by
  unfold kX at h;split at h
  ·obtain⟨c,e,h⟩:=oB1.mp h;refine ow h ?_;rcases ha with q|q
   ·rw[bJ]at q;split at q
    ·rename_i f;right;rw[bJ,f];rfl
    ·exact .inl q
   ·right;rw[bJ];split
    ·rfl
    ·exact q
  ·rename_i g;refine ow h ?_;rcases ha with q|q
   ·rw[bJ]at q;split at q
    ·cases q;exact absurd O g
    ·exact .inl q
   ·exact .inr q
theorem g0{x:Str}{c:c4}:∀{a:List (Str×NameKind)} {n:Nat} {acc:List (Str×c4)},(cellsFrom n a acc).lookup x=Z c->(n<=c/\(x,c)∈cellsFrom n a [])\/acc.lookup x=Z c
 |[],_,_,h=>.inr h
 |(y,k)::r,n,acc,h=>by
  unfold cellsFrom at h ⊢;split at h
  ·rename_i b;rw [if_pos b];have app:∀ (a:List (Str×NameKind)) (m:Nat) (acc:List (Str×c4)),cellsFrom m a acc=cellsFrom m a []++acc:=by
    intro a
    induction a with
    |nil=>intro m acc;rfl
    |cons p r ih=>
     obtain⟨z,q⟩:=p;intro m acc;unfold cellsFrom;split
     ·rw[ih _ ((z,m)::acc),ih _ [(z,m)],bf];rfl
     ·exact ih m acc
   rcases g0 h with⟨h1,h2⟩|h1
   ·refine .inl ⟨by lia,?_⟩;rw[app];exact aG _ h2
   ·rw[bJ]at h1;split at h1
    ·rename_i d;cases h1;refine .inl ⟨nR1 _,?_⟩;rw[app,beq_iff_eq.mp d];exact mA1 _ mS1
    ·exact .inr h1
  ·rename_i b;rw[aj b];exact g0 h
theorem qB{x:Str}{c:c4}{n:Nat}{acc:List (Str×c4)}{a:List (Str×NameKind)}(hx:a.lookup x=Z .cell)(h:(cellsFrom n a acc).lookup x=Z c):n<=c:=by
 have app:∀(a:List (Str×NameKind)) (m:Nat) (acc:List (Str×c4)),cellsFrom m a acc=cellsFrom m a []++acc:=by
  intro a
  induction a with
  |nil=>intro m acc;rfl
  |cons p r ih=>
   obtain⟨z,q⟩:=p;intro m acc;unfold cellsFrom;split
   ·rw[ih _ ((z,m)::acc),ih _ [(z,m)],bf];rfl
   ·exact ih m acc
 rw[app,List.lookup_append]at h;have q:=PySem.W.cellsFrom_some a n [] (.inl hx);obtain⟨b,e⟩:=aQ.mp q;rw[e]at h;cases h;rcases g0 e with⟨h1,_⟩|h1
 ·exact h1
 ·cases h1
theorem lg {ao:Model}{A:c6}{E:cZ->c3->Prop}{s:c3}{scope:dj}{globals:c4}{c:List (Str×c4)}{qual:Str}{func:Option c4}{code:cZ}{env:Env}{b:c4}{Q:Env->c3->Prop}
  (d:Q {scope,locals:=s.heap.objs.size,globals,cells:=cellsFrom (s.heap.objs.size+1) scope.names c,qual,func,code:=env.code,frame:=env.frame,builtins:=env.builtins}
   {s with heap:=pushCells (s.heap.push {cls:=.type "dict",data:=.dict #[]}) scope.names}):
  db ao A (newFunctionEnv scope globals c [] qual func code (Z env) b) Q E s:=by
 simp only[newFunctionEnv,Option.isSome_some,if_true];refine wB1 (wpAny_alloc ?_);refine wB1 (wpAny_layCells _ (λname a cells=>by cases hkc:a == NameKind.cell<;>simp[hkc]) _ _ _ _ ?_);rw[show({s with heap:=s.heap.push {cls:=.type "dict",data:=.dict #[]}}:c3).heap.objs.size=s.heap.objs.size+1 from hZ1 ..];refine wB1 ?_;rw[List.forIn_nil];exact wP1 (wP1 d)
def cxC(X:Cx)(scope:dj)(cl:List (Str×c4))(T:List Str)(keep:List Nat)(s:c3)(H:Hp)(fp:List c4):Cx where
 prog:=X.prog
 w:=X.w
 K:=X.K
 mg:=X.mg
 base:=X.base
 A:=X.A
 N:=T++keep.map λi=>X.N.getD i (Str.ofString "")
 s₀:=s
 H₀:=H
 env:=compEnvC scope (cellsFrom (s.heap.objs.size+1) scope.names cl) s.heap.objs.size X.env
 outer:=X.stack
 stack:=X.stack
 ex:=fp
 fn:=λx=>scope.names.lookup x == Z .cell
 calm:=X.calm
 pn:=[]
 xe:=λ_ _=>False
def tH(k:Nat)(keep:List Nat)(σ:L2.St):L2.St:=aP k Y++keep.map λi=>(σ[i]?).join
theorem j4{env:Env}{x:Str}:∀ {a:List (Str×NameKind)},
  (a.map λ(n,k)=>if(k == NameKind.free&&env.scope.kind == .function&&env.kindOf n == Z .cell)then(n,NameKind.cell)else(n,k)).lookup x =
   (a.lookup x).map λk=>if(k == NameKind.free&&env.scope.kind == .function&&env.kindOf x == Z .cell)then NameKind.cell else k
 |[]=>rfl
 |(n,k)::r=>by
  show List.lookup x ((if(k == NameKind.free&&env.scope.kind == .function&&env.kindOf n == Z .cell)=M then(n,NameKind.cell)else(n,k))::_)=_;cases hx:x == n with
  |true=>
   have e:=beq_iff_eq.mp hx;subst e;by_cases hc:(k == NameKind.free&&env.scope.kind == .function&&env.kindOf x == Z .cell)=M
   ·rw[ak hc,bJ,hx,bJ,hx];simp only[oP1,ak hc]
   ·rw[aj hc,bJ,hx,bJ,hx];simp only[oP1,aj hc]
  |false=>
   have ih:=@j4 env x r;by_cases hc:(k == NameKind.free&&env.scope.kind == .function&&env.kindOf n == Z .cell)=M
   ·rw[ak hc,bJ,hx,bJ,hx];exact ih
   ·rw[aj hc,bJ,hx,bJ,hx];exact ih
structure LV (X:Cx)(scope:dj)(T:List Str)(keep:List Nat):Prop where
 kind:scope.kind = .function
 names:∀x∈scope.names,x.2 = .local->scope.names.lookup x.1=some .local
 free:∀i∈keep,∃x,X.N[i]?=some x/\scope.names.lookup x=some .free/\(X.env.kindOf x=some .cell\/X.env.kindOf x=some .free)/\(x,NameKind.cell)∉scope.names
theorem vi{X:Cx}{ag:List (c4×Obj)}{σ:L2.St}{H:Hp}{s:c3}{scope:dj}{w:List (Str×c4)}{T:List Str}{keep:List Nat}{D:List c4}(I:Inv X ag σ H s)(C:LV X scope T keep)(A:kX X.env.cells scope.names []=some w)(hf:∀b∈D,kZ X ag H b)(K:∀b∈D,∃o,s.heap.get? b=some o):
  Inv (cxC X scope w T keep s H D) [] (tH T.length keep σ) H {s with heap:=pushCells (s.heap.push {cls:=.type "dict",data:=.dict #[]}) scope.names}:=by
 have kept:∀b o,s.heap.get? b=Z o->(pushCells (s.heap.push {cls:=.type "dict",data:=.dict #[]}) scope.names).get? b=Z o:=λb o e=>pushCells_keeps _ _ b o (hP1 _ e);have B:=cellsFrom_ok scope.names (s.heap.push {cls:=.type "dict",data:=.dict #[]}) (s.heap.objs.size+1) [] ⟨λ_ _ W=>(nomatch W),List.Pairwise.nil⟩ (by rw[hZ1];exact nR1 _);rw[hZ1]at B;have am:=xf A (λx c q=>by cases q)
 -- a cell of the block: its own or an elder one
 have d:∀x c,(cellsFrom (s.heap.objs.size+1) scope.names w).lookup x=Z c->(s.heap.objs.size+1<=c/\(x,c)∈cellsFrom (s.heap.objs.size+1) scope.names [])\/X.env.cells.lookup x=Z c:=λx c h=>by
  rcases g0 h with h1|h1
  ·exact .inl h1
  ·exact .inr (am x c h1)
 have g:∀x c,X.env.cells.lookup x=Z c->c<s.heap.objs.size:=λx c e=>by
  obtain⟨v,z⟩:=I.cell x c e;exact z.lt
 have t:∀b∈D,b<s.heap.objs.size:=λb l=>by
  obtain⟨o,e⟩:=K b l;exact hL1 e
 have fst:∀b∈D,b∉frs X.stack:=λb l z=>by
  rcases aE.mp (I.stkSub b z)with q|q
  ·exact(hf b l).2.1 q
  ·exact(hf b l).2.2.1 q
 have kindOf:∀x,(cxC X scope w T keep s H D).env.kindOf x=(scope.names.lookup x).map λk=>if(k == NameKind.free&&X.env.scope.kind == .function&&X.env.kindOf x == Z .cell)then NameKind.cell else k:=λx=>j4
 refine⟨⟨I.ok.mod,C.kind,I.ok.glob,I.ok.blt,nR1 _,λx y c h1 h2=>?_,λx E=>?_,λx c h1 h2=>?_,I.ok.hd,I.ok.frames,.inl O,λb l=>⟨nN1 (t b l),λx c h z=>?_⟩,λb o e=>I.bs b o e,aC I.ok.bsz I.sz,λb o e l=>?_,fst,I.stack,I.stkFree⟩,
  rfl,I.bare,Un.kept kept,⟨λ_=>Y,(Heap.Ns.new s.heap (.type "dict")).keeps (pushCells_keeps _ _),λi x v h1 h2 h3=>?_⟩,λx c h=>?_,I.hok.fresh (nR1 _),λx c h=>?_,λp R=>absurd (show p∈([]:List (c4×Obj))from R) (by simp),I.hok.kept kept,?_⟩
 ·rcases d x c h1 with⟨a1,a2⟩|a1<;>rcases d y c h2 with⟨b1,b2⟩|b1
  ·exact name_of_addr B.apart a2 b2
  ·exact absurd (bK (bL a1) (g y c b1)) (az _)
  ·exact absurd (bK (bL b1) (g x c a1)) (az _)
  ·exact I.ok.inj x y c a1 b1
 ·have L:scope.names.lookup x=some .cell\/scope.names.lookup x=some .free:=by
   rw[kindOf x]at E;cases e:scope.names.lookup x with
   |none=>rw[e]at E;rcases E with z|z<;>cases z
   |some k=>
    rw[e]at E;simp only[oP1]at E;cases k<;>simp_all
  have:((cellsFrom (s.heap.objs.size+1) scope.names w).lookup x).isSome=M:=by
   rcases L with z|z
   ·exact PySem.W.cellsFrom_some _ _ _ (.inl z)
   ·exact PySem.W.cellsFrom_some _ _ _ (.inr (ow A (.inl z)))
  exact aQ.mp this
 ·have f:scope.names.lookup x=Z .cell:=by simpa[cxC]using h1
  have:=qB f h2;exact aC (bc _) this
 ·subst z;rcases d x c h with⟨a1,_⟩|a1
  ·exact absurd (bK (bL a1) (t c l)) (az _)
  ·exact(hf c l).2.2.2.2.1 x c a1 O
 ·rcases(hf b l).2.2.2.1 with z|z
  ·exact I.ok.noex b o e z
  ·exact absurd (nL1 (hL1 e) (aC I.ok.bsz z)) (az _)
 ·-- a name of the block that has a value:one of the outer text's
  have hi:T.length<=i:=by
   refine Nat.le_of_not_lt λhi=>?_;unfold tH at h2;rw[gL1 (by rw[lR1];exact hi),aS]at h2;split at h2<;>cases h2
  unfold tH at h2;rw[gR1 (by rw[lR1];exact hi),lR1,gP1]at h2;obtain⟨j,Q,h2⟩:=oM1.mp h2;have f:X.N.getD j (Str.ofString "")=x:=by
   have f:(T++keep.map λi=>X.N.getD i (Str.ofString ""))[i]?=Z x:=h1;rw[gR1 hi,gP1,Q]at f;exact Option.some.inj f
  obtain⟨y,N,P,ky,ny⟩:=C.free j (gM1 Q);have ao:y=x:=by rw[<- f,bM,N];rfl
  subst ao;have G:σ[j]?=Z (Z v):=by
   cases e:σ[j]? with
   |none=>rw[e]at h2;cases h2
   |some o=>rw[e]at h2;cases h2;rfl
  obtain⟨m,hn,hl⟩:=I.loc;obtain⟨u,V,wq⟩:=hl j y v N G (by
   rcases ky with z|z
   ·exact .inr (.inl z)
   ·exact .inr (.inr z))
  refine⟨u,V,?_⟩;rcases wq with⟨z,_⟩|⟨_,c,aq,zc⟩
  ·rcases ky with q|q<;>(rw[z]at q;cases q)
  ·right;refine⟨?_,c,?_,zc.keeps kept⟩
   ·rw[kindOf,P];simp only[oP1];split
    ·exact .inl O
    ·exact .inr O
   ·obtain⟨c',S⟩:=aQ.mp (PySem.W.cellsFrom_some scope.names (s.heap.objs.size+1) w (.inr (ow A (.inl P))):((cellsFrom (s.heap.objs.size+1) scope.names w).lookup y).isSome=M);have au:(cellsFrom (s.heap.objs.size+1) scope.names w).lookup y=Z c':=S;rcases d y c' au with⟨a1,a2⟩|a1
    ·-- an own cell of that name:its kind would be cell
     exfalso;have:∀(names:List (Str×NameKind)) (n:Nat),(y,c')∈cellsFrom n names []->(y,NameKind.cell)∈names:=by
      have app:∀(names:List (Str×NameKind)) (m:Nat) (acc:List (Str×c4)),cellsFrom m names acc=cellsFrom m names []++acc:=by
       intro names
       induction names with
       |nil=>intro m acc;rfl
       |cons p r ih=>
        obtain⟨z,q⟩:=p;intro m acc;unfold cellsFrom;split
        ·rw[ih _ ((z,m)::acc),ih _ [(z,m)],bf];rfl
        ·exact ih m acc
      intro names
      induction names with
      |nil=>intro n h;cases h
      |cons p r ih=>
       obtain⟨z,q⟩:=p;intro n h;unfold cellsFrom at h;split at h
       ·rename_i U;rw[app]at h;rcases aF.mp h with h|h
        ·exact mC1 _ (ih _ h)
        ·have:(y,c')=(z,n):=by simpa using h
         cases this;have F:q=NameKind.cell:=by simpa using U
         subst F;exact mS1
       ·exact mC1 _ (ih _ h)
     exact ny (this _ _ a2)
    ·rw[aq]at a1;cases a1;exact au
 ·rcases d x c h with⟨a1,a2⟩|a1
  ·exact⟨_,(B.empty x c a2).1⟩
  ·obtain⟨v,z⟩:=I.cell x c a1;exact⟨v,z.keeps kept⟩
 ·rcases d x c h with⟨a1,a2⟩|a1
  ·exact I.hok.fresh (bL a1)
  ·exact I.freeC x c a1
 ·show(tH T.length keep σ).length=(T++keep.map λi=>X.N.getD i (Str.ofString "")).length;unfold tH;rw[lA1,lA1,lR1,lM1,lM1]
def ur(p:Pos)(tg:Expr)(ifs:List Expr)(it:cZ)(env:Env)(emit:Sem Unit)(c:Code):Sem PySem.Fin:=do
 standAt p
 match<-pyNext it with
 |none=>pure (.done .next)
 |some v=>
  letOwnedTupleGo tg it v
  assign tg env v
  let mut ok:=M
  for c in ifs do
   if ok then ok<-isTrue c env (eval c env)
  if ok then emit
  again c
def vA(elt:Expr)(acc:cZ)(env:Env):Sem Unit:=do let _<-call (.builtin "list.append") [acc,<- eval elt env]
theorem AL(elt tg iter:Expr)(ifs:List Expr)(scope:dj)(pos:Pos)(it acc:cZ)(env:Env):
  compTurn (.ListComp elt [⟨tg,iter,ifs,0⟩] scope pos) 0 it acc env=ur iter.pos tg ifs it env (vA elt acc env) (.compLoop (.ListComp elt [⟨tg,iter,ifs,0⟩] scope pos) 0 it acc env):=by rfl
def q3(X:Cx)(ifs:List Expr)(t:TT):Prop:=
 ∀(ag:List (c4×Obj)) (s:c3) (σ:L2.St) (H:Hp) (Q:Bool->Hp->Prop),Inv X ag σ H s->t σ H Q ->
  db (model X.prog X.w) X.A (forIn ifs M λc r=>if r=M then do let ok<-isTrue c X.env (eval c X.env);pure (ForInStep.yield ok)else pure (ForInStep.yield r)) (TP X ag σ Q) X.xe s
theorem Br{X:Cx}:q3 X [] (fun σ H Q=>Q M H):=λag s σ H Q I h=>wpAny_tests_nil ⟨H,I,h⟩
theorem Bq{X:Cx}{c:Expr}{t:TT}(h:PT X c t):q3 X [c] t:=λag s σ H Q I q=>wpAny_tests_one (h ag s σ H Q I q)
def PU(X:Cx)(m:Sem Unit)(t:TS):Prop:=
 ∀(ag:List (c4×Obj)) (s:c3) (σ:L2.St) (H:Hp) (E:kl),Inv X ag σ H s->t E σ H->db (model X.prog X.w) X.A m (λ_ s'=>∃ σ' H',Inv X ag σ' H' s'/\E.nx σ' H') X.xe s
theorem se{X:Cx}(hx:X.xe=fun _ _=>False)(hc:X.calm=true){elt:Expr}{c:List Comprehension}{scope:dj}{pos p:Pos}{d:Nat}{tg:Expr}{ifs:List Expr}{acc:cZ}{emit:Sem Unit}{am:It}{t:List c4}{it:c4}{au:Nat->df->Prop}{g:TG}{ti:TT}{tb:TS}(eq:compTurn (.ListComp elt c scope pos) d (.ref it) acc X.env=ur p tg ifs (.ref it) X.env emit (.compLoop (.ListComp elt c scope pos) d (.ref it) acc X.env))(T:xr X.prog X.w X.K tg am t it au)(hg:PG X tg g)(hi:q3 X ifs ti)(he:PU X emit tb){ag:List (c4×Obj)}{s:c3}{σ:L2.St}{H:Hp}{D:kl}(I:Inv X ag σ H s)(st:au 0 s.heap)(wq:∀b∈t,kZ X ag H b)(h:∃W:Nat->Nat->L2.St->Hp->Prop,(∃m,W 0 m σ H) /\ ∀i m σ H,W i m σ H ->
   (am.stop i H/\D.nx σ H)\/(am.go i H /\ ∃N:L2.St->Hp->Prop,(∀a H',N a H' -> ∃P,P<m/\W (i+1) P a H') /\ ∀x H',am.yld i H x H'->g x σ H' λy H2=>ti y H2 λb z=>if b=M then tb {D with nx:=N} y z else N y z)):
  de (model X.prog X.w) X.A (.compLoop (.ListComp elt c scope pos) d (.ref it) acc X.env) (λr s'=>match r with | .ok _=>∃a H',Inv X ag a H' s'/\D.nx a H' | .error _=>False) s:=by
 obtain⟨W,⟨m0,w0⟩,G⟩:=h;have k:∀{H':Hp},(∀b∈t,H' b=Y) -> ∀b∈t,kZ X ag H' b:=λhn b l=>⟨hn b l,(wq b l).2⟩;refine codeAny_loop O (λn s'=>∃i a H',Inv X ag a H' s'/\au i s'.heap/\(∀b∈t,H' b=Y)/\W i n a H') ?_ m0 ⟨0,σ,H,I,st,λb l=>(wq b l).1,w0⟩;rintro n V ⟨i,j,z,I3,K,ao,w3⟩;show db _ _ ((compTurn (.ListComp elt c scope pos) d (.ref it) acc X.env).onRaise (λx=>do noteFrame x X.env;theTreesLotGoes x)) _ _ V;refine wpAny_noted ?_;rw[eq];have B:∀{α:Type} {m:Sem α} {Q:α->c3->Prop} {s:c3} {E:cZ->c3->Prop},db (model X.prog X.w) X.A m Q X.xe s->db (model X.prog X.w) X.A m Q E s:=λh=>by
  rw[hx]at h;exact wpAny_mono h (λ_ _ q=>q) λ_ _ q=>q.elim
 unfold ur;refine wB1 (wpAny_standAt (wB1 ?_));rcases G i n j z w3 with⟨L,qn⟩|⟨go,N,hN,step⟩
 ·refine B (ff (T.done X O O O hc i ag V j z X.xe I3 (k ao) K L) λr s4 ⟨U,I4⟩=>?_);subst U;exact wP1 ⟨j,z,I4,qn⟩
 ·refine B (ff (T.item X rfl rfl rfl hc i ag V j z X.xe I3 (k ao) K go) fun r s4 ⟨u,U,h4⟩=>?_);subst U;refine wB1 (B (ff h4 fun _ s5 ⟨x,aq,I5,r5,y5,w,R⟩=>?_));have S:=I5.pinned (k R) (T.obj _ _ w);refine wB1 (B (ff (hg _ s5 j aq x u _ S r5 (step x aq y5)) fun _ s6 ⟨F,H6,I6,q6⟩=>?_));refine wB1 (B (ff (hi _ s6 F H6 _ I6 q6) fun ok C ⟨v,A,q7⟩=>?_));have again':∀ {f:L2.St} {v:Hp} {C:c3},Inv X (ag++o5 t s5.heap) f v C->N f v -> ∃ m,m<n /\ ∃ i a H',Inv X ag a H' C/\au i C.heap/\(∀ b∈t,H' b=none)/\W i m a H':=fun {f v C} A n7=>by
   obtain⟨P,hm,w7⟩:=hN f v n7;refine⟨P,hm,i+1,f,v,A.unpinned,T.keep _ _ _ w λb l o e=>(A.pin (b,o) (mA1 _ (mA1 _ (jH l e)))).1,λb l=>?_,w7⟩;obtain⟨o,e,d⟩:=T.obj _ _ w b l;exact(A.pin (b,o) (mA1 _ (mA1 _ (jH l e)))).2.1
  cases ok with
  |false=>exact wP1 ⟨O,again' A q7⟩
  |true=>exact wB1 (B (ff (he _ C F v _ A q7) λ_ s8 ⟨σ8,H8,I8,q8⟩=>wP1 ⟨O,again' I8 q8⟩))
def xM(p:c4)(te:TE):TS:=λD σ H=>te σ H λx H1=>∃xs,H1 p=Z (.lst xs)/\xs.length<da/\D.nx σ (upd H1 p (.lst (xs++[x])))
theorem xU{X:Cx}{elt:Expr}{te:TE}(h:PE X elt te)(p:c4):PU X (vA elt (.ref p) X.env) (xM p te):=by
 intro ag s σ H E I q;unfold vA;refine wB1 (ff (h ag s σ H _ I q) λu d ⟨x,H1,f,b,xs,a,i,g⟩=>?_);refine wB1 (ff (rF ag d σ H1 (.ref p) [x] (.ref p) [u] (λ_ H'=>E.nx σ H') f O (.cons b .nil) ⟨p,xs,x,O,O,a,i,g⟩) λ_ j ⟨_,H2,e,_,c⟩=>?_);exact wP1 ⟨σ,H2,e,c⟩
def Gc(am:It)(g:TG)(ti:TT)(tb:TS):TS:=λD σ H=>∃W:Nat->Nat->L2.St->Hp->Prop,(∃m,W 0 m σ H) /\ ∀i m σ H,W i m σ H ->
 (am.stop i H/\D.nx σ H)\/(am.go i H /\ ∃N:L2.St->Hp->Prop,(∀ σ' H',N σ' H' -> ∃m',m'<m/\W (i+1) m' σ' H') /\ ∀x H',am.yld i H x H'->g x σ H' fun σ2 H2=>ti σ2 H2 λb H3=>if b=M then tb {D with nx:=N} σ2 H3 else N σ2 H3)
theorem Un.sameBut{fs ex:List c4}{H H':Hp}{h h1 h2:df}{c:c4}(u:Un fs ex H H' h h1)(hs:Heap.SameBut c h1 h2)(hc:h.get? c=Y):Un fs ex H H' h h2:=by
 have ne:∀{b o},h.get? b=Z o->b≠c:=λe z=>by rw[z,hc]at e;cases e
 refine⟨λb o e n d a=>(hs.2 b (ne e)).trans (u.keep b o e n d a),λb o e n d a=>?_,u.free,λb o e a=>?_,u.tups,u.frzs,u.tbls⟩
 ·obtain⟨f,q⟩:=u.slot b o e n d a;exact⟨f,(hs.2 b (ne e)).trans q⟩
 ·obtain⟨o',q⟩:=u.there b o e a;exact⟨o',(hs.2 b (ne e)).trans q⟩
def AU(k:Nat)(keep:List Nat)(wi:TI)(g:TG)(ti:TT)(tb:c4->TS):TE:=fun σ H Q=>wi σ H λam H1=>∀p,H1 p=Y ->
 Gc am g ti (tb p) {nx:=λ_ H'=>Q (.ref p) H',rt:=λ_ _=>False} (tH k keep σ) (upd H1 p (.lst []))
theorem Ef{X:Cx}(hc:X.calm=true){elt tg iter:Expr}{ifs:List Expr}{rest:List Comprehension}{scope:dj}{pos:Pos}{T:List Str}{keep:List Nat}{l:List (Str×c4)}{K:TI}{g:TG}{G:TT}{tb:c4->TS}{emit:cZ->Env->Sem Unit}(eq:∀it k i,compTurn (.ListComp elt (⟨tg,iter,ifs,0⟩::rest) scope pos) 0 it k i=ur iter.pos tg ifs it i (emit k i) (.compLoop (.ListComp elt (⟨tg,iter,ifs,0⟩::rest) scope pos) 0 it k i))(C:LV X scope T keep)(t:kX X.env.cells scope.names []=some l)(hi:PI X tg iter K)(hb:∀s H d p,PG (cxC X scope l T keep s H d) tg g/\q3 (cxC X scope l T keep s H d) ifs G/\PU (cxC X scope l T keep s H d) (emit (.ref p) (cxC X scope l T keep s H d).env) (tb p))(hs:∀x,foldedSetIterable iter X.env x=pure x:=by intro _;rfl):
  PE X (.ListComp elt (⟨tg,iter,ifs,0⟩::rest) scope pos) (AU T.length keep K g G tb):=by
 intro ag s σ H Q I h;rw[eval_ListComp];refine wpAny_comprehension_free (use:=Y) O hs (C2 t) C.kind C.names ?_;refine ff (hi ag s σ H _ I h) λv s1 h1=>ff h1 λwq a h2=>?_;obtain⟨it,d,S,am,H2,rfl,L,TT,w,F,V⟩:=h2;refine wO1 ?_;have ao:Inv X ag σ (upd H2 a.heap.objs.size (.lst [])) {a with heap:=a.heap.push {cls:=.type "list",data:=.seq ([]:List cZ).toArray}}:=L.lnew (t':=a.toks) .nil (br _);have old:∀b∈d,∃o,a.heap.get? b=Z o:=λb hb=>by
  obtain⟨o,e,_⟩:=TT.obj 0 a.heap w b hb;exact⟨o,e⟩
 have D:∀b∈d,b≠a.heap.objs.size:=λb hb z=>by
  obtain⟨o,e⟩:=old b hb;have:=hL1 e;rw[z]at this;exact az _ this
 have A:∀b∈d,kZ X ag (upd H2 a.heap.objs.size (.lst [])) b:=λb hb=>⟨by rw[d0 (D b hb)];exact(F b hb).1,(F b hb).2⟩;have o3:∀b∈d,∃o,({a with heap:=a.heap.push {cls:=.type "list",data:=.seq ([]:List cZ).toArray}}:c3).heap.get? b=Z o:=λb hb=>by
  obtain⟨o,e⟩:=old b hb;exact⟨o,hP1 _ e⟩
 have B:=vi ao C t A o3;obtain⟨W,hf,he⟩:=hb {a with heap:=a.heap.push {cls:=.type "list",data:=.seq ([]:List cZ).toArray}} (upd H2 a.heap.objs.size (.lst [])) d a.heap.objs.size;refine lg ?_;have P:∀b∈d,kZ (cxC X scope l T keep {a with heap:=a.heap.push {cls:=.type "list",data:=.seq ([]:List cZ).toArray}} (upd H2 a.heap.objs.size (.lst [])) d) [] (upd H2 a.heap.objs.size (.lst [])) b:=λb hb=>
  ⟨(A b hb).1,(B.ok.exf b hb).1,B.ok.exfs b hb,.inl hb,(B.ok.exf b hb).2,λp au=>absurd (show p∈([]:List (c4×Obj))from au) (by simp)⟩
 have y:S 0 (pushCells ((a.heap.push {cls:=.type "list",data:=.seq ([]:List cZ).toArray}).push {cls:=.type "dict",data:=.dict #[]}) scope.names):=
  TT.keep 0 a.heap _ w λb hb o e=>pushCells_keeps scope.names _ b o (hP1 _ (hP1 _ e))
 have j:=se (X:=cxC X scope l T keep {a with heap:=a.heap.push {cls:=.type "list",data:=.seq ([]:List cZ).toArray}} (upd H2 a.heap.objs.size (.lst [])) d) O hc (eq (.ref it) (.ref a.heap.objs.size) _) TT W hf he B y P
  (V a.heap.objs.size (L.hok.fresh (nR1 _)))
 refine codeAny_mono (codeAny_compStart_list j (TT.self X.A 0 _ _ _ y j)) λr s' N=>?_;cases r with
 |error e=>exact N.elim
 |ok f=>
  obtain⟨aq,H',n,q'⟩:=N;obtain⟨m,R,_⟩:=id n.loc;refine⟨m,R,λh' u=>⟨.ref a.heap.objs.size,H',?_,O,q'⟩⟩;refine ao.call' (s':={s' with heap:=h'}) (ch:=d) n.os (Un.sameBut n.base u (Heap.get?_none_of_le (nR1 _))) (λb U e=>?_) n.bare λb hb=>(A b hb).2.2.2 |> λz=>⟨z.1,(A b hb).2.1,z.2.1,z.2.2⟩
  refine(n.hok b U e).stay (λc w' hc q=>(u.2 c ?_).trans q) (λ_ q=>q) λ_ _ q=>q;rintro rfl;have E:=n.free;rcases hc with rfl|hc
  ·exact nomatch E.symm.trans e
  ·exact nomatch E.symm.trans hc
section
variable{K:Fg1}{H:Hp}{mu:List c4}{S:dr}{p:c4}{u:HO}{o:Ob}{n:Nat}
theorem Rd.ne{a:c4}{x:HO}(h:H p=Y)(q:Rd H a x):a≠p:=by
 rintro rfl;rcases q with q|⟨_,q⟩<;>(rw[h]at q;cases q)
theorem Ext.fresh(hp:H p=Y):Ext mu mu H (upd H p u) where
 pre:=bv
 old:=λa o h _=>by rw[d0 (ew h hp)];exact h
 tup:=λa xs h=>by
  have ne:=Rd.ne hp h;rcases h with h|⟨b,h⟩
  ·exact .inl (by rw[d0 ne];exact h)
  ·exact .inr ⟨b,by rw[d0 ne];exact h⟩
 frz:=λa o x h=>by rw[d0 (ew h hp)];exact h
 new:=λ_ h=>.inl h
theorem Ext.new_(hp:H p=Y):Ext mu (mu++[p]) H (upd H p u) where
 pre:=bE _ _
 old:=(Ext.fresh (mu:=mu) hp).old
 tup:=(Ext.fresh (mu:=mu) hp).tup
 frz:=(Ext.fresh (mu:=mu) hp).frz
 new:=λa h=>by
  rcases aF.mp h with h|h
  ·exact .inl h
  ·have:a=p:=by simpa using h
   subst this;exact .inr hp
theorem Sim.fresh(s:Sim K H mu S)(hp:H p=Y):Sim K (upd H p u) mu S:=
 ⟨s.len,s.nd,λk o a h1 h2=>(s.ob k o a h1 h2).keep (Ext.fresh hp) λb e=>by rw[d0 (ew e hp)];exact e⟩
theorem Sim.notin(s:Sim K H mu S)(hp:H p=Y):p∉mu:=λh=>by
 obtain⟨o,e⟩:=s.here h;rw[hp]at e;cases e
theorem qs.more{a:c4}{mu':List c4}{H':Hp}(e:Ext mu mu' H H')(h:∀o,H a=Z o->H' a=Z o):∀{o:Ob},qs K H mu a o->qs K H' mu' a o
 | .lst _,⟨vs,q,r⟩=>⟨vs,h _ q,r.ext e⟩
 | .dct _,⟨ws,q,r⟩=>⟨ws,h _ q,KR.ext e r⟩
 | .dcT _,⟨ws,q,r,l⟩=>⟨ws,h _ q,KT.ext e r,l⟩
 | .iset _,q=>⟨h _ q.1,q.2⟩
 | .dcF _,⟨ws,⟨o,u,b,c⟩,r,l⟩=>⟨ws,⟨o,u,h _ b,c⟩,KT.ext e r,l⟩
 | .tst _,⟨ws,q,r⟩=>⟨ws,h _ q,KT.ext e r⟩
theorem Sim.new(s:Sim K H mu S)(hp:H p=Y)(ho:qs K (upd H p u) (mu++[p]) p o):Sim K (upd H p u) (mu++[p]) (S++[o]):=by
 refine⟨by rw[lA1,lA1,s.len];rfl,?_,λk o' a h1 h2=>?_⟩
 ·rw[bG];refine⟨s.nd,by simp,λa g b f e=>?_⟩;have:b=p:=by simpa using f
  subst this;subst e;exact s.notin hp g
 ·by_cases d:k<S.length
  ·rw[gL1 d]at h1;rw[gL1 (by rw[s.len];exact d)]at h2;exact(s.ob k o' a h1 h2).more (Ext.new_ hp) λh e=>by rw[d0 (ew e hp)];exact e
  ·have c:k=S.length:=by
    have:=(gE1.mp h1).1;rw[lA1]at this;simp at this;lia
   subst c;rw[gR1 (nR1 _)]at h1;rw[<- s.len,gR1 (nR1 _)]at h2;simp at h1 h2;subst h1;subst h2;exact ho
theorem Ext.put{x:HO}(hp:H p=Z x)(hm:JG (Z x))(b:p∈mu):Ext mu mu H (upd H p u) where
 pre:=bv
 old:=λa o h n=>by rw[d0 (λe=>n (by rw[e];exact b))];exact h
 tup:=λa xs h=>by
  have ne:a≠p:=by
   rintro rfl;rcases h with h|⟨_,h⟩<;>(rw[hp]at h;cases h;exact hm)
  rcases h with h|⟨c,h⟩
  ·exact .inl (by rw[d0 ne];exact h)
  ·exact .inr ⟨c,by rw[d0 ne];exact h⟩
 frz:=λa o y h=>by
  rw[d0 (λe=>?_)]
  ·exact h
  ·subst e;rw[hp]at h;cases h;exact hm
 new:=λ_ h=>.inl h
theorem Sim.put(s:Sim K H mu S){x:HO}(hn:mu[n]?=Z p)(hp:H p=Z x)(hm:JG (Z x))(ho:qs K (upd H p u) mu p o):Sim K (upd H p u) mu (S.set n o):=by
 refine⟨by rw[aX];exact s.len,s.nd,λk o' a h1 h2=>?_⟩;by_cases b:n=k
 ·subst b;have f:n<S.length:=by
   have:=(gE1.mp h1).1
   rwa [aX]at this
  rw[aH f]at h1;cases h1;rw[hn]at h2;cases h2;exact ho
 ·rw [gS1 b] at h1;have ne:a≠p:=fun e=>by
   subst e;obtain⟨h,d⟩:=gE1.mp hn;obtain⟨g,c⟩:=gE1.mp h2;exact b ((List.getElem_inj s.nd).mp (d.trans c.symm))
  exact(s.ob k o' a h1 h2).keep (Ext.put hp hm (gM1 hn)) λi e=>by rw[d0 ne];exact e
theorem Sim.lst(s:Sim K H mu S){ds:List D}{a:c4}(h:S[n]?=Z (.lst ds))(hn:mu[n]?=Z a):∃vs,H a=Z (.lst vs)/\dI K H mu ds vs:=s.ob n _ a h hn
theorem Sim.dcT(s:Sim K H mu S){ks:List (TK×D)}{a:c4}(h:S[n]?=Z (.dcT ks))(hn:mu[n]?=Z a):∃ws,H a=Z (.ext (iW a ws))/\KT K H mu ks ws/\ws.length<=da:=s.ob n _ a h hn
theorem Sim.dct(s:Sim K H mu S){ks:List (Key×D)}{a:c4}(h:S[n]?=Z (.dct ks))(hn:mu[n]?=Z a):∃ws,H a=Z (.dK ws)/\KR K H mu ks ws:=s.ob n _ a h hn
theorem Sim.newL(s:Sim K H mu S){ds:List D}{vs:List V}(r:dI K H mu ds vs)(hp:H p=Y):Sim K (upd H p (.lst vs)) (mu++[p]) (S++[.lst ds]):=s.new hp ⟨vs,d9,r.ext (Ext.new_ hp)⟩
theorem Sim.putL(s:Sim K H mu S){ds:List D}{vs ws:List V}(r:dI K H mu ds vs)(hn:mu[n]?=Z p)(hp:H p=Z (.lst ws)):Sim K (upd H p (.lst vs)) mu (S.set n (.lst ds)):=
 s.put hn hp trivial ⟨vs,d9,r.ext (Ext.put hp trivial (gM1 hn))⟩
end
theorem gi{mu:List c4}{S:dr}(h:mu.length=S.length)(p:c4):(mu++[p])[S.length]?=Z p:=by
 rw[<- h,gR1 (nR1 _)];simp
noncomputable def d8 (a:FA):FE:=λr S=>(a r S).bind λp=>if p.1.length<=da then some (.tup p.1,p.2)else none
noncomputable def eZ (a:FA):FE:=λr S=>(a r S).bind λp=>if p.1.length<=da then some (.ref p.2.length,p.2++[.lst p.1])else none
section
variable{X:Cx}{es:List Expr}{pos:Pos}{a:FA}
theorem Ix{x1}(h:MA X es a):ME X (.Tuple es x1 pos) (d8 a):=eP (Hv h) <| by
 rintro σ H Q ⟨r,mu,S,d,l,j,f,b,hc⟩;obtain⟨⟨ds,m⟩,g,b⟩:=oB1.mp b;dsimp only at b;split at b
 ·rename_i k;cases b;refine⟨r,mu,S,ds,_,j,f,g,λvs H1 mu1 x1 e i=>⟨by rw[<- e.length];exact k,λp c=>?_⟩⟩;exact hc _ _ mu1 (x1.trans (Ext.fresh c)) (.tup (kP.of d9) (e.ext (Ext.fresh c))) (i.fresh c)
 ·cases b
theorem ID(h:MA X es a):ME X (.List es pos) (eZ a):=eP (HA h) <| by
 rintro σ H Q ⟨r,mu,S,d,m,j,g,b,hc⟩;obtain⟨⟨ds,n⟩,i,b⟩:=oB1.mp b;dsimp only at b;split at b
 ·rename_i l;cases b;refine⟨r,mu,S,ds,_,j,g,i,λvs H1 mu1 k c f=>⟨by rw[<- c.length];exact l,λp e=>?_⟩⟩;exact hc _ _ (mu1++[p]) (k.trans (Ext.new_ e)) (.ref (gi f.len p)) (f.newL c e)
 ·cases b
end
def ju(k:Nat)(keep:List Nat)(r:Ev):Ev:=aP k Y++keep.map λi=>(r[i]?).join
def ea:FT:=λ_ S=>Z (M,S)
theorem K8{K:Fg1}{H:Hp}{mu:List c4}{r:Ev}{σ:L2.St}(k:Nat)(keep:List Nat)(h:fH K H mu r σ):fH K H mu (ju k keep r) (tH k keep σ):=by
 refine⟨by unfold ju tH;rw[lA1,lA1,lM1,lM1,lR1,lR1],λi d e=>?_⟩;unfold ju at e;unfold tH;by_cases hi:i<k
 ·rw[gL1 (by rw[lR1];exact hi),aS]at e;split at e<;>cases e
 ·rw [gR1 (by rw [lR1];lia),lR1,gP1] at e;rw [gR1 (by rw [lR1];lia),lR1,gP1];obtain ⟨j,b,e⟩:=oM1.mp e;rw [b];have c:r[j]? = some (some d):=by
   cases q:r[j]? with
   |none=>rw[q]at e;cases e
   |some o=>rw[q]at e;cases e;rfl
  obtain⟨v,f,a⟩:=h.val j d c;exact⟨v,by rw[oP1,f];rfl,a⟩
section
variable{X:Cx}
theorem Bt{ifs:List Expr}{t t':L2.TT}(h:q3 X ifs t)(i:∀ σ H Q,t' σ H Q->t σ H Q):q3 X ifs t':=λag s σ H Q I q=>h ag s σ H Q I (i σ H Q q)
theorem EC:q3 X [] (DJ X.K ea):=Bt Br fun σ H Q ⟨r,mu,S,b,e,d,c,a,hc⟩=>by cases a;exact hc H mu (.refl _ _) c
theorem EB{c:Expr}{t:FT}(h:MT X c t):q3 X [c] (DJ X.K t):=Bq h
end
open PySem.AutoSeq1 (wpAny_loadPart')
def SIt(b:Bool)(h:df)(it a:c4)(i:Nat):Prop:=match b with
 |true=>h.IsListIter it a i
 |false=>h.IsTupleIter it a i
def SCo(b:Bool)(h:df)(a:c4)(xs:Array cZ):Prop:=match b with
 |true=>h.IsList a xs
 |false=>h.IsTuple a xs
theorem SIt.to{b:Bool}{h h':df}{it a:c4}{i:Nat}(x:SIt b h it a i)(k:∀o,h.get? it=Z o->h'.get? it=Z o):SIt b h' it a i:=by
 cases b<;>(obtain⟨o,e,r⟩:=x;exact⟨o,k o e,r⟩)
theorem SIt.rec_{b:Bool}{h:df}{it a:c4}{i:Nat}(x:SIt b h it a i):∃o,h.get? it=Z o /\ ∀v,o.data ≠ .cell v:=by
 cases b<;>(obtain⟨o,e,c,d⟩:=x;exact⟨o,e,λv z=>by rw[d]at z;cases z⟩)
theorem SCo.to{b:Bool}{h h':df}{a:c4}{xs:Array cZ}(x:SCo b h a xs)(k:∀o,h.get? a=Z o->h'.get? a=Z o):SCo b h' a xs:=by
 cases b<;>(obtain⟨o,e,r⟩:=x;exact⟨o,k o e,r⟩)
def fO(b:Bool)(a:c4):Obj:=match b with
 |true=>{cls:=.type "list_iterator",data:=.fields #[.ref a,.int 0 0]}
 |false=>{cls:=.type "tuple_iterator",data:=.fields #[.ref a,.int 0 0]}
section
variable{prog:c5}{w:c7}{A:c6}{E:cZ->c3->Prop}{s:c3}
theorem sM{b:Bool}{h:df}{it a:c4}(e:h.get? it=Z (fO b a)):SIt b h it a 0:=by
 cases b<;>exact⟨_,e,O,O⟩
theorem jj{b:Bool}{a:c4}{xs:Array cZ}{Q:cZ->c3->Prop}(x:SCo b s.heap a xs)(h:Q (.ref s.heap.objs.size) {s with heap:=s.heap.push (fO b a)}):db (model prog w) A (pyIter (.ref a)) Q E s:=by
 cases b
 ·exact wpAny_pyIter_tuple x h
 ·exact wpAny_pyIter_list x h
theorem BW{it l:c4}{i:Nat}{xs:Array cZ}{x:cZ}{Q:cZ->c3->Prop}(e:s.heap.IsTupleIter it l i)(tl:s.heap.IsTuple l xs)(hx:xs[i]? = Z x)(f:∀h',h'.IsTupleIter it l (i+1)->Heap.SameBut it s.heap h'->Q x {s with heap:=h'}):db (model prog w) A (Builtin.SmallTypes.nextOf (.ref it)) Q E s:=by
 obtain⟨o,b,hc,a⟩:=id e;obtain⟨h,c,_,g,d⟩:=tl;unfold Builtin.SmallTypes.nextOf;refine wB1 (wpAny_callSpecial?_slot (name:=Str.ofString "__next__") e.typeIs F.slot_tuple_iterator_next (wE1 F.slot_tuple_iterator_next e.typeIs F.entry_tuple_iterator_next ?_ (F.args_tuple_iterator_next_1 _)));show db _ _ (field (.ref it) 0 >>= _) _ _ s;refine wB1 (wpAny_field b a (x:=.ref l) O ?_);show db _ _ (if(Value.ref l == Value.none)=M then _ else _) _ _ s;rw[aj (show¬ ((Value.ref l == Value.none)=M)from aK)];show db _ _ (field (.ref it) 1 >>= _) _ _ s;refine wB1 (wpAny_field b a (x:=.int i 0) O ?_);show db _ _ (seqItems? (.ref l) >>= _) _ _ s;refine wB1 (wpAny_seqItems c d ?_);simp only[Int.toNat_natCast,hx];refine wB1 (wpAny_setField b a (by simp) (wP1 ⟨x,O,wP1 (f _ ⟨_,hW1 _ b (Obj.isFreed_of_fields (Obj.data_mapFields a _)),(Obj.cls_mapFields ..).trans hc,by rw[Obj.data_mapFields a];simp[rawInt]⟩ (Heap.SameBut.update ..))⟩))
theorem tw {it l:c4}{i:Nat}{xs:Array cZ}{Q:cZ->c3->Prop}(h:A.handled=none)(g:s.heap.IsTupleIter it l i)(tl:s.heap.IsTuple l xs)(hx:xs[i]? = none)
  (j:∀h' e,Heap.ExtBut it s.heap h'->(∃o,h'.get? e=Z o/\o.cls = .type "StopIteration")->E (.ref e) {s with heap:=h'}):db (model prog w) A (Builtin.SmallTypes.nextOf (.ref it)) Q E s:=by
 obtain⟨o,d,hc,f⟩:=id g;obtain⟨n,b,_,k,c⟩:=tl;unfold Builtin.SmallTypes.nextOf;refine wB1 (wpAny_callSpecial?_slot (name:=Str.ofString "__next__") g.typeIs F.slot_tuple_iterator_next (wE1 F.slot_tuple_iterator_next g.typeIs F.entry_tuple_iterator_next ?_ (F.args_tuple_iterator_next_1 _)));show db _ _ (field (.ref it) 0 >>= _) _ _ s;refine wB1 (wpAny_field d f (x:=.ref l) O ?_);show db _ _ (if(Value.ref l == Value.none)=M then _ else _) _ _ s;rw[aj (show¬ ((Value.ref l == Value.none)=M)from aK)];show db _ _ (field (.ref it) 1 >>= _) _ _ s;refine wB1 (wpAny_field d f (x:=.int i 0) O ?_);show db _ _ (seqItems? (.ref l) >>= _) _ _ s;refine wB1 (wpAny_seqItems b c ?_);simp only[Int.toNat_natCast,hx];refine wB1 (wpAny_rule (wB1 (wpAny_setField d f (by simp) ?_)));show db _ _ (newExc (.type "StopIteration") [] >>= _) _ _ _;refine wB1 ?_;simp only[newExc,newTuple];refine wB1 (wO1 ?_ (by size_fits));refine wB1 (m:=firstArgMember _ _) (wpAny_of_eq (a:=Value.none) (by first|rfl|(simp only[firstArgMember];rfl)) ?_);refine wO1 ?_ (by size_fits);simp only[raiseNew];refine wB1 (wpAny_handled ?_)
 first|rw[show A.in1.handled=Y from h] | rw[h]
 refine wB1 (wP1 (wpAny_throw ?_));exact j _ _ (((Heap.SameBut.update ..).extBut.push _).push _) ⟨_,hS1 _ O,O⟩
theorem lV{b:Bool}{it l:c4}{i:Nat}{xs:Array cZ}{x:cZ}{Q:cZ->c3->Prop}(a:SIt b s.heap it l i)(tl:SCo b s.heap l xs)(hx:xs[i]? = Z x)(c:∀h',SIt b h' it l (i+1)->Heap.SameBut it s.heap h'->Q x {s with heap:=h'}):db (model prog w) A (Builtin.SmallTypes.nextOf (.ref it)) Q E s:=by
 cases b
 ·exact BW a tl hx c
 ·exact wpAny_nextOf_list_item a tl hx c
theorem jF {b:Bool}{it l:c4}{i:Nat}{xs:Array cZ}{Q:cZ->c3->Prop}(d:A.handled=none)(c:SIt b s.heap it l i)(tl:SCo b s.heap l xs)(hx:xs[i]? = none)
  (a:∀h' e,Heap.ExtBut it s.heap h'->(∃o,h'.get? e=Z o/\o.cls = .type "StopIteration")->E (.ref e) {s with heap:=h'}):db (model prog w) A (Builtin.SmallTypes.nextOf (.ref it)) Q E s:=by
 cases b
 ·exact tw d c tl hx a
 ·exact wpAny_nextOf_list_end d c tl hx a
theorem CU{b:Bool}(l:c4)(xs:Array cZ):
  Meets (Builtin.«enumerate.__new__» ⟨[.type "enumerate",.ref l],[]⟩) (λ_ R s=>SCo b s.heap l xs /\
   R (.ok (.ret (.ref (s.heap.push (fO b l)).objs.size))) {s with heap:=(s.heap.push (fO b l)).push {cls:=.type "enumerate",data:=.fields #[.none,.bool J,.ref s.heap.objs.size,rawInt 0,.none,.none]}}):=
 .of_wp λprog w A R s h=>by
  obtain⟨i,g,d,tk,k⟩:=s;obtain⟨f,h⟩:=h;have a:=sub_enumerate
  have j:SCo b (Shared.heap ⟨i,g,d,tk,k⟩) l xs:=f;obtain⟨m,el⟩:∃o,i.get? l=some o:=by cases b<;>(obtain⟨o,e,_⟩:=f;exact⟨o,e⟩)
  wp_walk using wpAny_loadPart' el
  refine wpAny_stack_any λst=>wP1 ?_;split
  ·rename_i c _ _ _ _ _;cases(c == Value.type "enumerate")<;>(wp_walk using wpAny_loadPart' el,jj j;exact⟨_,O,h⟩)
  ·wp_walk using wpAny_loadPart' el,jj j
   exact⟨_,O,h⟩
theorem zT{b:Bool}{l:c4}{xs:Array cZ}{Q:cZ->c3->Prop}(f:SCo b s.heap l xs)(h:∀h',IsEnum h' (s.heap.objs.size+1) s.heap.objs.size 0 .none->SIt b h' s.heap.objs.size l 0->h'.objs.size=s.heap.objs.size+2->(∀b o,s.heap.get? b=some o->h'.get? b=some o)->Q (.ref (s.heap.objs.size+1)) {s with heap:=h'}):
  db (model prog w) A (call (.type "enumerate") [.ref l]) Q E s:=by
 refine callType_new F.called_enumerate (by decide) (F.typeCall_enumerate_1 _) (F.newCall_enumerate_1 _) (λd=>F.args_object_init_2 d _) F.entry_enumerate_new (CU (b:=b) l xs) ⟨f,?_⟩;have a:(s.heap.push (fO b l)).objs.size=s.heap.objs.size+1:=hZ1 ..
 show _/\_;rw[a];have e:IsEnum ((s.heap.push (fO b l)).push {cls:=.type "enumerate",data:=.fields #[.none,.bool J,.ref s.heap.objs.size,rawInt 0,.none,.none]}) (s.heap.objs.size+1) s.heap.objs.size 0 .none:=by
  have q:=hS1 (s.heap.push (fO b l)) (o:={cls:=.type "enumerate",data:=.fields #[.none,.bool J,.ref s.heap.objs.size,rawInt 0,.none,.none]}) O;rw[a]at q;exact q
 have hi:(s.heap.push (fO b l)).get? s.heap.objs.size=Z (fO b l):=hS1 _ (by cases b<;>rfl);refine⟨⟨_,e,O⟩,h _ e (sM (hP1 _ hi)) (by rw[hZ1,a]) λc o x=>hP1 _ (hP1 _ x)⟩
theorem zS {b:Bool}{e it l:c4}{i:Nat}{xs:Array cZ}{x old:cZ}{Q:Option cZ->c3->Prop}(he:IsEnum s.heap e it i old)(U:SIt b s.heap it l i)(tl:SCo b s.heap l xs)(hx:xs[i]? = some x)(k:e≠it)
  (V:∀h',IsEnumOut h' e it ((i:Int)+1) x s.heap.objs.size->SIt b h' it l (i+1)->h'.get? s.heap.objs.size=Z {cls:=.type "tuple",data:=.seq #[.int i s.toks,x]}->h'.objs.size=s.heap.objs.size+1 ->
   (∀b o,b≠e->b≠it->s.heap.get? b=Z o->h'.get? b=Z o)->Q (Z (.ref s.heap.objs.size)) {s with heap:=h',toks:=s.toks+1}):db (model prog w) A (pyNext (.ref e)) Q E s:=by
 have T:s.TypeIs (.ref e) "enumerate":=⟨_,he,O⟩;unfold pyNext;refine wB1 (wpAny_attempt (wpAny_callSpecial?_slot (name:=Str.ofString "__next__") T F.slot_enumerate_next (wE1 F.slot_enumerate_next T F.entry_enumerate_next ?_ (F.args_enumerate_next_1 _))));obtain⟨j,g,d,tk,t⟩:=s;show db _ _ (field (.ref e) 2 >>= _) _ _ _;refine wB1 (wpAny_field he O (x:=.ref it) O ?_);refine wB1 (lV U tl hx λh1 H C=>?_);replace C:Heap.SameBut it j h1:=C;have h:IsEnum h1 e it i old:=(C.2 e k).trans he;show db _ _ (field (.ref e) 3 >>= _) _ _ ⟨h1,g,d,tk,t⟩;refine wB1 (wpAny_field h O (x:=rawInt i) O ?_);show db _ _ (field (.ref e) 4 >>= _) _ _ ⟨h1,g,d,tk,t⟩;refine wB1 (wpAny_field h O (x:=.none) O ?_);show db _ _ (mkInt i >>= _) _ _ ⟨h1,g,d,tk,t⟩;refine wB1 (wpAny_mkInt ?_);show db _ _ (setField (.ref e) 3 (rawInt ((i:Int)+1)) >>= _) _ _ ⟨h1,g,d,tk+1,t⟩;refine wB1 (wS1 h (by simp) λh2 r D=>?_);replace D:Heap.SameBut e h1 h2:=D;replace r:IsEnum h2 e it ((i:Int)+1) old:=r;show db _ _ (setField (.ref e) 4 .none >>= _) _ _ ⟨h2,g,d,tk+1,t⟩;refine wB1 (wS1 r (by simp) λh3 m G=>?_);replace G:Heap.SameBut e h2 h3:=G;replace m:IsEnum h3 e it ((i:Int)+1) old:=m;show db _ _ (newTuple [.int i tk,x] >>= _) _ _ ⟨h3,g,d,tk+1,t⟩;refine wB1 (wpAny_newTuple ?_);have p:IsEnum (h3.push {cls:=.type "tuple",data:=.seq #[.int i tk,x]}) e it ((i:Int)+1) old:=hP1 _ m;generalize f:h3.push {cls:=.type "tuple",data:=.seq #[.int i tk,x]}=h4 at p;have n:h3.objs.size=j.objs.size:=by rw[G.1,D.1,C.1]
 have au:e<j.objs.size:=hL1 he;have S:h4.get? j.objs.size=Z {cls:=.type "tuple",data:=.seq #[.int i tk,x]}:=by rw[<- f,<- n];exact hS1 _ O
 have P:h4.objs.size=j.objs.size+1:=by rw[<- f,hZ1,n]
 have N:∀b o,b≠e->b≠it->j.get? b=Z o->h4.get? b=Z o:=λb o a y L=>by
  rw[<- f];exact hP1 _ (G.extBut b o a (D.extBut b o a (C.extBut b o y L)))
 have ao:SIt b h4 it l (i+1):=H.to λo q=>by rw[<- f];exact hP1 _ (G.extBut _ _ (Ne.symm k) (D.extBut _ _ (Ne.symm k) q))
 show db _ _ (Builtin.SmallTypes.ownedTupleIsFree (.ref e) >>= _) _ _ ⟨h4,g,d,tk+1,t⟩;rw[n];clear f m G r D h C H n h3 h2 h1;refine wB1 ?_;unfold Builtin.SmallTypes.ownedTupleIsFree;refine wB1 (wpAny_field p O (x:=.none) O (wP1 ?_));simp only[if_true];refine wB1 (wpAny_rule ?_);refine wB1 (wpAny_field p O (x:=old) O ?_);refine wB1 (wS1 p (by simp) λh5 B am=>?_);replace am:Heap.SameBut e h4 h5:=am;replace B:IsEnum h5 e it ((i:Int)+1) x:=B;show db _ _ (Builtin.SmallTypes.ownedTupleHandOut (.ref e) (.ref j.objs.size) >>= _) _ _ ⟨h5,g,d,tk+1,t⟩;refine wB1 ?_;unfold Builtin.SmallTypes.ownedTupleHandOut;refine wB1 (wS1 B (by simp) λh6 v I=>?_);replace I:Heap.SameBut e h5 h6:=I;replace v:IsEnumOut h6 e it ((i:Int)+1) x j.objs.size:=v;refine wS1 v (by simp) λh7 u K=>?_;replace K:Heap.SameBut e h6 h7:=K;replace u:IsEnumOut h7 e it ((i:Int)+1) x j.objs.size:=u;have R:∀c o,c≠e->h4.get? c=Z o->h7.get? c=Z o:=λc o z q=>K.extBut _ _ z (I.extBut _ _ z (am.extBut _ _ z q));refine wB1 (wpAny_letGo (wP1 ⟨_,O,wP1 (V h7 u (ao.to λo q=>R _ o (Ne.symm k) q) (R _ _ (nG1 au) S) (by rw[K.1,I.1,am.1,P]) λc o a y L=>R c o a (N c o a y L))⟩))
theorem CW{b:Bool}{e it l:c4}{i:Nat}{xs:Array cZ}{old:cZ}{Q:Option cZ->c3->Prop}(g:A.handled=Y)(he:IsEnum s.heap e it i old)(j:SIt b s.heap it l i)(tl:SCo b s.heap l xs)(hx:xs[i]? = Y)(f:∀h',Heap.ExtBut it s.heap h'->Q Y {s with heap:=h'}):db (model prog w) A (pyNext (.ref e)) Q E s:=by
 have d:s.TypeIs (.ref e) "enumerate":=⟨_,he,O⟩;unfold pyNext;refine wB1 (wpAny_attempt (wpAny_callSpecial?_slot (name:=Str.ofString "__next__") d F.slot_enumerate_next (wE1 F.slot_enumerate_next d F.entry_enumerate_next ?_ (F.args_enumerate_next_1 _))));show db _ _ (field (.ref e) 2 >>= _) _ _ _;refine wB1 (wpAny_field he O (x:=.ref it) O ?_);refine wB1 (jF g j tl hx λh' x c a=>?_);obtain⟨o,h,hc⟩:=a;refine wB1 (wpAny_isInstance (T:="StopIteration") (b:=M) ⟨o,h,hc⟩ isSubtype_stop ?_);exact wP1 (f _ c)
theorem r9{e it:c4}{i:Int}{old:cZ}{Q:cZ->c3->Prop}(he:IsEnum s.heap e it i old)(h:Q (.ref e) s):db (model prog w) A (pyIter (.ref e)) Q E s:=by
 have a:s.TypeIs (.ref e) "enumerate":=⟨_,he,O⟩;refine wpAny_pyIter_slot a F.slot_enumerate_iter (wE1 F.slot_enumerate_iter a F.entry_enumerate_iter ?_ (F.args_enumerate_iter_1 _));show db _ _ (ret (.ref e)) _ _ s;exact wP1 ⟨_,O,"enumerate",_,a,F.slot_enumerate_next.lookup,h⟩
end
open PySem.AutoSeq1 (wpAny_loadPart')
structure Nh (z ti to i1 i2:c4):Prop where
 a1:ti≠z
 a2:to≠z
 a3:i1≠z
 a4:i2≠z
 a5:ti≠to
 a6:ti≠i1
 a7:ti≠i2
 a8:to≠i1
 a9:to≠i2
 a10:i1≠i2
section
variable{prog:c5}{w:c7}{A:c6}{E:cZ->c3->Prop}{s:c3}{b1 b2:Bool}
theorem SCo.ne{b:Bool}{h:df}{a c:c4}{xs:Array cZ}{o:Obj}(x:SCo b h a xs)(e:h.get? c=Z o)(n:∀ys k,o.data ≠ .seq ys k):a≠c:=by
 rintro rfl;cases b<;>(obtain⟨o',f,g,k,d⟩:=x;rw[e]at f;cases f;exact n _ _ d)
theorem SCo.ne_it{b f:Bool}{h:df}{a it l:c4}{xs:Array cZ}{i:Nat}(x:SCo b h a xs)(y:SIt f h it l i):a≠it:=by
 cases f<;>(obtain⟨o,e,c,d⟩:=y;exact x.ne e λys k z=>by rw[d]at z;cases z)
theorem Aw{z g to i1 i u t:c4}{N au:Nat}{xs ys:Array cZ}{x y a b:cZ}{Q:Option cZ->c3->Prop}(D:Nh z g to i1 i)(hz:IsZip s.heap z g to .none)(wq:IsPair s.heap g (.ref i1) (.ref i))(aq:IsPair s.heap to a b)(n1:u≠to)(n2:t≠to)(h1:SIt b1 s.heap i1 u N)(h2:SIt b2 s.heap i t au)(c1:SCo b1 s.heap u xs)(c2:SCo b2 s.heap t ys)(hx:xs[N]?=some x)(hy:ys[au]?=some y)(hQ:∀h',IsZip h' z g to (rawInt s.heap.objs.size)->IsPair h' to x y->SIt b1 h' i1 u (N+1)->SIt b2 h' i t (au+1)->IsPair h' s.heap.objs.size x y->h'.objs.size=s.heap.objs.size+1 ->
   (∀c o,c≠z->c≠to->c≠i1->c≠i->s.heap.get? c=Z o->h'.get? c=Z o)->Q (Z (.ref s.heap.objs.size)) {s with heap:=h'}):db (model prog w) A (pyNext (.ref z)) Q E s:=by
 have hT:s.TypeIs (.ref z) "zip":=⟨_,hz,O⟩;have X:u≠z:=c1.ne hz λ_ _ q=>by cases q
 have l2z:t≠z:=c2.ne hz λ_ _ q=>by cases q
 have ao:t≠i1:=c2.ne_it h1;unfold pyNext;refine wB1 (wpAny_attempt (wpAny_callSpecial?_slot (name:=Str.ofString "__next__") hT F.slot_zip_next (wE1 F.slot_zip_next hT F.entry_zip_next ?_ (F.args_zip_next_1 _))));show db _ _ (field (.ref z) 2 >>= _) _ _ _;refine wB1 (wpAny_field hz O (x:=.bool J) O ?_);show db _ _ (field (.ref z) 3 >>= _) _ _ _;refine wB1 (wpAny_field hz O (x:=.ref g) O ?_);refine wB1 (wpAny_seqItems wq O ?_);show db _ _ (Builtin.SmallTypes.ownedTupleIsFree (.ref z) >>= _) _ _ _;refine wB1 ?_;unfold Builtin.SmallTypes.ownedTupleIsFree;refine wB1 (wpAny_field hz O (x:=.none) O (wP1 ?_));simp only[if_true];refine wB1 (wpAny_rule ?_);refine wB1 (wpAny_field hz O (x:=.ref to) O ?_);refine wB1 (wS1 hz (by simp) λg1 r m=>?_);replace r:IsZip g1 z g to .ellipsis:=r;refine wB1 ?_;simp only[bN,List.zipIdx_nil,List.forIn_cons,List.forIn_nil];refine wB1 (wB1 (wpAny_onRaise ?_));show db _ _ (Builtin.SmallTypes.nextOf (.ref i1) >>= _) _ _ _
 refine wB1 (lV (h1.to λo q=>m.extBut _ _ D.a3 q) (c1.to λo q=>m.extBut _ _ X q) hx λg2 h12 v=>wP1 ?_);have k:IsPair g2 to a b:=v.extBut _ _ D.a8 (m.extBut _ _ D.a2 aq);refine wB1 (wpAny_seqItems k O ?_);refine wB1 (wpAny_updateSeq_pair k λg3 f B=>?_);replace f:IsPair g3 to x b:=f;refine wB1 (wpAny_letGo (wP1 ?_));refine wB1 (wB1 (wpAny_onRaise ?_));show db _ _ (Builtin.SmallTypes.nextOf (.ref i) >>= _) _ _ _
 refine wB1 (lV (h2.to λo q=>B.extBut _ _ D.a9.symm (v.extBut _ _ D.a10.symm (m.extBut _ _ D.a4 q))) (c2.to λo q=>B.extBut _ _ n2 (v.extBut _ _ ao (m.extBut _ _ l2z q))) hy λg4 h24 C=>wP1 ?_);have l:IsPair g4 to x b:=C.extBut _ _ D.a9 f;refine wB1 (wpAny_seqItems l O ?_);refine wB1 (wpAny_updateSeq_pair l λd e I=>?_);replace e:IsPair d to x y:=e;refine wB1 (wpAny_letGo (wP1 (wP1 ?_)));refine wB1 (wpAny_seqItems e O ?_);refine wB1 (wpAny_newTuple ?_);have am:d.objs.size=s.heap.objs.size:=by rw[I.1,C.1,B.1,v.1,m.1]
 have G:IsZip d z g to .ellipsis:=I.extBut _ _ D.a2.symm (C.extBut _ _ D.a4.symm (B.extBut _ _ D.a2.symm (v.extBut _ _ D.a3.symm r)));have W:∀c o,c≠z->c≠to->c≠i1->c≠i->s.heap.get? c=Z o->d.get? c=Z o:=λc o n P T q4 q=>I.extBut _ _ P (C.extBut _ _ q4 (B.extBut _ _ P (v.extBut _ _ T (m.extBut _ _ n q))));have h15:SIt b1 d i1 u (N+1):=h12.to λo q=>I.extBut _ _ D.a8.symm (C.extBut _ _ D.a10 (B.extBut _ _ D.a8.symm q));have S:SIt b2 d i t (au+1):=h24.to λo q=>I.extBut _ _ D.a9.symm q;have j:z<d.objs.size:=hL1 G;show db _ _ (Builtin.SmallTypes.ownedTupleHandOut (.ref z) (.ref d.objs.size) >>= _) _ _ _;refine wB1 ?_;unfold Builtin.SmallTypes.ownedTupleHandOut;have U:IsZip (d.push {cls:=.type "tuple",data:=.seq #[x,y]}) z g to .ellipsis:=hP1 _ G;refine wB1 (wS1 U (by simp) λg7 p s7=>?_);replace p:IsZip g7 z g to (rawInt d.objs.size):=p;refine wS1 p (by simp) λK h V=>?_;replace h:IsZip K z g to (rawInt d.objs.size):=h;have R:∀c o,c≠z->d.get? c=Z o->K.get? c=Z o:=λc o n q=>V.extBut _ _ n (s7.extBut _ _ n (hP1 _ q));have L:IsPair K d.objs.size x y:=V.extBut _ _ (nG1 j) (s7.extBut _ _ (nG1 j) (hS1 _ O));have H:K.objs.size=d.objs.size+1:=by rw[V.1,s7.1,hZ1]
 rw[am]at h L H;refine wP1 ⟨_,O,wP1 ?_⟩;show Q (Z (.ref d.objs.size)) _;rw[am]
 exact hQ K h (R _ _ D.a2 e) (h15.to λo q=>R _ o D.a3 q) (S.to λo q=>R _ o D.a4 q) L H λc o n P T q4 q=>R c o n (W c o n P T q4 q)
theorem Dt{z l to i1 C G y:c4}{H am:Nat}{xs ys:Array cZ}{a b:cZ}{Q:Option cZ->c3->Prop}(U:A.handled=Y)(D:Nh z l to i1 C)(hz:IsZip s.heap z l to .none)(N:IsPair s.heap l (.ref i1) (.ref C))(ao:IsPair s.heap to a b)(n1:G≠to)(n2:y≠to)(h1:SIt b1 s.heap i1 G H)(h2:SIt b2 s.heap C y am)(c1:SCo b1 s.heap G xs)(c2:SCo b2 s.heap y ys)(p:xs[H]?=Y\/ys[am]?=Y)(V:∀h',(∀c o,c≠z->c≠to->c≠i1->c≠C->s.heap.get? c=Z o->h'.get? c=Z o)->Q Y {s with heap:=h'}):db (model prog w) A (pyNext (.ref z)) Q E s:=by
 have R:s.TypeIs (.ref z) "zip":=⟨_,hz,O⟩;have v:G≠z:=c1.ne hz λ_ _ q=>by cases q
 have au:y≠z:=c2.ne hz λ_ _ q=>by cases q
 have B:y≠i1:=c2.ne_it h1;unfold pyNext;refine wB1 (wpAny_attempt (wpAny_callSpecial?_slot (name:=Str.ofString "__next__") R F.slot_zip_next (wE1 F.slot_zip_next R F.entry_zip_next ?_ (F.args_zip_next_1 _))));show db _ _ (field (.ref z) 2 >>= _) _ _ _;refine wB1 (wpAny_field hz O (x:=.bool J) O ?_);show db _ _ (field (.ref z) 3 >>= _) _ _ _;refine wB1 (wpAny_field hz O (x:=.ref l) O ?_);refine wB1 (wpAny_seqItems N O ?_);show db _ _ (Builtin.SmallTypes.ownedTupleIsFree (.ref z) >>= _) _ _ _;refine wB1 ?_;unfold Builtin.SmallTypes.ownedTupleIsFree;refine wB1 (wpAny_field hz O (x:=.none) O (wP1 ?_));simp only[if_true];refine wB1 (wpAny_rule ?_);refine wB1 (wpAny_field hz O (x:=.ref to) O ?_);refine wB1 (wS1 hz (by simp) λg1 i g=>?_);replace i:IsZip g1 z l to .ellipsis:=i;refine wB1 ?_;simp only[bN,List.zipIdx_nil,List.forIn_cons,List.forIn_nil];refine wB1 (wB1 (wpAny_onRaise ?_));show db _ _ (Builtin.SmallTypes.nextOf (.ref i1) >>= _) _ _ _
 cases hx:xs[H]? with
 |none=>
  refine wB1 (jF U (h1.to λo q=>g.extBut _ _ D.a3 q) (c1.to λo q=>g.extBut _ _ v q) hx λK e k P=>?_);obtain⟨L,d,f⟩:=P;have r:IsZip K z l to .ellipsis:=k _ _ D.a3.symm i;have n:e≠z:=λq=>by subst q;rw[r]at d;cases d;simp at f
  refine wS1 r (by simp) λaq _ m=>?_;refine wB1 (wpAny_isInstance (T:="StopIteration") (b:=M) ⟨L,m.extBut _ _ n d,f⟩ isSubtype_stop ?_);exact wP1 (V aq λc o t _ I _ q=>m.extBut _ _ t (k _ _ I (g.extBut _ _ t q)))
 |some x=>
  have wq:ys[am]?=Y:=by rcases p with h|h;rw[hx]at h;cases h;exact h
  refine wB1 (lV (h1.to λo q=>g.extBut _ _ D.a3 q) (c1.to λo q=>g.extBut _ _ v q) hx λK h12 k=>wP1 ?_);have j:IsPair K to a b:=k.extBut _ _ D.a8 (g.extBut _ _ D.a2 ao);refine wB1 (wpAny_seqItems j O ?_);refine wB1 (wpAny_updateSeq_pair j λaq X m=>?_);refine wB1 (wpAny_letGo (wP1 ?_));refine wB1 (wB1 (wpAny_onRaise ?_));show db _ _ (Builtin.SmallTypes.nextOf (.ref C) >>= _) _ _ _
  refine wB1 (jF U (h2.to λo q=>m.extBut _ _ D.a9.symm (k.extBut _ _ D.a10.symm (g.extBut _ _ D.a4 q))) (c2.to λo q=>m.extBut _ _ n2 (k.extBut _ _ B (g.extBut _ _ au q))) wq λg4 e S P=>?_);obtain⟨L,d,f⟩:=P;have u:IsZip g4 z l to .ellipsis:=S _ _ D.a4.symm (m.extBut _ _ D.a2.symm (k.extBut _ _ D.a3.symm i));have n:e≠z:=λq=>by subst q;rw[u]at d;cases d;simp at f
  refine wS1 u (by simp) λg5 _ W=>?_;refine wB1 (wpAny_isInstance (T:="StopIteration") (b:=M) ⟨L,W.extBut _ _ n d,f⟩ isSubtype_stop ?_);exact wP1 (V g5 λc o t q2 I q4 q=>W.extBut _ _ t (S _ _ q4 (m.extBut _ _ q2 (k.extBut _ _ I (g.extBut _ _ t q)))))
def zH(b1 b2:Bool)(h:df)(l1 l2:c4):df:=((((h.push (fO b1 l1)).push (fO b2 l2)).push {cls:=.type "tuple",data:=.seq #[.ref h.objs.size,.ref (h.objs.size+1)]}).push {cls:=.type "tuple",data:=.seq #[.none,.none]}).push
 {cls:=.type "zip",data:=.fields #[.none,.bool J,.bool J,.ref (h.objs.size+2),.ref (h.objs.size+3)]}
theorem Ds(a b:c4)(xs ys:Array cZ):Meets (Builtin.«zip.__new__» ⟨[.type "zip",.ref a,.ref b],[]⟩) (λ_ R s=>SCo b1 s.heap a xs/\SCo b2 s.heap b ys/\R (.ok (.ret (.ref (s.heap.objs.size+4)))) {s with heap:=zH b1 b2 s.heap a b}):=
 .of_wp λprog w A R s h=>by
  obtain⟨c,g,d,tk,f⟩:=s;obtain⟨c1,c2,h⟩:=h;have e:=sub_zip
  have i:SCo b1 (Shared.heap ⟨c,g,d,tk,f⟩) a xs:=c1;have j:SCo b2 (Shared.heap ⟨c.push (fO b1 a),g,d,tk,f⟩) b ys:=c2.to λo q=>hP1 _ q
  wp_walk using jj i,jj j
  refine⟨_,O,?_⟩;have k:(c.push (fO b1 a)).objs.size=c.objs.size+1:=hZ1 ..
  simp only[hZ1,zH]at h ⊢;exact h
theorem Ax{d b:c4}{xs ys:Array cZ}{Q:cZ->c3->Prop}(c1:SCo b1 s.heap d xs)(c2:SCo b2 s.heap b ys)(h:∀h',IsZip h' (s.heap.objs.size+4) (s.heap.objs.size+2) (s.heap.objs.size+3) .none->IsPair h' (s.heap.objs.size+2) (.ref s.heap.objs.size) (.ref (s.heap.objs.size+1))->IsPair h' (s.heap.objs.size+3) .none .none ->
   SIt b1 h' s.heap.objs.size d 0->SIt b2 h' (s.heap.objs.size+1) b 0->h'.objs.size=s.heap.objs.size+5->(∀c o,s.heap.get? c=Z o->h'.get? c=Z o)->Q (.ref (s.heap.objs.size+4)) {s with heap:=h'}):
  db (model prog w) A (call (.type "zip") [.ref d,.ref b]) Q E s:=by
 refine callType_new F.called_zip (by decide) (F.typeCall_zip_2 _ _) (F.newCall_zip_2 _ _) (λi=>F.args_object_init_3 i _ _) F.entry_zip_new (Ds (b1:=b1) (b2:=b2) d b xs ys) ⟨c1,c2,?_⟩;have a:∀{h:df} {o:Obj} {c:c4} {u:Obj},h.get? c=Z u->(h.push o).get? c=Z u:=λq=>hP1 _ q;have g:∀{h:df} {o:Obj} {n:Nat},h.objs.size=n->o.isFreed=J->(h.push o).get? n=Z o:=λe f=>by rw[<- e];exact hS1 _ f
 have t:(fO b1 d).isFreed=J:=by cases b1<;>rfl
 have m:(fO b2 b).isFreed=J:=by cases b2<;>rfl
 have p:(zH b1 b2 s.heap d b).get? s.heap.objs.size=Z (fO b1 d):=a (a (a (a (g O t))));have k:(zH b1 b2 s.heap d b).get? (s.heap.objs.size+1)=Z (fO b2 b):=a (a (a (g (by simp only[hZ1]) m)));have r:IsPair (zH b1 b2 s.heap d b) (s.heap.objs.size+2) (.ref s.heap.objs.size) (.ref (s.heap.objs.size+1)):=a (a (g (by simp only[hZ1]) O));have l:IsPair (zH b1 b2 s.heap d b) (s.heap.objs.size+3) .none .none:=a (g (by simp only[hZ1]) O);have j:IsZip (zH b1 b2 s.heap d b) (s.heap.objs.size+4) (s.heap.objs.size+2) (s.heap.objs.size+3) .none:=g (by simp only[hZ1]) O;exact⟨⟨_,j,O⟩,h _ j r l (sM p) (sM k) (by simp only[zH,hZ1]) λc o q=>a (a (a (a (a q))))⟩
end
def uc(K:Fg1)(b:Bool)(H:Hp)(a:c4)(xs:List V):Prop:=match b with
 |true=>mY K H a xs
 |false=>kP K H a xs
section
variable{X:Cx}{ag:List (c4×Obj)}{σ:L2.St}{H:Hp}{s:c3}
theorem eR{b:Bool}{a:c4}{xs:List V}(I:Inv X ag σ H s)(h:uc X.K b H a xs):∃c:List cZ,d5 xs c/\SCo b s.heap a c.toArray/\xs.length<=da:=by
 cases b
 ·obtain⟨c,r,p,z⟩:=I.tuple h;exact⟨c,r,p,z⟩
 ·obtain⟨c,r,p,z⟩:=I.list h;exact⟨c,r,p.isList,z⟩
theorem n9{b:Bool}{a:c4}{xs ys:List V}(I:Inv X ag σ H s)(h:uc X.K b H a xs)(h':uc X.K b H a ys):xs=ys:=by
 cases b
 ·exact I.tuple_inj h h'
 ·exact I.list_inj h h'
theorem sK{b:Bool}{a c:c4}{xs:List V}(I:Inv X ag σ H s)(h:uc X.K b H a xs)(f:kZ X ag H c):a≠c:=by
 rintro rfl;have d:∀{o},X.K.lookup a=Z o->False:=λ{o} e=>by
  have g:=I.ok.mod.kin _ _ e;rcases f.2.2.2.1 with z|z
  ·exact I.ok.noex _ _ g z
  ·exact absurd (nL1 (hL1 g) (aC I.ok.bsz z)) (az _)
 cases b
 ·rcases h with(h|⟨_,h⟩)|⟨_,_,_,h,_⟩
  ·rw[f.1]at h;cases h
  ·rw[f.1]at h;cases h
  ·exact d h
 ·rcases h with(h|⟨_,h⟩)|⟨_,_,_,h,_⟩
  ·rw[f.1]at h;cases h
  ·rw[f.1]at h;cases h
  ·exact d h
theorem vh(I:Inv X ag σ H s){fp:List c4}(hf:∀ b∈fp,kZ X ag H b){h':df}{p:c4}{xs:List V}{its:List cZ}{t':Nat}(hp:s.heap.objs.size<=p)(f:∀ b o,b∉fp->s.heap.get? b=Z o->h'.get? b=Z o)(j:IsTup h' p its.toArray)(i:d5 xs its)(hz:xs.length<=da):Inv X ag σ (upd H p (.tup xs)) {s with heap:=h',toks:=t'}:=by
 have d:H p=Y:=I.hok.fresh hp;have g:∀{b o},s.heap.get? b=Z o->b≠p:=λe=>nN1 (nL1 (hL1 e) hp);have h:∀{b u},H b=Z u->b∉fp:=λe z=>by rw[(hf _ z).1]at e;cases e
 refine I.step (g':=s.gens) (d':=s.drawn) (ch:=fp) (λb a=>⟨(hf b a).2.2.2.1,(hf b a).2.1,(hf b a).2.2.2.2.1,(hf b a).2.2.2.2.2⟩) (λb o _ _ hc e _=>f b o hc e) (λb o _ _ hc e _=>⟨o.slots,f b o hc e⟩) (λb o _ e n=>?_)
  (λb o hc e=>⟨o,f b o hc e⟩) (λb ys e=>?_) (λb o u e=>?_) (λb ps e=>⟨#[],?_⟩) (λm k=>?_) (λb u e=>?_) I.bare
 ·rw[d0 (g e)];exact n
 ·rw[d0 (ew e d)];exact e
 ·rw[d0 (ew e d)];exact e
 ·rw[d0 (ew e d),e];simp
 ·obtain⟨o,es,ep,l,r⟩:=k;exact⟨o,es,ep,f _ o (λz=>(hf _ z).2.1 O) l,r⟩
 ·by_cases a:b=p
  ·subst a;rw[d9]at e;cases e;exact⟨hz,its,i,j⟩
  ·rw[d0 a]at e;refine(I.hok b u e).stay (λc v hc q=>f c v ?_ q) (λc q=>by rw[d0 (ew q d)];exact q) λc ys q=>by rw[d0 (ew q d)];exact q
   rcases hc with z|z
   ·rw[z];exact h e
   ·exact h z
theorem pE(I:Inv X ag σ H s){fp:List c4}(hf:∀b∈fp,kZ X ag H b){h':df}{t':Nat}(a:∀b o,b∉fp->s.heap.get? b=Z o->h'.get? b=Z o):Inv X ag σ H {s with heap:=h',toks:=t'}:=by
 have f:∀{b u},H b=Z u->b∉fp:=λe z=>by rw[(hf _ z).1]at e;cases e
 refine I.step (g':=s.gens) (d':=s.drawn) (ch:=fp) (λb d=>⟨(hf b d).2.2.2.1,(hf b d).2.1,(hf b d).2.2.2.2.1,(hf b d).2.2.2.2.2⟩) (λb o _ _ hc e _=>a b o hc e) (λb o _ _ hc e _=>⟨o.slots,a b o hc e⟩) (λb o _ e n=>n)
  (λb o hc e=>⟨o,a b o hc e⟩) (λb ys e=>e) (λb o u e=>e) (λb ps e=>⟨#[],by rw[e];simp⟩) (λm g=>?_) (λb u e=>?_) I.bare
 ·obtain⟨o,es,ep,h,r⟩:=g;exact⟨o,es,ep,a _ o (λz=>(hf _ z).2.1 O) h,r⟩
 ·refine(I.hok b u e).stay (λc v hc q=>a c v ?_ q) (λc q=>q) λc ys q=>q;rcases hc with z|z
  ·rw[z];exact f e
  ·exact f z
end
theorem uq:(2:Nat)<=da:=by decide
def NS(K:Fg1)(b:Bool)(a:c4):It:=
 ⟨λi H=>∃xs x,uc K b H a xs/\xs[i]?=Z x,λi H x H'=>∃p v,H p=Y/\x = .ref p/\H'=upd H p (.tup [.int i,v]) /\ ∀xs,uc K b H a xs->xs[i]?=Z v,λi H=>∃xs,uc K b H a xs/\xs.length<=i⟩
theorem y3{P:c5}{w:c7}{K:Fg1}{elts:List Expr}{k:Nat}{pos:Pos}(b:Bool)(a e it:c4)(ne:e≠it):xr P w K (.Tuple elts k pos) (NS K b a) [e,it] e (λi h=>(∃old,IsEnum h e it (i:Nat) old)/\SIt b h it a i) where
 mem:=by simp
 obj:=by
  rintro i h ⟨⟨old,st⟩,ao⟩ c hc;rcases aE.mp hc with z|z
  ·subst z;exact⟨_,st,λv q=>by cases q⟩
  ·have R:c=it:=by simpa using z
   subst R;exact ao.rec_
 keep:=λi h h' ⟨⟨old,st⟩,ao⟩ Q=>⟨⟨old,Q e (by simp) _ st⟩,ao.to λo q=>Q it (by simp) o q⟩
 item:=by
  intro X n C am hc i ag s σ H E I l st B;subst n C am;obtain⟨⟨old,j⟩,f⟩:=st;obtain⟨xs,x,g,F⟩:=B;obtain⟨p,r,m,hz⟩:=eR I g;obtain⟨u,aq,W⟩:=r.get F;refine zS j f m (x:=u) (by simpa using aq) ne λh1 y L D hz1 G=>?_;refine⟨.ref s.heap.objs.size,O,?_⟩;refine wpAny_letOwnedTupleGo_enum y λh2 A d=>?_;have au:s.heap.objs.size≠e:=nG1 (hL1 j);have t:∀c o,c∉[e,it]->s.heap.get? c=Z o->h2.get? c=Z o:=λc o hc q=>by
   have c1:c≠e:=λz=>hc (by simp[z]);have c2:c≠it:=λz=>hc (by simp[z]);exact d.extBut _ _ c1 (G c o c1 c2 q)
  have wq:IsTup h2 s.heap.objs.size [.int (i:Nat) s.toks,u].toArray:=⟨_,d.extBut _ _ au D,O,_,O⟩;have V:=vh I l (t':=s.toks+1) (nR1 _) t wq (xs:=[.int i,x]) (.cons ⟨_,O⟩ (.cons W .nil)) uq;have U:H s.heap.objs.size=Y:=I.hok.fresh (nR1 _);refine⟨.ref s.heap.objs.size,_,V,O,⟨_,x,U,O,O,λys T=>by rw[n9 I T g];exact F⟩,⟨⟨u,?_⟩,L.to λo q=>d.extBut _ _ (Ne.symm ne) q⟩,λc hc=>?_⟩
  ·have:((i+1:Nat):Int)=(i:Int)+1:=by push_cast;rfl
   rw[this];exact A
  ·have c1:c≠s.heap.objs.size:=fun z=>by
    rcases aE.mp hc with q|q
    ·exact au (z.symm.trans q)
    ·have q':c=it:=by simpa using q
     obtain⟨o,N,_⟩:=f.rec_;rw[<- q',z]at N;exact az _ (hL1 N)
   rw[d0 c1];exact(l c hc).1
 done:=by
  intro X n C am hc i ag s σ H E I l st B;subst n C am;obtain⟨⟨old,j⟩,f⟩:=st;obtain⟨xs,g,F⟩:=B;obtain⟨p,r,m,hz⟩:=eR I g;have hl:=r.length;refine CW (I.ok.hd hc) j f m (by simp;lia) λh' S=>⟨O,pE I (t':=s.toks) l λc o hc q=>S c o (λz=>hc (by simp[z])) q⟩
 self:=λ_ _ _ _ _ ⟨⟨_,st⟩,_⟩ h=>r9 st h
def NP(K:Fg1)(b1 b2:Bool)(a1 a2:c4):It:=
 ⟨λi H=>∃xs ys x y,uc K b1 H a1 xs/\uc K b2 H a2 ys/\xs[i]?=Z x/\ys[i]?=Z y,λi H x H'=>∃p v u,H p=Y/\x = .ref p/\H'=upd H p (.tup [v,u])/\(∀xs,uc K b1 H a1 xs->xs[i]?=Z v) /\ ∀ys,uc K b2 H a2 ys->ys[i]?=Z u,
  λi H=>∃xs ys,uc K b1 H a1 xs/\uc K b2 H a2 ys/\(xs.length<=i\/ys.length<=i)⟩
theorem AJ{P:c5}{w:c7}{K:Fg1}{elts:List Expr}{k:Nat}{pos:Pos}(b1 b2:Bool)(a1 a2 z m to t A:c4)(D:Nh z m to t A):xr P w K (.Tuple elts k pos) (NP K b1 b2 a1 a2) [z,m,to,t,A] z
  (λi h=>IsZip h z m to .none/\IsPair h m (.ref t) (.ref A)/\(∃u v,IsPair h to u v)/\SIt b1 h t a1 i/\SIt b2 h A a2 i) where
 mem:=by simp
 obj:=by
  rintro i h ⟨g,b,⟨u,v,f⟩,l,d⟩ c hc;simp only[aE,bO,or_false]at hc;rcases hc with rfl|rfl|rfl|rfl|rfl
  ·exact⟨_,g,λv q=>by cases q⟩
  ·exact⟨_,b,λv q=>by cases q⟩
  ·exact⟨_,f,λv q=>by cases q⟩
  ·exact l.rec_
  ·exact d.rec_
 keep:=λi h h' ⟨g,b,⟨u,v,f⟩,l,d⟩ F=>⟨F z (by simp) _ g,F m (by simp) _ b,⟨u,v,F to (by simp) _ f⟩,l.to λo q=>F t (by simp) o q,d.to λo q=>F A (by simp) o q⟩
 item:=by
  intro X ao W aq hc i ag s σ H E I j st V;subst ao W aq;obtain⟨g,b,⟨u0,v0,f⟩,l,d⟩:=st;obtain⟨xs,ys,x,y,C,B,ex,ey⟩:=V;obtain⟨N,T,L,hz⟩:=eR I C;obtain⟨am,p,n,Q⟩:=eR I B;obtain⟨u,hu,ru⟩:=T.get ex;obtain⟨wq,S,au⟩:=p.get ey;refine Aw D g b f (sK I C (j to (by simp))) (sK I B (j to (by simp))) l d L n (x:=u) (y:=wq) (by simpa using hu) (by simpa using S) λh1 p1 p2 p3 p4 p5 p6 G=>?_;refine⟨.ref s.heap.objs.size,O,?_⟩;refine wpAny_letOwnedTupleGo_zip p1 λh2 z2 a=>?_;have lt:∀c∈[z,m,to,t,A],c≠s.heap.objs.size:=λc hc e=>by
   obtain⟨o,eo⟩:∃o,s.heap.get? c=some o:=by
    simp only[aE,bO,or_false]at hc;rcases hc with rfl|rfl|rfl|rfl|rfl
    ·exact⟨_,g⟩
    ·exact⟨_,b⟩
    ·exact⟨_,f⟩
    ·obtain⟨o,e,_⟩:=l.rec_;exact⟨o,e⟩
    ·obtain⟨o,e,_⟩:=d.rec_;exact⟨o,e⟩
   rw[e]at eo;exact az _ (hL1 eo)
  have U:∀c o,c∉[z,m,to,t,A]->s.heap.get? c=Z o->h2.get? c=Z o:=λc o hc q=>by
   simp only[aE,bO,or_false,not_or]at hc;exact a.extBut _ _ hc.1 (G c o hc.1 hc.2.2.1 hc.2.2.2.1 hc.2.2.2.2 q)
  have tp:IsTup h2 s.heap.objs.size [u,wq].toArray:=⟨_,a.extBut _ _ (Ne.symm (lt z (by simp))) p5,O,_,O⟩;have I2:=vh I j (t':=s.toks) (nR1 _) U tp (xs:=[x,y]) (.cons ru (.cons au .nil)) uq;have hn:H s.heap.objs.size=Y:=I.hok.fresh (nR1 _);refine⟨.ref s.heap.objs.size,_,I2,O,⟨_,x,y,hn,O,O,λR r=>by rw[n9 I r C];exact ex,λR r=>by rw[n9 I r B];exact ey⟩,
   ⟨z2,a.extBut _ _ D.a1 (G _ _ D.a1 D.a5 D.a6 D.a7 b),⟨u,wq,a.extBut _ _ D.a2 p2⟩,p3.to λo q=>a.extBut _ _ D.a3 q,p4.to λo q=>a.extBut _ _ D.a4 q⟩,λc hc=>?_⟩
  rw[d0 (lt c hc)];exact(j c hc).1
 done:=by
  intro X ao W aq hc i ag s σ H E I j st V;subst ao W aq;obtain⟨g,b,⟨u0,v0,f⟩,l,d⟩:=st;obtain⟨xs,ys,C,B,hl⟩:=V;obtain⟨N,T,L,hz⟩:=eR I C;obtain⟨am,p,n,Q⟩:=eR I B;have l1:=T.length;have l2:=p.length;refine Dt (I.ok.hd hc) D g b f (sK I C (j to (by simp))) (sK I B (j to (by simp))) l d L n (by simp;lia) λh' eb=>⟨O,pE I (t':=s.toks) j λc o hc q=>?_⟩;simp only[aE,bO,or_false,not_or]at hc;exact eb c o hc.1 hc.2.2.1 hc.2.2.2.1 hc.2.2.2.2 q
 self:=λ_ _ _ _ _ ⟨st,_⟩ h=>wpAny_pyIter_zip st h
section
variable{X:Cx}{elts:List Expr}{k:Nat}{tpos:Pos}
def Ld(K:Fg1)(ta:TA):TI:=fun σ H R=>ta σ H λvs H1=>∃a b,vs=[.ref a]/\(∃xs,uc K b H1 a xs)/\R (NS K b a) H1
theorem Eb {a:Expr}{ta:TA}{p pos:Pos}(hg:Gl X "enumerate")(hm:X.mg "enumerate"=Y)(ha:PA X [a] ta)(hs:c9 [a] X.env=[(J,eval a X.env)]:=by rfl):PI X (.Tuple elts k tpos) (.Call (.Name "enumerate" p) [a] [] pos) (Ld X.K ta):=by
 intro ag s σ H R I h;refine Call_ (j6 I hg hm boot_enumerate (PyProof.Rows.callWith_type1 (ff (ha pos ag s σ H _ I h) λD f ⟨vs,H1,g,n,x⟩=>?_) hs O));obtain⟨c,b,e,⟨xs,t⟩,q⟩:=x;subst e;cases n with
 |cons r A=>
  cases A;cases r;obtain⟨j,B,m,C⟩:=eR g t;refine zT m λh' i v o y=>r9 i ?_;have u:Inv X ag σ H1 {f with heap:=h'}:=g.kept (t':=f.toks) y;refine⟨f.heap.objs.size+1,[f.heap.objs.size+1,f.heap.objs.size],_,_,H1,O,u,y3 b c _ _ (Nat.succ_ne_self _),⟨⟨.none,i⟩,v⟩,λd w=>?_,q⟩;rcases aE.mp w with z|z
  ·subst z;exact g.fpOk (bc _) (g.hok.fresh (bc _))
  ·have l:d=f.heap.objs.size:=by simpa using z
   subst l;exact g.fpOk (nR1 _) (g.hok.fresh (nR1 _))
def M1(K:Fg1)(ta:TA):TI:=fun σ H R=>ta σ H λvs H1=>∃a1 b1 a2 b2,vs=[.ref a1,.ref a2]/\(∃xs,uc K b1 H1 a1 xs)/\(∃xs,uc K b2 H1 a2 xs)/\R (NP K b1 b2 a1 a2) H1
theorem Hq {a b:Expr}{ta:TA}{p pos:Pos}(hg:Gl X "zip")(hm:X.mg "zip"=none)(ha:PA X [a,b] ta)(hs:c9 [a,b] X.env=[(false,eval a X.env),(false,eval b X.env)]:=by rfl)(hs2:c9 [b] X.env=[(false,eval b X.env)]:=by rfl):
  PI X (.Tuple elts k tpos) (.Call (.Name "zip" p) [a,b] [] pos) (M1 X.K ta):=by
 intro ag s σ H R I h;refine Call_ (j6 I hg hm boot_zip (PyProof.Rows.callWith_type1 (ff (ha pos ag s σ H _ I h) λN c ⟨vs,H1,f,y,E⟩=>?_) (by rw[hs,hs2]) (by rw[hs2];rfl)));obtain⟨c1,b1,c2,b2,e,⟨xs,G⟩,⟨ys,t⟩,q⟩:=E;subst e;cases y with
 |cons r i=>
  cases i with
  |cons C i=>
   cases i;cases r;cases C;obtain⟨x,ao,o,au⟩:=eR f G;obtain⟨n,F,j,B⟩:=eR f t;refine Ax o j λh' l am u v A L w=>wpAny_pyIter_zip l ?_;have D:Inv X ag σ H1 {c with heap:=h'}:=f.kept (t':=c.toks) w;refine⟨c.heap.objs.size+4,[c.heap.objs.size+4,c.heap.objs.size+2,c.heap.objs.size+3,c.heap.objs.size,c.heap.objs.size+1],_,_,H1,O,D,AJ b1 b2 c1 c2 _ _ _ _ _ ?_,⟨l,am,⟨_,_,u⟩,v,A⟩,λd m=>?_,q⟩
   ·constructor<;>(intro z;have K:((_:Nat)=_):=z;lia)
   ·have g:c.heap.objs.size<=d:=by
     simp only[aE,bO,or_false]at m;rcases m with rfl|rfl|rfl|rfl|rfl
     ·exact bC _ _
     ·exact bC _ _
     ·exact bC _ _
     ·exact nR1 _
     ·exact bC _ _
    exact f.fpOk g (f.hok.fresh g)
end
noncomputable def dQ (S:dr):D->Option (Bool×List D)
 | .tup xs=>some (false,xs)
 | .rol xs=>some (true,xs)
 | .ref n=>match S[n]? with
  |some (.lst xs)=>some (true,xs)
  |_=>none
 |_=>none
def ke(S:dr):D->List (Nat×List D)
 | .ref n=>match S[n]? with
  |some (.lst xs)=>[(n,xs)]
  |_=>[]
 |_=>[]
section
variable{K:Fg1}{H:Hp}{mu:List c4}{S:dr}
theorem dJ{d:D}{v:V}{b:Bool}{xs:List D}(r:eQ K H mu d v)(s:Sim K H mu S)(h:dQ S d=Z (b,xs)):∃a vs,v = .ref a/\uc K b H a vs/\dI K H mu xs vs:=by
 cases d with
 |tup ys=>cases h;cases r with|tup q t=>exact⟨_,_,rfl,q,t⟩
 |rol ys=>cases h;cases r with|rol q t=>exact⟨_,_,rfl,q.sq,t⟩
 |ref n=>
  rw[dQ]at h;split at h
  ·rename_i ys e;cases h;cases r with
   |ref q=>
    obtain⟨vs,c,f⟩:=s.lst e q;exact⟨_,vs,O,mY.of c,f⟩
  ·cases h
 |_=>cases h
theorem jk{d:D}{a:c4}{b:Bool}{xs:List D}(r:eQ K H mu d (.ref a))(s:Sim K H mu S)(h:dQ S d=some (b,xs)){H1:Hp}{mu1:List c4}{S1:dr}(x:uh mu mu1 H H1)(f:Sim K H1 mu1 S1)(ok:qx S1 (ke S d)=true):
  ∃vs,uc K b H1 a vs/\dI K H1 mu1 xs vs:=by
 have c:=r.exw x;have h1:dQ S1 d=Z (b,xs):=by
  cases d with
  |ref n=>
   rw[dQ]at h;split at h
   ·rename_i ys e;cases h;rw[ke,e]at ok;dsimp only[qx]at ok;rw[bP]at ok;rw[dQ];split at ok
    ·rename_i zs g
     first|rw[g,D.sames_eq ok] | rw[D.sames_eq ok]
    ·cases ok
   ·cases h
  |_=>exact h
 obtain⟨i,vs,e,q,t⟩:=dJ c f h1;cases e;exact⟨vs,q,t⟩
end
noncomputable def e6 (m:FE):FI:=λr S=>(m r S).bind λp=>(dQ p.2 p.1).bind λq=>some (⟨q.2,ke p.2 p.1⟩,p.2)
def zU:Nat->List D->List D
 |_,[]=>[]
 |n,d::ds=>.tup [.int n,d]::zU (n+1) ds
noncomputable def Aq (m:FA):FI:=λr S=>(m r S).bind λp=>match p.1 with
 |[d]=>(dQ p.2 d).bind λq=>some (⟨zU 0 q.2,ke p.2 d⟩,p.2)
 |_=>none
def ui:List D->List D->List D
 |x::xs,y::ys=>.tup [x,y]::ui xs ys
 |_,_=>[]
def Cy(m:FA):FI:=λr S=>(m r S).bind λp=>match p.1 with
 |[d,e]=>(dQ p.2 d).bind λq=>(dQ p.2 e).bind λt=>Z (⟨ui q.2 t.2,ke p.2 d++ke p.2 e⟩,p.2)
 |_=>Y
def jn(lo:Int):Nat->List D
 |0=>[]
 |n+1=>.int lo::jn (lo+1) n
noncomputable def nS (m:FA):FI:=λr S=>(m r S).bind λp=>match p.1 with
 |[.int j]=>if-(2^62)<=j/\j<2^62 then some (⟨jn 0 j.toNat,[]⟩,p.2)else none
 |_=>none
def JM(m:FA):FI:=λr S=>(m r S).bind λp=>match p.1 with
 |[.int i,.int j]=>if-(2^62)<=i/\i<2^62 /\ -(2^62)<=j/\j<2^62 then Z (⟨jn i (j-i).toNat,[]⟩,p.2)else Y
 |_=>Y
theorem ot:∀(ds:List D) (n i:Nat),(zU n ds)[i]?=(ds[i]?).map λd=>.tup [.int ((n+i:Nat):Int),d]
 |[],n,i=>by simp[zU]
 |d::ds,n,0=>by simp[zU]
 |d::ds,n,i+1=>by
  rw[zU,gC1,ot ds (n+1) i,gC1];rw[show n+1+i=n+(i+1) by lia]
theorem oo:∀(ds:List D) (n:Nat),(zU n ds).length=ds.length
 |[],_=>rfl
 |d::ds,n=>by rw[zU,lC1,oo ds,lC1]
theorem xA:∀(xs ys:List D) (i:Nat) (d:D),(ui xs ys)[i]?=Z d -> ∃x y,xs[i]?=Z x/\ys[i]?=Z y/\d = .tup [x,y]
 |[],_,i,d,h=>by simp[ui]at h
 |_::_,[],i,d,h=>by simp[ui]at h
 |x::xs,y::ys,0,d,h=>by simp[ui]at h;exact⟨x,y,O,O,h.symm⟩
 |x::xs,y::ys,i+1,d,h=>by
  rw[ui,gC1]at h;obtain⟨e,f,c,b,a⟩:=xA xs ys i d h;exact⟨e,f,by simpa using c,by simpa using b,a⟩
theorem xz:∀(xs ys:List D) (i:Nat),(ui xs ys).length<=i->xs.length<=i\/ys.length<=i
 |[],_,i,_=>.inl (br _)
 |_::_,[],i,_=>.inr (br _)
 |x::xs,y::ys,0,h=>by simp[ui]at h
 |x::xs,y::ys,i+1,h=>by
  rcases xz xs ys i (by simpa[ui]using h)with q|q
  ·exact .inl (by simpa using q)
  ·exact .inr (by simpa using q)
theorem uX:∀(n:Nat) (lo:Int) (i:Nat) (d:D),(jn lo n)[i]?=Z d->i<n/\d = .int (lo+i)
 |0,lo,i,d,h=>by simp[jn]at h
 |n+1,lo,0,d,h=>by simp[jn]at h;exact⟨Nat.succ_pos _,by rw[<- h];simp⟩
 |n+1,lo,i+1,d,h=>by
  rw[jn,gC1]at h;obtain⟨h1,h2⟩:=uX n (lo+1) i d h;refine⟨Nat.succ_lt_succ h1,?_⟩;rw[h2,show lo+1+(i:Int)=lo+((i+1:Nat):Int) by push_cast;lia]
theorem fL:∀(n:Nat) (lo:Int),(jn lo n).length=n
 |0,_=>rfl
 |n+1,lo=>by rw[jn,lC1,fL n]
theorem x0{S:dr}:∀{c c':List (Nat×List D)},qx S (c++c')=M->qx S c=M/\qx S c'=M
 |[],_,h=>⟨O,h⟩
 |(n,xs)::c,c',h=>by
  rw[bt,qx,bA1]at h;obtain⟨h1,h2⟩:=x0 h.2;exact⟨by rw[qx,bA1];exact⟨h.1,h1⟩,h2⟩
section
variable{X:Cx}{tg:Expr}
theorem vf(K:Fg1)(lo:Int)(n:Nat)(mu:List c4)(H:Hp):Np K (LU lo n) ⟨jn lo n,[]⟩ mu H:=by
 intro i H1 mu1 e x s ok;refine⟨λd b=>?_,λh=>by rw[fL]at h;exact h⟩;obtain⟨h1,h2⟩:=uX n lo i d b;refine⟨h1,λy H2 ⟨a,c⟩=>?_⟩;subst a;subst c;subst h2;exact⟨.refl _ _,s,.int _⟩
theorem Iq{e:Expr}{m:FE}(h:ME X e m):MI X tg e (e6 m):=pa (Ku (Ea h) (Hr h)) <| by
 rintro σ H R ⟨r,mu,S,am,G,D,C,n,hc⟩;obtain⟨⟨d,I⟩,B,n⟩:=oB1.mp n;obtain⟨⟨b,xs⟩,o,n⟩:=oB1.mp n;cases n;cases b with
 |true=>
  left;refine⟨r,mu,S,d,_,D,C,B,λv H1 mu1 z k c=>?_⟩;obtain⟨a,vs,rfl,q,t⟩:=dJ k c o;refine⟨a,O,⟨vs,q⟩,hc _ H1 mu1 z (λi H2 p E x2 l ok=>?_) c⟩;obtain⟨ws,f,g⟩:=jk k c o x2 l ok;refine⟨λd w=>?_,λx=>⟨ws,f,by rw[<- g.length];exact x⟩⟩;obtain⟨v,j,u⟩:=g.get w;refine⟨⟨ws,v,f,j⟩,λy F ⟨A,s⟩=>?_⟩;subst A;have:=s ws f;rw[j]at this;cases this;exact⟨.refl _ _,l,u⟩
 |false=>
  right;refine⟨r,mu,S,d,_,D,C,B,λv H1 mu1 z k c=>?_⟩;obtain⟨a,vs,rfl,q,t⟩:=dJ k c o;refine⟨a,O,⟨vs,q⟩,hc _ H1 mu1 z (λi H2 p E x2 l ok=>?_) c⟩;obtain⟨ws,f,g⟩:=jk k c o x2 l ok;refine⟨λd w=>?_,λx=>⟨ws,f,by rw[<- g.length];exact x⟩⟩;obtain⟨v,j,u⟩:=g.get w;refine⟨⟨ws,v,f,j⟩,λy F ⟨A,s⟩=>?_⟩;subst A;have:=s ws f;rw[j]at this;cases this;exact⟨.refl _ _,l,u⟩
theorem oZ{K:Fg1}{H:Hp}{mu:List c4}{d:D}{vs:List V}(r:dI K H mu [d] vs):∃v,vs=[v]/\eQ K H mu d v:=by
 cases r with|cons r t=>cases t;exact⟨_,O,r⟩
theorem uG{K:Fg1}{H:Hp}{mu:List c4}{d e:D}{vs:List V}(r:dI K H mu [d,e] vs):∃v u,vs=[v,u]/\eQ K H mu d v/\eQ K H mu e u:=by
 cases r with|cons r t=>cases t with|cons q t=>cases t;exact⟨_,_,O,r,q⟩
theorem zu {a:Expr}{m:FA}{p pos:Pos}(hg:Gl X "range")(hm:X.mg "range"=Y)(ha:MA X [a] m)(hs:c9 [a] X.env=[(J,eval a X.env)]:=by rfl):MI X tg (.Call (.Name "range" p) [a] [] pos) (nS m):=
 pa (zm hg hm ha hs) <| by
  rintro σ H R ⟨r,mu,S,am,i,g,hs,hm,hc⟩;obtain⟨⟨ds,k⟩,c,hm⟩:=oB1.mp hm;dsimp only at hm;split at hm
  ·rename_i j;split at hm
   ·rename_i b;cases hm;refine⟨r,mu,S,_,_,g,hs,c,λvs H1 mu1 h d e=>?_⟩;obtain⟨v,rfl,f⟩:=oZ d;cases f;exact⟨j,O,b.1,b.2,hc _ H1 mu1 h (vf _ _ _ _ _) e⟩
   ·cases hm
  ·cases hm
theorem zt {a b:Expr}{m:FA}{p pos:Pos}(hg:Gl X "range")(hm:X.mg "range"=Y)(ha:MA X [a,b] m)(hs:c9 [a,b] X.env=[(J,eval a X.env),(J,eval b X.env)]:=by rfl)(hs2:c9 [b] X.env=[(J,eval b X.env)]:=by rfl):MI X tg (.Call (.Name "range" p) [a,b] [] pos) (JM m):=
 pa (zl hg hm ha hs hs2) <| by
  rintro σ H R ⟨r,mu,S,am,n,k,hs,hm,hc⟩;obtain⟨⟨ds,o⟩,e,hm⟩:=oB1.mp hm;dsimp only at hm;split at hm
  ·rename_i i j;split at hm
   ·rename_i d;cases hm;refine⟨r,mu,S,_,_,k,hs,e,λvs H1 mu1 l f g=>?_⟩;obtain⟨v,u,rfl,h,c⟩:=uG f;cases h;cases c;exact⟨i,j,O,d,hc _ H1 mu1 l (vf _ _ _ _ _) g⟩
   ·cases hm
  ·cases hm
variable{elts:List Expr}{k:Nat}{tpos:Pos}
theorem ED {a:Expr}{m:FA}{p pos:Pos}(hg:Gl X "enumerate")(hm:X.mg "enumerate"=Y)(ha:MA X [a] m)(hs:c9 [a] X.env=[(J,eval a X.env)]:=by rfl):MI X (.Tuple elts k tpos) (.Call (.Name "enumerate" p) [a] [] pos) (Aq m):=
 pa (Eb hg hm ha hs) <| by
  rintro σ H R ⟨r,mu,S,am,K,B,hs,hm,hc⟩;obtain⟨⟨ds,L⟩,w,hm⟩:=oB1.mp hm;dsimp only at hm;split at hm
  ·rename_i d;obtain⟨⟨b,xs⟩,u,hm⟩:=oB1.mp hm;cases hm;refine⟨r,mu,S,_,_,B,hs,w,λvs H1 mu1 D z f=>?_⟩;obtain⟨v,rfl,o⟩:=oZ z;obtain⟨a,vs,rfl,q,t⟩:=dJ o f u;refine⟨a,b,O,⟨vs,q⟩,hc _ H1 mu1 D (λi H2 x I x2 n ok=>?_) f⟩;obtain⟨ws,h,j⟩:=jk o f u x2 n ok;refine⟨λd c=>?_,λs=>⟨ws,h,by rw[oo]at s;rw[<- j.length];exact s⟩⟩;rw[ot]at c;obtain⟨ao,C,c⟩:=oM1.mp c;obtain⟨v,l,g⟩:=j.get C;refine⟨⟨ws,v,h,l⟩,λy N ⟨p,G,e,F,A,E⟩=>?_⟩;have:=E ws h;rw[l]at this;cases this;subst F;subst A;subst c;rw[bQ];exact⟨Ext.fresh e,n.fresh e,.tup (kP.of d9) (.cons (.int _) (.cons (g.ext (Ext.fresh e)) .nil))⟩
  ·cases hm
theorem Ip {a b:Expr}{m:FA}{p pos:Pos}(hg:Gl X "zip")(hm:X.mg "zip"=Y)(ha:MA X [a,b] m)(hs:c9 [a,b] X.env=[(J,eval a X.env),(J,eval b X.env)]:=by rfl)(hs2:c9 [b] X.env=[(J,eval b X.env)]:=by rfl):MI X (.Tuple elts k tpos) (.Call (.Name "zip" p) [a,b] [] pos) (Cy m):=
 pa (Hq hg hm ha hs hs2) <| by
  rintro σ H R ⟨r,mu,S,am,S',aq,hs,hm,hc⟩;obtain⟨⟨ds,S1⟩,N,hm⟩:=oB1.mp hm;dsimp only at hm;split at hm
  ·rename_i d e;obtain⟨⟨b1,xs⟩,I,hm⟩:=oB1.mp hm;obtain⟨⟨b2,ys⟩,E,hm⟩:=oB1.mp hm;cases hm;refine⟨r,mu,S,_,_,aq,hs,N,λvs H1 mu1 wq P f=>?_⟩;obtain⟨v,u,rfl,G,D⟩:=uG P;obtain⟨a1,h,rfl,Q,t1⟩:=dJ G f I;obtain⟨a2,w,rfl,U,t2⟩:=dJ D f E;refine⟨a1,b1,a2,b2,O,⟨h,Q⟩,⟨w,U⟩,hc _ H1 mu1 wq (λi H2 au S2 x2 q ok=>?_) f⟩;obtain⟨o,l⟩:=x0 ok;obtain⟨ws,j,x⟩:=jk G f I x2 q o;obtain⟨c,t,K⟩:=jk D f E x2 q l;refine⟨λd V=>?_,λW=>⟨ws,c,j,t,?_⟩⟩
   ·obtain⟨x',y',ex,L,rfl⟩:=xA xs ys i d V;obtain⟨v,B,n⟩:=x.get ex;obtain⟨u,F,s⟩:=K.get L;refine⟨⟨ws,c,v,u,j,t,B,F⟩,λy H3 ⟨p,v',u',g,z1,T,z3,ao⟩=>?_⟩;have C:=z3 ws j;have A:=ao c t;rw[B]at C;cases C;rw[F]at A;cases A;subst z1;subst T;exact⟨Ext.fresh g,q.fresh g,.tup (kP.of d9) (.cons (n.ext (Ext.fresh g)) (.cons (s.ext (Ext.fresh g)) .nil))⟩
   ·rcases xz xs ys i W with z|z
    ·exact .inl (by rw[<- x.length];exact z)
    ·exact .inr (by rw[<- K.length];exact z)
  ·cases hm
end
abbrev G1:=D->dr->Option (D×dr)
abbrev G2:=D->D->dr->Option (D×dr)
abbrev G3:=D->D->D->dr->Option (D×dr)
noncomputable def b1 (f:G1):FN:=λds S=>match ds with
 |[a]=>f a S
 |_=>none
noncomputable def b2 (f:G2):FN:=λds S=>match ds with
 |[a,b]=>f a b S
 |_=>none
noncomputable def b3 (f:G3):FN:=λds S=>match ds with
 |[a,b,c]=>f a b c S
 |_=>none
section
variable{X:Cx}{K:Fg1}{H:Hp}{Q:VK}
theorem qp{f:G2}{x y:V}(h:rN K (b2 f) [x,y] H Q):∃mu S d e r a,eQ K H mu d x/\eQ K H mu e y/\Sim K H mu S/\f d e S=Z (r,a)/\ue K mu H r a Q:=by
 obtain⟨mu,S,ds,r,a,i,b,g,hc⟩:=h;cases i with
 |cons q t=>cases t with
  |cons c t=>cases t;exact⟨mu,S,_,_,r,a,q,c,b,g,hc⟩
theorem zi{f:G1}{xs:List V}(h:rN K (b1 f) xs H Q):∃x mu S d r a,xs=[x]/\eQ K H mu d x/\Sim K H mu S/\f d S=Z (r,a)/\ue K mu H r a Q:=by
 obtain⟨mu,S,ds,r,a,e,c,b,hc⟩:=h;cases e with
 |nil=>cases b
 |cons q t=>cases t with
  |nil=>exact⟨_,mu,S,_,r,a,O,q,c,b,hc⟩
  |cons g t=>cases b
theorem Bc{f:G2}{xs:List V}(h:rN K (b2 f) xs H Q):∃x y mu S d e r a,xs=[x,y]/\eQ K H mu d x/\eQ K H mu e y/\Sim K H mu S/\f d e S=Z (r,a)/\ue K mu H r a Q:=by
 obtain⟨mu,S,ds,r,a,i,c,b,hc⟩:=h;cases i with
 |nil=>cases b
 |cons q t=>cases t with
  |nil=>cases b
  |cons g t=>cases t with
   |nil=>exact⟨_,_,mu,S,_,_,r,a,O,q,g,c,b,hc⟩
   |cons j t=>cases b
theorem ue.now{mu:List c4}{S:dr}{d:D}{v:V}(c:ue K mu H d S Q)(r:eQ K H mu d v)(s:Sim K H mu S):Q v H:=c v H mu (.refl _ _) r s
end
def eS(i j:Int):Bool:=(decide (-(2^64)<i)&&decide (i<2^64))||(decide (-(2^64)<j)&&decide (j<2^64))||(decide (i.natAbs<2^1000)&&decide (j.natAbs<2^1000))
def eE:G2:=λd e S=>match d,e with
 | .int i,.int j=>Z (.int (i+j),S)
 | .tup xs,.tup ys=>if xs.length+ys.length<=da then Z (.tup (xs++ys),S)else Y
 | .str x,.str y=>if x.length+y.length<=da then Z (.str (x++y),S)else Y
 | .ref a,.ref b=>match S[a]?,S[b]? with
  |some (.lst xs),Z (.lst ys)=>if xs.length+ys.length<=da then Z (.ref S.length,S++[.lst (xs++ys)])else Y
  |_,_=>Y
 |_,_=>Y
def gSub:G2:=λd e S=>match d,e with
 | .int i,.int j=>Z (.int (i-j),S)
 |_,_=>Y
def kb:G2:=λd e S=>match d,e with
 | .int i,.int j=>if eS i j=M then Z (.int (i*j),S)else Y
 |_,_=>Y
def l7:G2:=λd e S=>match d,e with
 | .int i,.int j=>if 0<j then Z (.int (i%j),S)else Y
 |_,_=>Y
def vn:G2:=λd e S=>match d,e with
 | .int i,.int j=>if 0<j/\j<1073741824 then Z (.int (i/j),S)else Y
 |_,_=>Y
def wY:G2:=λd e S=>match d,e with
 | .int i,.int j=>if 0<=j/\j<=1000000/\i.natAbs<2^64 then Z (.int (i^j.toNat),S)else Y
 |_,_=>Y
def mP:G1:=λd S=>match d with
 | .int i=>Z (.int (-i),S)
 |_=>Y
section
variable{X:Cx}
theorem wM{i j:Int}(h:eS i j=M):IntMulOk i j:=by
 unfold eS at h;simp only[bR,bA1,al]at h;rcases h with(⟨h1,h2⟩|⟨h1,h2⟩)|⟨h1,h2⟩
 ·exact .of_left (intBits_le_64 h1 h2)
 ·exact .of_right (intBits_le_64 h1 h2)
 ·exact .of_bits (aC (intBits_le h1) (by decide)) (aC (intBits_le h2) (by decide))
theorem jE{f:cZ->cZ->Sem cZ}{g:G2}{c:Int->Int->Prop}{v:Int->Int->D}(hg:∀ d e S r a,g d e S=Z (r,a) -> ∃ i j,d = .int i/\e = .int j/\c i j/\r=v i j/\a=S){b:Int->Int->V}(hv:∀i j K H mu,eQ K H mu (v i j) (b i j))(ho:fQ X f (rI c b)):fQ X f (r2 X.K (b2 g)):=by
 intro ag s σ H x y u w Q I p o h;obtain⟨mu,S,d,e,r,a,l,r2,k,m,hc⟩:=qp h;obtain⟨i,j,rfl,rfl,n,rfl,rfl⟩:=hg d e S r a m;cases l;cases r2;exact ho ag s σ H _ _ u w Q I p o ⟨i,j,O,O,n,hc.now (hv i j _ _ _) k⟩
theorem j0{f:cZ->cZ->Sem cZ}{g:G2}{v:Int->Int->D}(hg:∀ d e S r a,g d e S=Z (r,a) -> ∃ i j,d = .int i/\e = .int j/\r=v i j/\a=S){b:Int->Int->V}(hv:∀i j K H mu,eQ K H mu (v i j) (b i j))(ho:fQ X f (Dp b)):fQ X f (r2 X.K (b2 g)):=by
 intro ag s σ H x y u w Q I n m h;obtain⟨mu,S,d,e,r,a,k,r2,c,l,hc⟩:=qp h;obtain⟨i,j,rfl,rfl,rfl,rfl⟩:=hg d e S r a l;cases k;cases r2;exact ho ag s σ H _ _ u w Q I n m ⟨i,j,O,O,hc.now (hv i j _ _ _) c⟩
theorem nq:fQ X (binaryOp .Sub) (r2 X.K (b2 gSub)):=j0 (v:=λi j=>.int (i-j)) (λd e S r a h=>by
 unfold gSub at h;split at h
 ·cases h;exact⟨_,_,O,O,O,O⟩
 ·cases h) (λ_ _ _ _ _=>.int _) HG
theorem lc:fQ X (binaryOp .Mult) (r2 X.K (b2 kb)):=jE (c:=λi j=>IntMulOk i j) (v:=λi j=>.int (i*j)) (λd e S r a h=>by
 unfold kb at h;split at h
 ·split at h
  ·rename_i q;cases h;exact⟨_,_,O,O,wM q,O,O⟩
  ·cases h
 ·cases h) (λ_ _ _ _ _=>.int _) (opI λ_ _ _ _ _ _ _ hc q=>mul_int q hc)
theorem nr:fQ X (binaryOp .Mod) (r2 X.K (b2 l7)):=jE (c:=λ_ j=>0<j) (v:=λi j=>.int (i%j)) (λd e S r a h=>by
 unfold l7 at h;split at h
 ·split at h
  ·rename_i q;cases h;exact⟨_,_,O,O,q,O,O⟩
  ·cases h
 ·cases h) (λ_ _ _ _ _=>.int _) HL
theorem Gm:fQ X (binaryOp .FloorDiv) (r2 X.K (b2 vn)):=jE (c:=LW) (v:=λi j=>.int (i/j)) (λd e S r a h=>by
 unfold vn at h;split at h
 ·split at h
  ·rename_i q;cases h;exact⟨_,_,O,O,q,O,O⟩
  ·cases h
 ·cases h) (λ_ _ _ _ _=>.int _) Ek
theorem BN:fQ X (binaryOp .Pow) (r2 X.K (b2 wY)):=jE (c:=F4) (v:=λi j=>.int (i^j.toNat)) (λd e S r a h=>by
 unfold wY at h;split at h
 ·split at h
  ·rename_i q;cases h;exact⟨_,_,O,O,q,O,O⟩
  ·cases h
 ·cases h) (λ_ _ _ _ _=>.int _) HK
theorem pu:JO X (unaryOp .USub) (λx H Q=>rN X.K (b1 mP) [x] H Q):=by
 intro ag s σ H x v Q I f h;obtain⟨j,mu,S,d,r,g,e,c,b,a,hc⟩:=zi h;cases e;cases d with
 |int i=>cases a;cases c;exact GL ag s σ H _ v Q I f ⟨i,O,hc.now (.int _) b⟩
 |_=>cases a
theorem Aa{s:c3}{prog:c5}{w:c7}{A:c6}{E:cZ->c3->Prop}{t b:c4}{ws:List cZ}{Q:cZ->c3->Prop}(ht:IsTup s.heap t ([]:List cZ).toArray)(hb:IsTup s.heap b ws.toArray)(h:Q (.ref b) s):
  db (model prog w) A (binaryOp .Add (.ref t) (.ref b)) Q E s:=by
 obtain⟨⟨q,m,i,o⟩,k,hc,n,l⟩:=id ht;obtain⟨⟨j,f,e,g⟩,c,d,p,a⟩:=id hb;simp only at hc l d a;subst hc l d a;exact concat_meets ⟨_,k,O⟩ ⟨_,c,O⟩ noFill_tuple_add seq_tuple_add PySem.F.slot_tuple_add PySem.F.entry_tuple_add (PySem.F.args_tuple_add_2 _ _) (tuple_addW0 t b ([]:List cZ).toArray ws.toArray n p m f o g (by simp)) ⟨k,c,h⟩
theorem ek:fQ X (binaryOp .Add) (r2 X.K (b2 eE)):=by
 intro ag s σ H x y u w Q I q o h;obtain⟨mu,S,d,e,r,R,v,r2,g,c,hc⟩:=qp h;unfold eE at c;split at c
 ·cases c;cases v;cases r2;exact HQ ag s σ H _ _ u w Q I q o ⟨_,_,O,O,hc.now (.int _) g⟩
 ·rename_i xs ys;split at c
  ·rename_i t;cases c;cases v with
   |tup B l=>
    cases r2 with
    |tup C k=>
     rename_i f a1 m a2;by_cases D:f=[]
     ·subst D;have:xs=[]:=by cases l;rfl
      subst this;cases q;cases o;obtain⟨A,ao,am,_⟩:=I.tuple B;obtain⟨E,N,p2,_⟩:=I.tuple C;have:A=[]:=ao.nil_iff.mpr O;subst this;exact Aa am p2 ⟨.ref a2,H,I,O,hc.now (.tup C k) g⟩
     ·refine El ag s σ H _ _ u w Q I q o ⟨a1,a2,f,m,O,O,B,C,D,by rw[<- l.length,<- k.length];exact t,λz=>?_,λz p n=>?_⟩
      ·subst z;have:ys=[]:=by cases k;rfl
       subst this;rw[aN]at hc;exact hc.now (.tup B l) g
      ·exact hc _ _ mu (Ext.fresh n) (.tup (kP.of d9) ((l.append k).ext (Ext.fresh n))) (g.fresh n)
  ·cases c
 ·rename_i i j;split at c
  ·rename_i t;cases c;cases v;cases r2;exact wE ag s σ H _ _ u w Q I q o ⟨i,j,O,O,t,hc.now (.str _) g⟩
  ·cases c
 ·rename_i a b;split at c
  ·rename_i xs ys K F;split at c
   ·rename_i t;cases c;cases v with
    |ref L=>
     cases r2 with
     |ref P=>
      obtain⟨f,G,l⟩:=g.lst K L;obtain⟨m,au,k⟩:=g.lst F P;refine HN ag s σ H _ _ u w Q I q o ⟨_,_,f,m,O,O,G,au,by rw[<- l.length,<- k.length];exact t,λp n=>?_⟩;exact hc _ _ (mu++[p]) (Ext.new_ n) (.ref (gi g.len p)) (g.newL (l.append k) n)
   ·cases c
  ·cases c
 ·cases c
end
def gR(p:Int->Int->Bool):G2:=λd e S=>match d,e with
 | .int i,.int j=>Z (.bl (p i j),S)
 |_,_=>Y
section
variable{X:Cx}
theorem tK{p:Int->Int->Bool}(d e:D)(S:dr)(r:D)(S':dr)(h:gR p d e S=Z (r,S')):∃i j,d = .int i/\e = .int j/\r = .bl (p i j)/\S'=S:=by
 unfold gR at h;split at h
 ·cases h;exact⟨_,_,O,O,O,O⟩
 ·cases h
theorem HZ:fQ X (compareOp .LtE) (r2 X.K (b2 (gR λi j=>decide (i<=j)))):=j0 tK (λ_ _ _ _ _=>.bl _) KC
theorem BR:fQ X (compareOp .Gt) (r2 X.K (b2 (gR λi j=>decide (j<i)))):=j0 tK (λ_ _ _ _ _=>.bl _) KD
theorem H0:fQ X (compareOp .GtE) (r2 X.K (b2 (gR λi j=>decide (j<=i)))):=j0 tK (λ_ _ _ _ _=>.bl _) KE
end
def ma:D->Bool
 | .non=>M
 | .bl _=>M
 | .int _=>M
 | .str _=>M
 |_=>J
noncomputable def Mc:D->D->Option Bool
 | .non,.non=>some true
 | .bl a,.bl b=>some (a == b)
 | .bl a,.int b=>some ((if a then 1 else 0) == b)
 | .int a,.bl b=>some (a == (if b then 1 else 0))
 | .int a,.int b=>some (a == b)
 | .str a,.str b=>some (a == b)
 |d,e=>if ma d&&ma e then some false else none
def vV(f:D->D->Option Bool):List D->List D->Option Bool
 |x::xs,y::ys=>(f x y).bind λb=>(vV f xs ys).map λc=>b&&c
 |[],[]=>Z M
 |_,_=>Z J
def lC(S:dr):Nat->D->D->Option Bool
 |0,_,_=>Y
 |n+1,d,e=>match dQ S d,dQ S e with
  |some p,Z q=>if p.1=q.1 then(if p.1=M/\p.2.length≠q.2.length then Z J else vV (lC S n) p.2 q.2)else Z J
  |some _,Y=>if ma e=M then Z J else Y
  |none,Z _=>if ma d=M then Z J else Y
  |none,Y=>Mc d e
section
variable{X:Cx}{ag:List (c4×Obj)}{σ:L2.St}{H:Hp}{s:c3}{mu:List c4}{S:dr}
theorem fP{K:Fg1}{d:D}{v:V}(r:eQ K H mu d v)(h:ma d=M):lj v=M /\ ∀e w,eQ K H mu e w->ma e=M->Mc d e=Z (vU v w):=by
 cases d with
 |non=>cases r;refine⟨O,λe w q f=>?_⟩;cases e with
  |non=>cases q;rfl
  |bl _=>cases q;rfl
  |int _=>cases q;rfl
  |str _=>cases q;rfl
  |_=>cases f
 |bl b=>cases r;refine⟨O,λe w q f=>?_⟩;cases e with
  |non=>cases q;rfl
  |bl _=>cases q;rfl
  |int _=>cases q;rfl
  |str _=>cases q;rfl
  |_=>cases f
 |int i=>cases r;refine⟨O,λe w q f=>?_⟩;cases e with
  |non=>cases q;rfl
  |bl _=>cases q;rfl
  |int _=>cases q;rfl
  |str _=>cases q;rfl
  |_=>cases f
 |str x=>cases r;refine⟨O,λe w q f=>?_⟩;cases e with
  |non=>cases q;rfl
  |bl _=>cases q;rfl
  |int _=>cases q;rfl
  |str _=>cases q;rfl
  |_=>cases f
 |_=>cases h
theorem pS{d e:D}{b:Bool}(h:Mc d e=Z b):ma d=M/\ma e=M:=by
 cases d<;>cases e<;>first|exact⟨rfl,rfl⟩|(cases h;done)|exact nomatch h|(simp[Mc,ma]at h)
theorem CS{v:V}(h:lj v=M):vU v v=M:=by
 cases v<;>first|rfl|(cases h;done)|exact beq_self_eq_true _|(simp[vU];done)
theorem vw(I:Inv X ag σ H s)(hs:Sim X.K H mu S):∀(n:Nat) {d e:D} {v:V} {b:Bool},eQ X.K H mu d v->eQ X.K H mu e v->lC S n d e=Z b->b=M
 |0,_,_,_,_,_,_,h=>by cases h
 |n + 1,d,e,v,b,u,k,h=>by
  rw[lC]at h;have g:∀{xs ys:List D} {vs:List V} {b:Bool},dI X.K H mu xs vs->dI X.K H mu ys vs->vV (lC S n) xs ys=Z b->b=M:=by
   intro xs
   induction xs with
   |nil=>intro ys vs b y l h;cases y;cases l;cases h;rfl
   |cons x xs ih=>
    intro ys vs b y l h;cases y with
    |cons r t=>
     cases l with
     |cons ao P=>
      rw[vV]at h;obtain⟨b1,i,h⟩:=oB1.mp h;obtain⟨b2,c,h⟩:=oM1.mp h;subst h;rw[vw I hs n r ao i,ih t P c];rfl
  cases hd:dQ S d with
  |some p=>
   obtain⟨C,xs⟩:=p;obtain⟨a,vs,rfl,q,t⟩:=dJ u hs hd;cases he:dQ S e with
   |some p2=>
    obtain⟨qb,ys⟩:=p2;obtain⟨a2,z,c,w,m⟩:=dJ k hs he;cases c;rw[hd,he]at h;dsimp only at h;obtain⟨am,R,A,_⟩:=eR I q;obtain⟨B,au,j,_⟩:=eR I w;have E:C=qb:=by
     cases C<;>cases qb
     ·rfl
     ·obtain⟨o,i,c1,_⟩:=A;obtain⟨K,c,c2,_⟩:=j;rw[i]at c;cases c;rw[c1]at c2;exact absurd c2 (by decide)
     ·obtain⟨o,i,c1,_⟩:=A;obtain⟨K,c,c2,_⟩:=j;rw[i]at c;cases c;rw[c1]at c2;exact absurd c2 (by decide)
     ·rfl
    subst E;have N:=n9 I q w;subst N;rw[ak O,aj (by rw[t.length,m.length];simp)]at h;exact g t m h
   |none=>
    rw[hd,he]at h;dsimp only at h;split at h
    ·rename_i f;have:=(fP k f).1;cases this
    ·cases h
  |none=>
   cases he:dQ S e with
   |some p2=>
    obtain⟨qb,ys⟩:=p2;obtain⟨a2,z,c,w,m⟩:=dJ k hs he;subst c;rw[hd,he]at h;dsimp only at h;split at h
    ·rename_i f;have:=(fP u f).1;cases this
    ·cases h
   |none=>
    rw[hd,he]at h;dsimp only at h;obtain⟨Q,F⟩:=pS h;obtain⟨G,L⟩:=fP u Q;rw[L e v k F]at h;cases h;exact CS G
theorem fu{A:c6}{b:Bool}{a:c4}{its:Array cZ}{v:V}{u:cZ}(c:SCo b s.heap a its)(r:dS v u)(f:lj v=true)(d:A.units<cLine):
   SeqAt.EqAt A s (.ref a) u J/\SeqAt.EqAt A s u (.ref a) J/\SeqAt.RcAt A s (.ref a) u J/\SeqAt.RcAt A s u (.ref a) J:=by
 cases v with
 | non => cases r;cases b
          · exact⟨.tuple_none c d,.none_tuple c d,.tuple_none c d,.none_tuple c d⟩
          · exact⟨.list_none c d,.none_list c d,.list_none c d,.none_list c d⟩
 | bl k => cases r;cases b
           · exact⟨.tuple_bool k c d,.bool_tuple k c d,.tuple_bool k c d,.bool_tuple k c d⟩
           · exact⟨.list_bool k c d,.bool_list k c d,.list_bool k c d,.bool_list k c d⟩
 | int i => obtain ⟨t,rfl⟩:=r;cases b
            · exact⟨.tuple_int i t c d,.int_tuple i t c d,.tuple_int i t c d,.int_tuple i t c d⟩
            · exact⟨.list_int i t c d,.int_list i t c d,.list_int i t c d,.int_list i t c d⟩
 | str x => obtain ⟨t,rfl⟩:=r;cases b
            · exact⟨.tuple_str x t c d,.str_tuple x t c d,.tuple_str x t c d,.str_tuple x t c d⟩
            · exact⟨.list_str x t c d,.str_list x t c d,.list_str x t c d,.str_list x t c d⟩
 |_=>cases f
theorem DV{A:c6}{x y:V}{u w:cZ}(g:dS x u)(a:dS y w)(h:lj x=M)(d:lj y=M):SeqAt.RcAt A s u w (vU x y):=by
 cases x with
 |non=>cases g;cases y with
  |non=>cases a;exact .none_none
  |bl k=>cases a;exact .none_bool k
  |int i=>obtain⟨t,rfl⟩:=a;exact .none_int i t
  |str z=>obtain⟨t,rfl⟩:=a;exact .none_str z t
  |_=>cases d
 |bl e=>cases g;cases y with
  |non=>cases a;exact .bool_none e
  |bl k=>cases a;exact .bool_bool e k
  |int i=>obtain⟨t,rfl⟩:=a;exact .bool_int e i t
  |str z=>obtain⟨t,rfl⟩:=a;exact .bool_str e z t
  |_=>cases d
 |int f=>obtain⟨b,rfl⟩:=g;cases y with
  |non=>cases a;exact .int_none f b
  |bl k=>cases a;exact .int_bool f b k
  |int i=>obtain⟨t,rfl⟩:=a;exact .int_int f b i t
  |str z=>obtain⟨t,rfl⟩:=a;exact .int_str f b z t
  |_=>cases d
 |str c=>obtain⟨b,rfl⟩:=g;cases y with
  |non=>cases a;exact .str_none c b
  |bl k=>cases a;exact .str_bool c b k
  |int i=>obtain⟨t,rfl⟩:=a;exact .str_int c b i t
  |str z=>obtain⟨t,rfl⟩:=a;exact .str_str c b z t
  |_=>cases d
 |_=>cases h
theorem w8(f:D->D->Option Bool):∀{xs ys:List D} {b:Bool},vV f xs ys=Z b -> ∃e:Nat->Bool,(∀j x y,xs[j]?=Z x->ys[j]?=Z y->f x y=Z (e j))/\b=((af (min xs.length ys.length)).all e&&xs.length == ys.length)
 |[],[],b,h=>by cases h;exact⟨λ_=>M,λj x y h=>by simp at h,O⟩
 |[],y::ys,b,h=>by cases h;exact⟨λ_=>M,λj x y h=>by simp at h,by simp⟩
 |x::xs,[],b,h=>by cases h;exact⟨λ_=>M,λj x y h h'=>by simp at h',by simp⟩
 |x::xs,y::ys,b,h=>by
  rw[vV]at h;obtain⟨b1,i,h⟩:=oB1.mp h;obtain⟨b2,d,h⟩:=oM1.mp h;obtain⟨e,k,g⟩:=w8 f d;refine⟨λj=>match j with|0=>b1|j+1=>e j,λj l m a c=>?_,?_⟩
  ·cases j with
   |zero=>simp at a c;subst a;subst c;exact i
   |succ j=>exact k j l m (by simpa using a) (by simpa using c)
  ·rw[<- h,g,lC1,lC1,Nat.succ_min_succ,List.range_succ_eq_map,bS,List.all_map];have:((xs.length+1 == ys.length+1):Bool)=(xs.length == ys.length):=by simp
   rw[this,Bool.and_assoc];rfl
theorem pR(I:Inv X ag σ H s)(hs:Sim X.K H mu S):∀(n:Nat) {A:c6} {d e:D} {v w:V} {u z:cZ} {b:Bool},A.units+n<cLine->eQ X.K H mu d v->eQ X.K H mu e w->dS v u->dS w z->lC S n d e=Z b->SeqAt.EqAt A s u z b/\SeqAt.RcAt A s u z b
 |0,_,_,_,_,_,_,_,_,_,_,_,_,_,h=>by cases h
 |n + 1,A,d,e,v,w,u,z,b,hu,P,r,Q,L,h=>by
  have g:A.units<cLine:=by lia
  have h0:=h;rw[lC]at h;cases hd:dQ S d with
  |some p=>
   obtain⟨pb,xs⟩:=p;obtain⟨a,vs,rfl,q,t⟩:=dJ P hs hd;obtain⟨k,R,o,_⟩:=eR I q;cases Q;cases he:dQ S e with
   |some p2=>
    obtain⟨qb,ys⟩:=p2;obtain⟨a2,ao,rfl,W,au⟩:=dJ r hs he;obtain⟨c,m,i,_⟩:=eR I W;cases L;rw[hd,he]at h;dsimp only at h;have l:SeqAt.RcAt A s (.ref a) (.ref a2) b->SeqAt.EqAt A s (.ref a) (.ref a2) b/\SeqAt.RcAt A s (.ref a) (.ref a2) b:=λrc=>by
     refine⟨?_,rc⟩;by_cases ha:a=a2
     ·subst ha;rw[vw I hs (n+1) P r h0];exact .same _
     ·exact .of_refs ha rc
    split at h
    ·rename_i N;have aq:pb=qb:=N;subst aq;split at h
     ·rename_i wq;cases h;obtain⟨h1,h2⟩:=wq;subst h1;refine l (.lists_lengths o i ?_ g);have l1:=t.length;have l2:=au.length;have l3:=R.length;have l4:=m.length
      simp only[sT1,bne_iff_ne,ne_eq];lia
     ·rename_i wq;obtain ⟨f,hf,am⟩:=w8 _ h;have elts:∀ j (h1:j<k.toArray.size) (h2:j<c.toArray.size),SeqAt.EqAt A.in1 s k.toArray[j] c.toArray[j] (f j):=fun j h1 h2=>by
       have G:j<k.length:=by simpa using h1
       have C:j<c.length:=by simpa using h2
       have k1:j<vs.length:=by rw[R.length];exact G
       have k2:j<ao.length:=by rw[m.length];exact C
       obtain⟨x,ex,rx⟩:=t.getV (gG1 k1);obtain⟨y,ey,ry⟩:=au.getV (gG1 k2);obtain⟨u1,F,T⟩:=R.get (gG1 k1);obtain⟨u2,K,U⟩:=m.get (gG1 k2);have B:k.toArray[j]=u1:=by
        rw[gG1 G]at F;simpa using F
       have e2:c.toArray[j]=u2:=by
        rw[gG1 C]at K;simpa using K
       rw[B,e2];exact(pR I hs n (A:=A.in1) (by show A.units+1+n<cLine;lia) rx ry T U (hf j x y ex ey)).1
      have l1:=t.length;have l2:=au.length;have l3:=R.length;have l4:=m.length
      cases pb with
      |false=>
       refine l ?_;have:=SeqAt.RcAt.tuples o i g elts;rw[am];have B:k.toArray.size=xs.length:=by simp;lia
       have e2:c.toArray.size=ys.length:=by simp;lia
       rw[B,e2]at this;exact this
      |true=>
       refine l ?_;have E:xs.length=ys.length:=by
        by_cases z:xs.length=ys.length
        ·exact z
        ·exact absurd ⟨O,z⟩ wq
       have:=SeqAt.RcAt.lists o i (by simp;lia) g elts;rw[am];have B:k.toArray.size=xs.length:=by simp;lia
       rw[B]at this;rw[E,Nat.min_self,beq_self_eq_true,bP,<- E];exact this
    ·rename_i N;cases h;cases pb with
     |true=>
      cases qb with
      |true=>exact absurd O N
      |false=>exact⟨.list_tuple o i g,.list_tuple o i g⟩
     |false=>
      cases qb with
      |false=>exact absurd O N
      |true=>exact⟨.tuple_list o i g,.tuple_list o i g⟩
   |none=>
    rw[hd,he]at h;dsimp only at h;split at h
    ·rename_i f;cases h;obtain⟨r1,r2,r3,r4⟩:=fu o L (fP r f).1 g;exact⟨r1,r3⟩
    ·cases h
  |none=>
   cases he:dQ S e with
   |some p2=>
    obtain⟨qb,ys⟩:=p2;obtain⟨a2,ao,rfl,W,au⟩:=dJ r hs he;obtain⟨c,m,i,_⟩:=eR I W;cases L;rw[hd,he]at h;dsimp only at h;split at h
    ·rename_i f;cases h;obtain⟨r1,r2,r3,r4⟩:=fu i Q (fP P f).1 g;exact⟨r2,r4⟩
    ·cases h
   |none=>
    rw[hd,he]at h;dsimp only at h;obtain⟨f1,f2⟩:=pS h;obtain⟨g1,g2⟩:=fP P f1;have g3:=(fP r f2).1;rw[g2 e w r f2]at h;cases h;exact⟨lD Q L g1 g3,DV Q L g1 g3⟩
end
def fc:Nat:=60
def gEq:G2:=λd e S=>(lC S fc d e).map λb=>(.bl b,S)
section
variable{X:Cx}
theorem jm(k:X.A.units+64<cLine):fQ X (compareOp .Eq) (r2 X.K (b2 gEq)):=by
 intro ag s σ H x y u w Q I j i h;obtain⟨mu,S,d,e,r,l,g,r2,c,a,hc⟩:=qp h;obtain⟨b,f,a⟩:=oM1.mp a;cases a;exact(pR I c fc (by show _+60<cLine;lia) g r2 j i f).2 X.prog X.w X.xe _ ⟨.bl b,H,I,O,hc.now (.bl b) c⟩
end
section
variable{X:Cx}{ag:List (c4×Obj)}{σ:L2.St}{H:Hp}{s:c3}{mu:List c4}{S:dr}
theorem Er{A:c6}{x y:V}{u w:cZ}(g:dS x u)(a:dS y w)(h:lj x=M)(d:lj y=M):SeqAt.RcNeAt A s u w (!vU x y):=by
 cases x with
 |non=>cases g;cases y with
  |non=>cases a;exact .none_none
  |bl k=>cases a;exact .none_bool k
  |int i=>obtain⟨t,rfl⟩:=a;exact .none_int i t
  |str z=>obtain⟨t,rfl⟩:=a;exact .none_str z t
  |_=>cases d
 |bl e=>cases g;cases y with
  |non=>cases a;exact .bool_none e
  |bl k=>cases a;exact .bool_bool e k
  |int i=>obtain⟨t,rfl⟩:=a;exact .bool_int e i t
  |str z=>obtain⟨t,rfl⟩:=a;exact .bool_str e z t
  |_=>cases d
 |int f=>obtain⟨b,rfl⟩:=g;cases y with
  |non=>cases a;exact .int_none f b
  |bl k=>cases a;exact .int_bool f b k
  |int i=>obtain⟨t,rfl⟩:=a;exact .int_int f b i t
  |str z=>obtain⟨t,rfl⟩:=a;exact .int_str f b z t
  |_=>cases d
 |str c=>obtain⟨b,rfl⟩:=g;cases y with
  |non=>cases a;exact .str_none c b
  |bl k=>cases a;exact .str_bool c b k
  |int i=>obtain⟨t,rfl⟩:=a;exact .str_int c b i t
  |str z=>obtain⟨t,rfl⟩:=a;exact .str_str c b z t
  |_=>cases d
 |_=>cases h
theorem nt{A:c6}{b:Bool}{a:c4}{its:Array cZ}{v:V}{u:cZ}(c:SCo b s.heap a its)(r:dS v u)(f:lj v=M)(d:A.units<cLine):SeqAt.RcNeAt A s (.ref a) u M/\SeqAt.RcNeAt A s u (.ref a) M:=by
 cases v with
 | non => cases r;cases b
          · exact⟨.tuple_none c d,.none_tuple c d⟩
          · exact⟨.list_none c d,.none_list c d⟩
 | bl k => cases r;cases b
           · exact⟨.tuple_bool k c d,.bool_tuple k c d⟩
           · exact⟨.list_bool k c d,.bool_list k c d⟩
 | int i => obtain ⟨t,rfl⟩:=r;cases b
            · exact⟨.tuple_int i t c d,.int_tuple i t c d⟩
            · exact⟨.list_int i t c d,.int_list i t c d⟩
 | str x => obtain ⟨t,rfl⟩:=r;cases b
            · exact⟨.tuple_str x t c d,.str_tuple x t c d⟩
            · exact⟨.list_str x t c d,.str_list x t c d⟩
 |_=>cases f
theorem H9(I:Inv X ag σ H s)(hs:Sim X.K H mu S)(n:Nat){A:c6}{d e:D}{v w:V}{u z:cZ}{b:Bool}(hu:A.units+n<cLine)(Q:eQ X.K H mu d v)(G:eQ X.K H mu e w)(R:dS v u)(ao:dS w z)(h:lC S n d e=Z b):SeqAt.RcNeAt A s u z (!b):=by
 cases n with
 |zero=>cases h
 |succ n=>
  have g:A.units<cLine:=by lia
  rw[lC]at h;cases hd:dQ S d with
  |some p=>
   obtain⟨pb,xs⟩:=p;obtain⟨a,vs,rfl,q,t⟩:=dJ Q hs hd;obtain⟨k,T,m,_⟩:=eR I q;cases R;cases he:dQ S e with
   |some p2=>
    obtain⟨qb,ys⟩:=p2;obtain⟨a2,K,rfl,U,N⟩:=dJ G hs he;obtain⟨c,l,i,_⟩:=eR I U;cases ao;rw[hd,he]at h;dsimp only at h;have l1:=t.length;have l2:=N.length;have l3:=T.length;have l4:=l.length
    split at h
    ·rename_i L;have W:pb=qb:=L;subst W;split at h
     ·rename_i aq;cases h;obtain⟨h1,h2⟩:=aq;subst h1;refine .lists_lengths m i ?_ g;simp only[sT1,bne_iff_ne,ne_eq];lia
     ·rename_i aq;obtain ⟨f,hf,E⟩:=w8 _ h;have elts:∀ j (h1:j<k.toArray.size) (h2:j<c.toArray.size),SeqAt.EqAt A.in1 s k.toArray[j] c.toArray[j] (f j):=fun j h1 h2=>by
       have am:j<k.length:=by simpa using h1
       have r:j<c.length:=by simpa using h2
       have k1:j<vs.length:=by rw[T.length];exact am
       have k2:j<K.length:=by rw[l.length];exact r
       obtain⟨x,ex,rx⟩:=t.getV (gG1 k1);obtain⟨y,ey,ry⟩:=N.getV (gG1 k2);obtain⟨u1,C,au⟩:=T.get (gG1 k1);obtain⟨u2,F,P⟩:=l.get (gG1 k2);have o:k.toArray[j]=u1:=by
        rw[gG1 am]at C;simpa using C
       have wq:c.toArray[j]=u2:=by
        rw[gG1 r]at F;simpa using F
       rw[o,wq];exact(pR I hs n (A:=A.in1) (by show A.units+1+n<cLine;lia) rx ry au P (hf j x y ex ey)).1
      cases pb with
      |false=>
       have:=SeqAt.RcNeAt.tuples m i g elts;rw[E];have o:k.toArray.size=xs.length:=by simp;lia
       have wq:c.toArray.size=ys.length:=by simp;lia
       rw[o,wq]at this;exact this
      |true=>
       have B:xs.length=ys.length:=by
        by_cases z:xs.length=ys.length
        ·exact z
        ·exact absurd ⟨O,z⟩ aq
       have:=SeqAt.RcNeAt.lists m i (by simp;lia) g elts;rw[E];have o:k.toArray.size=xs.length:=by simp;lia
       rw[o]at this;rw[B,Nat.min_self,beq_self_eq_true,bP,<- B];exact this
    ·rename_i L;cases h;cases pb with
     |true=>
      cases qb with
      |true=>exact absurd O L
      |false=>exact .list_tuple m i g
     |false=>
      cases qb with
      |false=>exact absurd O L
      |true=>exact .tuple_list m i g
   |none=>
    rw[hd,he]at h;dsimp only at h;split at h
    ·rename_i f;cases h;exact(nt m ao (fP G f).1 g).1
    ·cases h
  |none=>
   cases he:dQ S e with
   |some p2=>
    obtain⟨qb,ys⟩:=p2;obtain⟨a2,K,rfl,U,N⟩:=dJ G hs he;obtain⟨c,l,i,_⟩:=eR I U;cases ao;rw[hd,he]at h;dsimp only at h;split at h
    ·rename_i f;cases h;exact(nt i R (fP Q f).1 g).2
    ·cases h
   |none=>
    rw[hd,he]at h;dsimp only at h;obtain⟨f1,f2⟩:=pS h;obtain⟨g1,g2⟩:=fP Q f1;have g3:=(fP G f2).1;rw[g2 e w G f2]at h;cases h;exact Er R ao g1 g3
end
def zN:G2:=λd e S=>(lC S fc d e).map λb=>(.bl (!b),S)
def Gq(f:D->D->Option Bool)(x:D):List D->Option Bool
 |[]=>Z J
 |y::ys=>(f y x).bind λb=>(Gq f x ys).map λc=>b||c
def JN:G2:=λd e S=>(dQ S e).bind λp=>(Gq (lC S fc) d p.2).map λb=>(.bl b,S)
def pH:G2:=λd e S=>(dQ S e).bind λp=>(Gq (lC S fc) d p.2).map λb=>(.bl (!b),S)
def rO:D->Bool
 | .non=>M
 |_=>J
def M6:G2:=λd e S=>match e with
 | .non=>Z (.bl (rO d),S)
 |_=>Y
def Fm:G2:=λd e S=>match e with
 | .non=>Z (.bl (!rO d),S)
 |_=>Y
section
variable{X:Cx}
theorem BP(k:X.A.units+64<cLine):fQ X (compareOp .NotEq) (r2 X.K (b2 zN)):=by
 intro ag s σ H x y u w Q I j i h;obtain⟨mu,S,d,e,r,l,g,r2,c,a,hc⟩:=qp h;obtain⟨b,f,a⟩:=oM1.mp a;cases a;exact H9 I c fc (by show _+60<cLine;lia) g r2 j i f X.prog X.w X.xe _ ⟨.bl (!b),H,I,O,hc.now (.bl _) c⟩
theorem Cw(f:D->D->Option Bool)(x:D):∀{ys:List D} {b:Bool},Gq f x ys=Z b -> ∃bs:List Bool,bs.length=ys.length/\(∀(j:Nat) (y:D) (k:Bool),ys[j]?=Z y->bs[j]?=Z k->f y x=Z k)/\b=bs.any id
 |[],b,h=>by cases h;exact⟨[],O,λj y k h=>by simp at h,O⟩
 |y::ys,b,h=>by
  rw[Gq]at h;obtain⟨b1,i,h⟩:=oB1.mp h;obtain⟨b2,e,h⟩:=oM1.mp h;obtain⟨bs,l,g,a⟩:=Cw f x e;refine⟨b1::bs,by simp[l],λj m k c d=>?_,?_⟩
  ·cases j with
   |zero=>simp at c d;subst c;subst d;exact i
   |succ j=>exact g j m k (by simpa using c) (by simpa using d)
  ·rw[<- h,a];simp
open Classical in
theorem Gp{ag:List (c4×Obj)}{σ:L2.St}{H:Hp}{s:c3}{mu:List c4}{S:dr}(I:Inv X ag σ H s)(hs:Sim X.K H mu S){A:c6}(K:A.units+61<cLine){x:D}{v:V}{u:cZ}(F:eQ X.K H mu x v)(G:dS v u){ys:List D}{vs:List V}{a:List cZ}{b:Bool}(o:dI X.K H mu ys vs)(q:d5 vs a)(h:Gq (lC S fc) x ys=Z b):∃e:cZ->Bool,(∀w∈a,SeqAt.EqAt A.in1 s w u (e w))/\a.any e=b:=by
 obtain⟨bs,L,C,rfl⟩:=Cw _ x h;have am:=o.length;have ao:=q.length;have l:∀(j:Nat) w k,a[j]?=Z w->bs[j]?=Z k->SeqAt.EqAt A.in1 s w u k:=λj w k g d=>by
  have p:j<a.length:=(gE1.mp g).1;obtain⟨y,B,E⟩:=o.getV (i:=j) (v:=vs[j]'(by lia)) (gG1 (by lia));obtain⟨N,r,r2⟩:=q.get (i:=j) (x:=vs[j]'(by lia)) (gG1 (by lia));rw[g]at r;cases r;exact(pR I hs fc (A:=A.in1) (by show A.units+1+60<cLine;lia) E F r2 G (C j y k B d)).1
 refine⟨λw=>decide (∃j:Nat,a[j]?=Z w/\bs[j]?=Z M),λw g=>?_,?_⟩
 ·by_cases z:∃j:Nat,a[j]?=Z w/\bs[j]?=Z M
  ·dsimp only;rw[ah z];obtain⟨j,n,c⟩:=z;exact l j w M n c
  ·dsimp only;rw[ai z];obtain⟨j,f⟩:=bB g;have p:j<a.length:=(gE1.mp f).1;have m:j<bs.length:=by lia
   have c:=gG1 m;cases d:bs[j]with
   |true=>rw[d]at c;exact absurd ⟨j,f,c⟩ z
   |false=>rw[d]at c;exact l j w J f c
 ·rw[bT,bU,bU];constructor
  ·rintro⟨w,g,z⟩;obtain⟨j,n,c⟩:=of_decide_eq_true z;exact⟨M,gM1 c,O⟩
  ·rintro⟨k,d,z⟩;obtain⟨j,f⟩:=bB d;have p:j<bs.length:=(gE1.mp f).1;have m:j<a.length:=by lia
   have t:k=M:=z;subst t;exact⟨a[j],bV m,ah ⟨j,gG1 m,f⟩⟩
theorem MQ(E:X.A.units+64<cLine):fQ X (compareOp .In) (r2 X.K (b2 JN)):=by
 intro ag s σ H x y u w Q I C B h;obtain⟨mu,S,d,e,r,F,p,r2,j,i,hc⟩:=qp h;obtain⟨⟨D,ys⟩,o,i⟩:=oB1.mp i;obtain⟨b,z,i⟩:=oM1.mp i;cases i;obtain⟨a,vs,rfl,q,t⟩:=dJ r2 j o;cases B;obtain⟨c,v,l,_⟩:=eR I q;obtain⟨f,m,n⟩:=Gp I j (A:=X.A) (by lia) p C t v z;have g:EP X ag σ Q (.bool (c.toArray.any f)) s:=⟨.bl b,H,I,by rw[show c.toArray.any f=c.any f by simp,n];rfl,hc.now (.bl b) j⟩;cases D
 ·exact SeqAt.in_tupleAt f l (λy k=>m y (by simpa using k)) g
 ·exact SeqAt.in_listAt f l (λy k=>m y (by simpa using k)) g
theorem Eo(E:X.A.units+64<cLine):fQ X (compareOp .NotIn) (r2 X.K (b2 pH)):=by
 intro ag s σ H x y u w Q I C B h;obtain⟨mu,S,d,e,r,F,p,r2,j,i,hc⟩:=qp h;obtain⟨⟨D,ys⟩,o,i⟩:=oB1.mp i;obtain⟨b,z,i⟩:=oM1.mp i;cases i;obtain⟨a,vs,rfl,q,t⟩:=dJ r2 j o;cases B;obtain⟨c,v,l,_⟩:=eR I q;obtain⟨f,m,n⟩:=Gp I j (A:=X.A) (by lia) p C t v z;have g:EP X ag σ Q (.bool (!c.toArray.any f)) s:=⟨.bl (!b),H,I,by rw[show c.toArray.any f=c.any f by simp,n];rfl,hc.now (.bl _) j⟩;cases D
 ·exact SeqAt.notIn_tupleAt f l (λy k=>m y (by simpa using k)) g
 ·exact SeqAt.notIn_listAt f l (λy k=>m y (by simpa using k)) g
theorem x9{K:Fg1}{H:Hp}{mu:List c4}{d:D}{v:V}(r:eQ K H mu d v):rO d=decide (v = .non):=by
 cases r<;>simp[rO]
theorem KL:fQ X (compareOp .Is) (r2 X.K (b2 M6)):=by
 intro ag s σ H x y u w Q I g f h;obtain⟨mu,S,d,e,r,i,c,r2,b,a,hc⟩:=qp h;cases e with
 |non=>
  cases a;cases r2;refine HM ag s σ H _ _ u w Q I g f ⟨O,?_⟩;rw[<- x9 c];exact hc.now (.bl _) b
 |_=>cases a
theorem HX:fQ X (compareOp .IsNot) (r2 X.K (b2 Fm)):=by
 intro ag s σ H x y u w Q I g f h;obtain⟨mu,S,d,e,r,i,c,r2,b,a,hc⟩:=qp h;cases e with
 |non=>
  cases a;cases r2;refine Ej ag s σ H _ _ u w Q I g f ⟨O,?_⟩;rw[<- x9 c];exact hc.now (.bl _) b
 |_=>cases a
end
def eB:G1:=λd S=>match d with
 | .str x=>if x.length<=da then Z (.int x.length,S)else Y
 |_=>(dQ S d).map λp=>(.int p.2.length,S)
def CI:G2:=λd e S=>match e with
 | .int i=>(dQ S d).bind λp=>(vW p.2 i).map λx=>(x,S)
 |_=>Y
def gTup:G1:=λd S=>(dQ S d).map λp=>(.tup p.2,S)
def nT:G1:=λd S=>(dQ S d).map λp=>(.ref S.length,S++[.lst p.2])
def j9:G3:=λo i v S=>match o,i with
 | .ref n,.int k=>match S[n]? with
  |some (.lst xs)=>(wT xs.length k).map λj=>(.non,S.set n (.lst (xs.set j v)))
  |_=>Y
 |_,_=>Y
def Dj:List D->Option Bool
 |[]=>Z M
 | .bl b::r=>(Dj r).map λc=>b&&c
 |_=>Y
def Dg:List D->Option Bool
 |[]=>Z J
 | .bl b::r=>(Dg r).map λc=>b||c
 |_=>Y
def lB:G1:=λd S=>(dQ S d).bind λp=>(Dj p.2).map λb=>(.bl b,S)
def nU:G1:=λd S=>(dQ S d).bind λp=>(Dg p.2).map λb=>(.bl b,S)
def l8:G1:=λd S=>match d with
 | .int i=>Z (.int i,S)
 | .bl b=>Z (.int (if b then 1 else 0),S)
 |_=>Y
def Fi:G2:=λd e S=>match d,e with
 | .int i,.int j=>Z (.int (if j>i then j else i),S)
 |_,_=>Y
def wZ:G2:=λd e S=>match d,e with
 | .int i,.int j=>Z (.int (if j<i then j else i),S)
 |_,_=>Y
section
variable{X:Cx}
theorem eT:eN X (.builtin "len") (rN X.K (b1 eB)):=by
 intro ag s σ H xs g Q I r h;obtain⟨x,mu,S,d,l,k,rfl,f,e,c,hc⟩:=zi h;unfold eB at c;split at c
 ·split at c
  ·rename_i z j;cases c;cases f;exact tX ag s σ H _ g Q I r ⟨_,O,j,hc.now (.int _) e⟩
  ·cases c
 ·obtain⟨⟨b,ys⟩,i,c⟩:=oM1.mp c;cases c;obtain⟨a,vs,rfl,q,t⟩:=dJ f e i;refine tY ag s σ H _ g Q I r ⟨a,vs,O,?_,?_⟩
  ·cases b
   ·exact .inr q
   ·exact .inl q
  ·rw[<- t.length];exact hc.now (.int _) e
theorem FR{K:Fg1}{H:Hp}{mu:List c4}{ds:List D}{vs:List V}{i:Int}{d:D}(t:dI K H mu ds vs)(h:vW ds i=Z d):∃v,vW vs i=Z v/\eQ K H mu d v:=by
 unfold vW at h ⊢;rw[<- t.length];obtain⟨j,a,h⟩:=oB1.mp h;obtain⟨v,b,c⟩:=t.get h;exact⟨v,by rw[a];exact b,c⟩
theorem Mh:GC X (r2 X.K (b2 CI)):=by
 intro value c ag s σ H x y v u Q I o n h g;obtain⟨mu,S,d,e,r,B,w,r2,j,f,hc⟩:=qp h;cases e with
 |int i=>
  obtain⟨⟨b,ys⟩,p,f⟩:=oB1.mp f;obtain⟨z,A,f⟩:=oM1.mp f;cases f;cases r2;obtain⟨a,vs,rfl,q,t⟩:=dJ w j p;obtain⟨k,l,m⟩:=FR t A;cases b
  ·exact IX value c ag s σ H _ _ v u Q I o n ⟨a,vs,i,k,O,O,q,l,hc.now m j⟩ g
  ·exact EZ value c ag s σ H _ _ v u Q I o n ⟨a,vs,i,k,O,O,q,l,hc.now m j⟩ g
 |_=>cases f
theorem eL:eN X (.type "tuple") (rN X.K (b1 gTup)):=by
 intro ag s σ H xs j Q I r h;obtain⟨x,mu,S,d,m,k,rfl,i,c,e,hc⟩:=zi h;obtain⟨⟨b,ys⟩,g,e⟩:=oM1.mp e;cases e;obtain⟨a,vs,rfl,q,t⟩:=dJ i c g;refine qL ag s σ H _ j Q I r ⟨a,vs,O,?_⟩;cases b
 ·exact .inr ⟨q,hc.now (.tup q t) c⟩
 ·exact .inl ⟨q,λl f=>hc _ _ mu (Ext.fresh f) (.tup (kP.of d9) (t.ext (Ext.fresh f))) (c.fresh f)⟩
theorem pZ:eN X (.type "list") (rN X.K (b1 nT)):=by
 intro ag s σ H xs j Q I r h;obtain⟨x,mu,S,d,m,k,rfl,i,c,e,hc⟩:=zi h;obtain⟨⟨b,ys⟩,g,e⟩:=oM1.mp e;cases e;obtain⟨a,vs,rfl,q,t⟩:=dJ i c g;refine tW ag s σ H _ j Q I r ⟨a,vs,O,?_,λl f=>hc _ _ (mu++[l]) (Ext.new_ f) (.ref (gi c.len l)) (c.newL t f)⟩;cases b
 ·exact .inr q
 ·exact .inl q
theorem Kl:xw X (rU X.K (b3 j9)):=by
 intro ag s σ H o i v C m u Q I q w x h;obtain⟨mu,S,ds,d,F,z,f,a,hc⟩:=h;cases z with
 |cons r A=>cases A with
  |cons y p=>cases p with
   |cons g l=>
    cases l;rename_i G E D;dsimp only[b3]at a;unfold j9 at a;split at a
    ·rename_i n k;split at a
     ·rename_i xs e;obtain⟨j,B,a⟩:=oM1.mp a;cases a;cases r with
      |ref c=>
       cases y;obtain⟨vs,b,t⟩:=f.lst e c;refine A8 ag s σ H _ _ v C m u Q I q w x ⟨_,vs,k,j,O,O,b,by rw[<- t.length];exact B,?_⟩;exact hc _ mu (Ext.put b trivial (gM1 c)) (f.putL (t.set g j) c b)
     ·cases a
    ·cases a
theorem FY{K:Fg1}{H:Hp}{mu:List c4}:∀{ds:List D} {vs:List V} {a:List cZ} {b:Bool},dI K H mu ds vs->d5 vs a->Dj ds=Z b -> ∃bs:List Bool,a=bs.map Value.bool/\b=bs.all id:=by
 intro ds
 induction ds with
 |nil=>intro vs a b r v h;cases r;cases v;cases h;exact⟨[],O,O⟩
 |cons d ds ih=>
  intro vs a b r v h;cases r with
  |cons i t=>
   cases v with
   |cons r j=>
    cases i
    case bl k=>
     obtain⟨c,e,h⟩:=oM1.mp h;obtain⟨bs,g,f⟩:=ih t j e;cases r;exact⟨k::bs,by rw[g];rfl,by rw[<- h,f];rfl⟩
    all_goals cases h
theorem FU{K:Fg1}{H:Hp}{mu:List c4}:∀{ds:List D} {vs:List V} {a:List cZ} {b:Bool},dI K H mu ds vs->d5 vs a->Dg ds=Z b -> ∃bs:List Bool,a=bs.map Value.bool/\b=bs.any id:=by
 intro ds
 induction ds with
 |nil=>intro vs a b r v h;cases r;cases v;cases h;exact⟨[],O,O⟩
 |cons d ds ih=>
  intro vs a b r v h;cases r with
  |cons i t=>
   cases v with
   |cons r j=>
    cases i
    case bl k=>
     obtain⟨c,e,h⟩:=oM1.mp h;obtain⟨bs,g,f⟩:=ih t j e;cases r;exact⟨k::bs,by rw[g];rfl,by rw[<- h,f];rfl⟩
    all_goals cases h
theorem rp(bs:List Bool):(af bs.length).all (λi=>bs.getD i M)=bs.all id:=by
 rw[bT,bH,bH];constructor
 ·intro h b c;obtain⟨i,hi,rfl⟩:=bW.mp c;have:=h i (aB.mpr hi);simpa[bM,hi]using this
 ·intro h i hi;have a:=aB.mp hi;have:=h _ (bV a);simpa[bM,a]using this
theorem ro(bs:List Bool):(af bs.length).any (λi=>bs.getD i M)=bs.any id:=by
 rw[bT,bU,bU];constructor
 ·rintro⟨i,hi,h⟩;have a:=aB.mp hi;exact⟨bs[i],bV a,by simpa[bM,a]using h⟩
 ·rintro⟨b,c,h⟩;obtain⟨i,hi,rfl⟩:=bW.mp c;exact⟨i,aB.mpr hi,by simpa[bM,hi]using h⟩
theorem wb{s:c3}{b:Bool}{a:c4}{bs:List Bool}(hc:X.A.handled=Y)(g:SCo b s.heap a (bs.map Value.bool).toArray){Q:cZ->c3->Prop}(all:∀h' tk,(∀c o,s.heap.get? c=Z o->h'.get? c=Z o)->Q (.bool (bs.all id)) {s with heap:=h',toks:=tk}):db (model X.prog X.w) X.A (call (.builtin "all") [.ref a]) Q X.xe s:=by
 refine call_all_walk (jj g ?_);have j:a<s.heap.objs.size:=by cases b<;>(obtain⟨o,e,_⟩:=g;exact hL1 e)
 have ne:a≠s.heap.objs.size:=nN1 j;have l:TruthOf X.prog X.w X.A.in1 (λi v=>(bs.map Value.bool).toArray[i]?=Z v) (λi=>bs.getD i M):=λi v s' p q n h=>by
  have d:(bs.map Value.bool)[i]?=Z v:=by simpa using n
  rw[gP1]at d;obtain⟨k,m,rfl⟩:=oM1.mp d;dsimp only at h;rw[bM,m]at h;exact wpAny_truthy_bool h
 have keep:∀(h':df),(∀c o,c∉[s.heap.objs.size]->(s.heap.push (fO b a)).get? c=Z o->h'.get? c=Z o) -> ∀c o,s.heap.get? c=Z o->h'.get? c=Z o:=λh' f c o e=>
  f c o (by simpa using nN1 (hL1 e)) (hP1 _ e)
 have hi:(s.heap.push (fO b a)).get? s.heap.objs.size=Z (fO b a):=hS1 _ (by cases b<;>rfl);cases b with
 |true=>
  refine⟨s.heap.objs.size,_,_,_,_,_,_,O,Walks.list (A:=X.A.in1) hc s.heap.objs.size a ne (bs.map Value.bool).toArray,⟨⟨_,hi,O,O⟩,SCo.to (b:=M) g λo e=>hP1 _ e⟩,l,λh' tk f=>?_⟩;have e:(bs.map Value.bool).toArray.size=bs.length:=by simp
  rw[e,rp];exact all h' tk (keep h' f)
 |false=>
  refine⟨s.heap.objs.size,_,_,_,_,_,_,O,Walks.tuple (A:=X.A.in1) hc s.heap.objs.size a ne (bs.map Value.bool).toArray,⟨⟨_,hi,O,O⟩,SCo.to (b:=J) g λo e=>hP1 _ e⟩,l,λh' tk f=>?_⟩;have e:(bs.map Value.bool).toArray.size=bs.length:=by simp
  rw[e,rp];exact all h' tk (keep h' f)
theorem walk_bools'{s:c3}{b:Bool}{a:c4}{bs:List Bool}(hc:X.A.handled=Y)(g:SCo b s.heap a (bs.map Value.bool).toArray){Q:cZ->c3->Prop}(all:∀h' tk,(∀c o,s.heap.get? c=Z o->h'.get? c=Z o)->Q (.bool (bs.any id)) {s with heap:=h',toks:=tk}):db (model X.prog X.w) X.A (call (.builtin "any") [.ref a]) Q X.xe s:=by
 refine call_any_walk (jj g ?_);have j:a<s.heap.objs.size:=by cases b<;>(obtain⟨o,e,_⟩:=g;exact hL1 e)
 have ne:a≠s.heap.objs.size:=nN1 j;have l:TruthOf X.prog X.w X.A.in1 (λi v=>(bs.map Value.bool).toArray[i]?=Z v) (λi=>bs.getD i M):=λi v s' p q n h=>by
  have d:(bs.map Value.bool)[i]?=Z v:=by simpa using n
  rw[gP1]at d;obtain⟨k,m,rfl⟩:=oM1.mp d;dsimp only at h;rw[bM,m]at h;exact wpAny_truthy_bool h
 have keep:∀(h':df),(∀c o,c∉[s.heap.objs.size]->(s.heap.push (fO b a)).get? c=Z o->h'.get? c=Z o) -> ∀c o,s.heap.get? c=Z o->h'.get? c=Z o:=λh' f c o e=>
  f c o (by simpa using nN1 (hL1 e)) (hP1 _ e)
 have hi:(s.heap.push (fO b a)).get? s.heap.objs.size=Z (fO b a):=hS1 _ (by cases b<;>rfl);cases b with
 |true=>
  refine⟨s.heap.objs.size,_,_,_,_,_,_,O,Walks.list (A:=X.A.in1) hc s.heap.objs.size a ne (bs.map Value.bool).toArray,⟨⟨_,hi,O,O⟩,SCo.to (b:=M) g λo e=>hP1 _ e⟩,l,λh' tk f=>?_⟩;have e:(bs.map Value.bool).toArray.size=bs.length:=by simp
  rw[e,ro];exact all h' tk (keep h' f)
 |false=>
  refine⟨s.heap.objs.size,_,_,_,_,_,_,O,Walks.tuple (A:=X.A.in1) hc s.heap.objs.size a ne (bs.map Value.bool).toArray,⟨⟨_,hi,O,O⟩,SCo.to (b:=J) g λo e=>hP1 _ e⟩,l,λh' tk f=>?_⟩;have e:(bs.map Value.bool).toArray.size=bs.length:=by simp
  rw[e,ro];exact all h' tk (keep h' f)
theorem p0(hc:X.calm=M):eN X (.builtin "all") (rN X.K (b1 lB)):=by
 intro ag s σ H xs y Q I r h;obtain⟨x,mu,S,d,w,v,rfl,m,f,c,e⟩:=zi h;obtain⟨⟨b,ys⟩,j,c⟩:=oB1.mp c;obtain⟨k,o,c⟩:=oM1.mp c;cases c;obtain⟨a,vs,rfl,q,t⟩:=dJ m f j;obtain⟨u,rfl,i⟩:=im r;cases i;obtain⟨g,n,l,_⟩:=eR I q;obtain⟨bs,rfl,rfl⟩:=FY t n o;exact wb (I.ok.hd hc) l λh' tk p=>⟨.bl _,H,I.kept p,O,e.now (.bl _) f⟩
theorem yJ(hc:X.calm=M):eN X (.builtin "any") (rN X.K (b1 nU)):=by
 intro ag s σ H xs y Q I r h;obtain⟨x,mu,S,d,w,v,rfl,m,f,c,e⟩:=zi h;obtain⟨⟨b,ys⟩,j,c⟩:=oB1.mp c;obtain⟨k,o,c⟩:=oM1.mp c;cases c;obtain⟨a,vs,rfl,q,t⟩:=dJ m f j;obtain⟨u,rfl,i⟩:=im r;cases i;obtain⟨g,n,l,_⟩:=eR I q;obtain⟨bs,rfl,rfl⟩:=FU t n o;exact walk_bools' (I.ok.hd hc) l λh' tk p=>⟨.bl _,H,I.kept p,O,e.now (.bl _) f⟩
theorem sn:eN X (.type "int") (rN X.K (b1 l8)):=by
 intro ag s σ H xs f Q I r h;obtain⟨x,mu,S,d,j,g,rfl,e,c,a,hc⟩:=zi h;cases d with
 |int i=>cases a;cases e;exact si ag s σ H _ f Q I r (.inl ⟨i,O,hc.now (.int _) c⟩)
 |bl b=>cases a;cases e;exact si ag s σ H _ f Q I r (.inr ⟨b,O,hc.now (.int _) c⟩)
 |_=>cases a
theorem LD(hc:X.calm=M):eN X (.builtin "max") (rN X.K (b2 Fi)):=by
 intro ag s σ H xs g Q I r h;obtain⟨x,y,mu,S,d,e,j,i,rfl,f,r2,c,a,b⟩:=Bc h;unfold Fi at a;split at a
 ·cases a;cases f;cases r2;exact Ag hc ag s σ H _ g Q I r ⟨_,_,O,b.now (.int _) c⟩
 ·cases a
theorem Gw(hc:X.calm=M):eN X (.builtin "min") (rN X.K (b2 wZ)):=by
 intro ag s σ H xs g Q I r h;obtain⟨x,y,mu,S,d,e,j,i,rfl,f,r2,c,a,b⟩:=Bc h;unfold wZ at a;split at a
 ·cases a;cases f;cases r2;exact Af hc ag s σ H _ g Q I r ⟨_,_,O,b.now (.int _) c⟩
 ·cases a
end
open PySem.SeqAt
open PySem.AutoSeq1 (wpAny_loadPart')
open PySem.MeetsSeq PySem.MeetsSeq2 PySem.MeetsSeq3
def F0(A:c6)(s:c3)(y x:cZ)(b:Bool):Prop:=∀(prog:c5) (w:c7) (E:cZ->c3->Prop) (Q:cZ->c3->Prop),Q (.bool b) s->db (model prog w) A (richCompare .Lt y x) Q E s
inductive Au (A:c6)(s:c3):List cZ->List cZ->Bool->Prop
 |nn:Au A s [] [] false
 |nc (y:cZ) (ys:List cZ):Au A s [] (y::ys) true
 |cn (x:cZ) (xs:List cZ):Au A s (x::xs) [] false
 |eq {x y:cZ} {xs ys:List cZ} {k:Bool} (e:EqAt A.in1 s x y true) (t:Au A s xs ys k):Au A s (x::xs) (y::ys) k
 |lt {x y:cZ} {xs ys:List cZ} {k:Bool} (e:EqAt A.in1 s x y false) (t:F0 A.in1 s x y k):Au A s (x::xs) (y::ys) k
theorem GN(l b:c4)(items items2:Array cZ)(n B:Nat)(dd r:Option c4)(sl m:Array (Option cZ))(c:Bool):
  Meets (Builtin.«tuple.__lt__» ⟨[.ref l,.ref b],[]⟩) (fun A R s=>s.heap.get? l=some {cls:=.type "tuple",dict:=dd,data:=.seq items n,slots:=sl}/\s.heap.get? b=some {cls:=.type "tuple",dict:=r,data:=.seq items2 B,slots:=m} /\
    Au A s items.toList items2.toList c/\R (.ok (.ret (.bool c))) s):=
 .of_wp λprog w A R s h=>by
  obtain⟨u,g,d,tk,v⟩:=s;obtain⟨E,z,C,h⟩:=h;have G:=AutoSeq1.sub_tuple_tuple
  wp_walk using wpAny_loadPart' E,wpAny_loadPart' z,wpAny_forIn_list _ (λrest b s'=>b.1=Y/\s'=⟨u,g,d,tk,v⟩ /\ ∃vs ws:List cZ,rest=vs.zip ws/\Au A ⟨u,g,d,tk,v⟩ vs ws c/\vs.length+items2.size=ws.length+items.size) _
  case turn=>
   rintro⟨y,x⟩ rest b s' ⟨j,rfl,vs,ws,f,p,a⟩;cases p with
   |nn=>cases f
   |nc _ _=>cases f
   |cn _ _=>cases f
   |eq e t=>
    rw[bX]at f;injection f with k i;injection k with o q;subst o q
    simp only[lC1]at a;refine wB1 (e prog w _ _ ?_)
    wp_walk
    exact⟨O,O,_,_,i,t,by lia⟩
   |lt e t=>
    rw[bX]at f;injection f with k i;injection k with o q;subst o q
    refine wB1 (e prog w _ _ ?_);have F:=t prog w
    wp_walk using F
    exact⟨_,O,by simpa using h⟩
  case fin=>
   rintro⟨b1,b2⟩ s' ⟨j,rfl,vs,ws,f,p,a⟩;simp only at j;subst j;have D:c=decide (items.size<items2.size):=by
    cases p with
    |nn=>simp only[bo]at a;exact(ai (by lia)).symm
    |nc _ _=>simp only[bo,lC1]at a;exact(ah (by lia)).symm
    |cn _ _=>simp only[bo,lC1]at a;exact(ai (by lia)).symm
    |eq _ _=>rw[bX]at f;cases f
    |lt _ _=>rw[bX]at f;cases f
   rw[D]at h
   wp_walk
   exact⟨_,O,by simpa[Builtin.Tuple.tupleCompareSizes]using h⟩
  case h=>exact⟨O,O,items.toList,items2.toList,O,C,by simp;lia⟩
theorem Cf(l b:c4)(items items2:Array cZ)(n G:Nat)(dd B:Option c4)(sl r:Array (Option cZ))(c:Bool)(k:Nat):
  ∀i:Nat,items.size-i=k->i<=items.size->i<=items2.size->Meets (Builtin.«list.__eq__.loop» ⟨[.ref l,.ref b,rawInt i,rawInt 0],[]⟩)
   (λA R s=>s.heap.get? l=Z {cls:=.type "list",dict:=dd,data:=.seq items n,slots:=sl}/\s.heap.get? b=Z {cls:=.type "list",dict:=B,data:=.seq items2 G,slots:=r} /\
    Au A s (items.toList.drop i) (items2.toList.drop i) c/\R (.ok (.ret (.bool c))) s):=by
 induction k with
 |zero=>
  intro i E z v prog w A R s h;obtain⟨C,g,d,tk,D⟩:=s;obtain⟨m,f,a,h⟩:=h
  wp_walk using wpAny_loadPart' m,wpAny_loadPart' f
  have o:items[((i:Nat):Int).toNat]?=Y:=by simp;lia
  have x:items.toList.drop i=[]:=by simp;lia
  rw[x]at a;rw[o]
  wp_walk using wpAny_loadPart' m,wpAny_loadPart' f
  have H:c=decide (items.size<items2.size):=by
   cases h2:items2.toList.drop i with
   |nil=>
    rw[h2]at a;cases a;have:=congrArg List.length h2;simp at this;exact(ai (by lia)).symm
   |cons y ys=>
    rw[h2]at a;cases a;have:=congrArg List.length h2;simp at this;exact(ah (by lia)).symm
  show R (.ok (.ret (.bool (decide (items.size<items2.size))))) _;rw[<- H];exact h
 |succ k ih=>
  intro i E z v prog w A R s h;obtain⟨C,g,d,tk,D⟩:=s;obtain⟨m,f,a,h⟩:=h;have p:i<items.size:=by lia
  have x:items.toList.drop i=items[i]::items.toList.drop (i+1):=by simp[List.drop_eq_getElem_cons,p]
  have o:items[((i:Nat):Int).toNat]?=Z items[i]:=by simp[p]
  have hc:((i:Int)+1)=((i+1:Nat):Int):=by push_cast;rfl
  rw[x]at a;rcases bY i items2.size with j|F
  ·have u:items2.toList.drop i=items2[i]::items2.toList.drop (i+1):=by simp[List.drop_eq_getElem_cons,j]
   have q:items2[((i:Nat):Int).toNat]?=Z items2[i]:=by simp[j]
   rw[u]at a
   wp_walk using wpAny_loadPart' m,wpAny_loadPart' f
   rw[o,q];cases a with
   |eq e t=>
    refine wB1 (e prog w _ _ ?_)
    wp_walk
    rw[hc];exact⟨plainId_quiet plain_eq_loop _,wD1 entry_eq_loop (by rw[Around.under_plainId plain_eq_loop _];exact ih (i+1) (by lia) (by lia) (by lia) prog w A R _ ⟨m,f,t,h⟩)⟩
   |lt e t=>
    refine wB1 (e prog w _ _ ?_);have I:=t prog w
    wp_walk using wpAny_loadPart' m,wpAny_loadPart' f
    rw[o,q]
    wp_walk using I
    simpa using h
  ·have q:items2[((i:Nat):Int).toNat]?=Y:=by simp;lia
   have u:items2.toList.drop i=[]:=by simp;lia
   rw[u]at a;cases a
   wp_walk using wpAny_loadPart' m,wpAny_loadPart' f
   rw[o,q]
   wp_walk using wpAny_loadPart' m,wpAny_loadPart' f
   show R (.ok (.ret (.bool (decide (items.size<items2.size))))) _;rw[ai (by lia)];exact h
theorem IK(l b:c4)(items items2:Array cZ)(n j:Nat)(dd a:Option c4)(sl e:Array (Option cZ))(c:Bool):
  Meets (Builtin.«list.__lt__» ⟨[.ref l,.ref b],[]⟩) (fun A R s=>s.heap.get? l=some {cls:=.type "list",dict:=dd,data:=.seq items n,slots:=sl}/\s.heap.get? b=some {cls:=.type "list",dict:=a,data:=.seq items2 j,slots:=e} /\
    Au A s items.toList items2.toList c/\R (.ok (.ret (.bool c))) s):=by
 intro prog w A R s h;obtain⟨m,g,d,tk,p⟩:=s;obtain⟨i,f,k,h⟩:=h;have o:=AutoSeq1.sub_list_list
 wp_walk using wpAny_loadPart' i,wpAny_loadPart' f
 exact⟨plainId_quiet plain_eq_loop _,wD1 entry_eq_loop (by rw[Around.under_plainId plain_eq_loop _];exact Cf l b items items2 n j dd a sl e c _ 0 O (br _) (br _) prog w A R _ ⟨i,f,by simpa using k,h⟩)⟩
theorem GZ{A:c6}{s:c3}{k:Bool}{l b:c4}{xs ys:Array cZ}{c:Bool}(c1:SCo k s.heap l xs)(c2:SCo k s.heap b ys)(y:A.units<cLine)(h:Au A s xs.toList ys.toList c):F0 A s (.ref l) (.ref b) c:=λprog w E Q q=>by
 cases k
 ·obtain⟨⟨v,r,j,t⟩,o,hc,n,p⟩:=id c1;obtain⟨⟨m,g,f,i⟩,d,e,u,a⟩:=id c2;simp only at hc p e a;subst hc p e a;exact richCompare_meets_room (op:=.Lt) ⟨_,o,O⟩ ⟨_,d,O⟩ PySem.F.slot_tuple_lt PySem.F.entry_tuple_lt (PySem.F.args_tuple_lt_2 _ _) (GN l b xs ys n u r g t i c) ⟨o,d,h,show Value.bool c≠Value.notImplemented/\Q (.bool c) s from⟨(λx=>nomatch x),q⟩⟩ y
 ·obtain⟨⟨v,r,j,t⟩,o,hc,n,p⟩:=id c1;obtain⟨⟨m,g,f,i⟩,d,e,u,a⟩:=id c2;simp only at hc p e a;subst hc p e a;exact richCompare_meets_room (op:=.Lt) ⟨_,o,O⟩ ⟨_,d,O⟩ PySem.F.slot_list_lt PySem.F.entry_list_lt (PySem.F.args_list_lt_2 _ _) (IK l b xs ys n u r g t i c) ⟨o,d,h,show Value.bool c≠Value.notImplemented/\Q (.bool c) s from⟨(λx=>nomatch x),q⟩⟩ y
def L6(f g:D->D->Option Bool):List D->List D->Option Bool
 |[],[]=>Z J
 |[],_::_=>Z M
 |_::_,[]=>Z J
 |x::xs,y::ys=>(f x y).bind λb=>if b=M then L6 f g xs ys else g x y
def NB:D->D->Option Bool
 | .int i,.int j=>Z (decide (i<j))
 | .str x,.str y=>Z (decide (x.cps.toList<y.cps.toList))
 |_,_=>Y
def JL(S:dr):Nat->D->D->Option Bool
 |0,_,_=>Y
 |n+1,d,e=>match NB d e with
  |some b=>Z b
  |none=>match dQ S d,dQ S e with
   |some p,Z q=>if p.1=q.1 then L6 (lC S n) (JL S n) p.2 q.2 else Y
   |_,_=>Y
def w1:G2:=λd e S=>(JL S fc d e).map λb=>(.bl b,S)
section
variable{X:Cx}{ag:List (c4×Obj)}{σ:L2.St}{H:Hp}{s:c3}{mu:List c4}{S:dr}
theorem IJ(I:Inv X ag σ H s)(hs:Sim X.K H mu S){n:Nat}{A:c6}(l:A.units+1+n<cLine)(ih:∀ {d e:D} {v w:V} {u z:cZ} {b:Bool},eQ X.K H mu d v->eQ X.K H mu e w->dS v u->dS w z->JL S n d e=some b->F0 A.in1 s u z b):
  ∀{xs ys:List D} {vs ws:List V} {f zs:List cZ} {b:Bool},dI X.K H mu xs vs->dI X.K H mu ys ws->d5 vs f->d5 ws zs->L6 (lC S n) (JL S n) xs ys=Z b->Au A s f zs b
 :=by
 intro xs
 induction xs with
 |nil=>
  intro ys vs ws f zs b a r2 g c h;cases a;cases g;cases r2 with
  |nil=>cases c;cases h;exact .nn
  |cons _ _=>cases c;cases h;exact .nc _ _
 |cons x xs r=>
  intro ys vs ws f zs b a r2 g c h;cases a with
  |cons a o=>
   cases g with
   |cons i q=>
    cases r2 with
    |nil=>cases c;cases h;exact .cn _ _
    |cons r2 p=>
     cases c with
     |cons j p2=>
      rw[L6]at h;obtain⟨k,m,h⟩:=oB1.mp h;have eq:=(pR I hs n (A:=A.in1) l a r2 i j m).1;cases k with
      |true=>exact .eq eq (r o p q p2 h)
      |false=>exact .lt eq (ih a r2 i j h)
theorem Ce(I:Inv X ag σ H s)(hs:Sim X.K H mu S):∀(n:Nat) {A:c6} {d e:D} {v w:V} {u z:cZ} {b:Bool},A.units+n<cLine->eQ X.K H mu d v->eQ X.K H mu e w->dS v u->dS w z->JL S n d e=Z b->F0 A s u z b
 |0,_,_,_,_,_,_,_,_,_,_,_,_,_,h=>by cases h
 |n + 1,A,d,e,v,w,u,z,b,W,g,o,i,r,h=>by
  rw[JL]at h;split at h
  ·rename_i k c;cases h;unfold NB at c;split at c
   ·cases c;cases g;cases o;obtain⟨t,rfl⟩:=i;obtain⟨m,rfl⟩:=r;exact λprog w E Q q=>(PyProof.Rows.lt_int q:db (model prog w) A (compareOp .Lt (.int _ t) (.int _ m)) Q E s)
   ·cases c;cases g;cases o;obtain⟨t,rfl⟩:=i;obtain⟨m,rfl⟩:=r;exact λprog w E Q q=>(PyProof.Rows.lt_str q:db (model prog w) A (compareOp .Lt (.str _ t) (.str _ m)) Q E s)
   ·cases c
  ·split at h
   ·rename_i p q au P;split at h
    ·rename_i y;obtain⟨T,xs⟩:=p;obtain⟨qb,ys⟩:=q;have j:T=qb:=y;subst j;obtain⟨a,vs,rfl,L,R⟩:=dJ g hs au;obtain⟨a2,U,rfl,N,C⟩:=dJ o hs P;cases i;cases r;obtain⟨G,ao,B,_⟩:=eR I L;obtain⟨x,l,f,_⟩:=eR I N;refine GZ B f (by lia) ?_;have:=IJ I hs (A:=A) (n:=n) (by lia) (λK r2 am F h=>Ce I hs n (A:=A.in1) (by show A.units+1+n<cLine;lia) K r2 am F h) R C ao l h;simpa using this
    ·cases h
   ·cases h
theorem lf(k:X.A.units+64<cLine):fQ X (compareOp .Lt) (r2 X.K (b2 w1)):=by
 intro ag s σ H x y u w Q I j i h;obtain⟨mu,S,d,e,r,l,g,r2,c,a,hc⟩:=qp h;obtain⟨b,f,a⟩:=oM1.mp a;cases a;exact Ce I c fc (by show _+60<cLine;lia) g r2 j i f X.prog X.w X.xe _ ⟨.bl b,H,I,O,hc.now (.bl b) c⟩
end
inductive Ty where
 |int|bool|str|tuple|list|dict
 deriving DecidableEq
def Ty.nm:Ty->String
 | .int=>"int" | .bool=>"bool" | .str=>"str" | .tuple=>"tuple" | .list=>"list" | .dict=>"dict"
noncomputable def mL (S:dr)(T:Ty):D->Option Bool
 | .non=>some false
 | .bl _=>some (decide (T = .bool)||decide (T = .int))
 | .int _=>some (decide (T = .int))
 | .str _=>some (decide (T = .str))
 | .tup _=>some (decide (T = .tuple))
 | .rol _=>some (decide (T = .list))
 | .ref n=>match S[n]? with
  |some (.lst _)=>some (decide (T = .list))
  |some (.dct _)=>some (decide (T = .dict))
  |some (.dcT _)=>some (decide (T = .dict))
  |_=>none
 | .fn _=>none
def gx(T:Ty)(m:FE):FE:=λr S=>(m r S).bind λp=>(mL p.2 T p.1).map λb=>(.bl b,p.2)
section
variable{X:Cx}{ag:List (c4×Obj)}{σ:L2.St}{H:Hp}{s:c3}{mu:List c4}{S:dr}{K:Fg1}
theorem EU(T:Ty):PySem.W.kitOne K (.type "NoneType") (.type T.nm)=Z J:=by cases T<;>rfl
theorem IS(T:Ty):PySem.W.kitOne K (.type "bool") (.type T.nm)=Z (decide (T = .bool)||decide (T = .int)):=by cases T<;>rfl
theorem EX(T:Ty):PySem.W.kitOne K (.type "int") (.type T.nm)=Z (decide (T = .int)):=by cases T<;>rfl
theorem ET(T:Ty):PySem.W.kitOne K (.type "str") (.type T.nm)=Z (decide (T = .str)):=by cases T<;>rfl
theorem ES(T:Ty):PySem.W.kitOne K (.type "tuple") (.type T.nm)=Z (decide (T = .tuple)):=by cases T<;>rfl
theorem EV(T:Ty):PySem.W.kitOne K (.type "list") (.type T.nm)=Z (decide (T = .list)):=by cases T<;>rfl
theorem yg(T:Ty):PySem.W.kitOne K (.type "dict") (.type T.nm)=Z (decide (T = .dict)):=by cases T<;>rfl
theorem E6{T:Ty}{d:D}{v:V}{u:cZ}{b:Bool}{Q:cZ->c3->Prop}{E:cZ->c3->Prop}(I:Inv X ag σ H s)(hs:Sim X.K H mu S)(r:eQ X.K H mu d v)(f:dS v u)(h:mL S T d=some b)(q:∀ tk,Q (.bool b) {s with toks:=tk}):
  db (model X.prog X.w) X.A (call (.builtin "isinstance") [u,.type T.nm]) Q E s:=by
 have g:∀{k:Bool} {a:c4} {vs:List V},uc X.K k H a vs->b=(match k with|true=>decide (T = .list)|false=>decide (T = .tuple))->db (model X.prog X.w) X.A (call (.builtin "isinstance") [.ref a,.type T.nm]) Q E s:=λ{k a vs} j p=>by
  obtain⟨y,C,w,_⟩:=eR I j;cases k
  ·obtain⟨o,e,c,_⟩:=w;subst p;exact PySem.W.kia_one PySem.W.kitx_tuple I.kIn ⟨o,e,c⟩ (ES T) (λz=>nomatch z) q
  ·obtain⟨o,e,c,_⟩:=w;subst p;exact PySem.W.kia_one PySem.W.kitx_list I.kIn ⟨o,e,c⟩ (EV T) (λz=>nomatch z) q
 cases d with
 |non=>cases h;cases r;exact jt I f .non (EU T) q
 |bl k=>cases h;cases r;exact jt I f (.bl k) (IS T) q
 |int i=>cases h;cases r;exact jt I f (.int i) (EX T) q
 |str x=>cases h;cases r;exact jt I f (.str x) (ET T) q
 |tup xs=>
  cases h;obtain⟨a,vs,rfl,j,t⟩:=dJ (S:=S) r hs O;cases f;exact g j O
 |fn x=>cases h
 |rol xs=>
  cases h;obtain⟨a,vs,rfl,j,t⟩:=dJ (S:=S) r hs O;cases f;exact g j O
 |ref n=>
  rw[mL]at h;split at h
  ·rename_i xs e;cases h;obtain⟨a,vs,rfl,j,t⟩:=dJ (S:=S) r hs (by rw[dQ,e]);cases f;exact g j O
  ·rename_i ks e;cases h;cases r with
   |ref m=>
    obtain⟨ws,l,_⟩:=hs.dct e m;exact jt I f (.dK l) (yg T) q
  ·rename_i ks e;cases h;cases r with
   | @ref _ a m=>
    cases(show u=Value.ref a from f);obtain⟨ws,l,_⟩:=hs.dcT e m;obtain⟨⟨_,_,o,_,_,B,A,_⟩,_⟩:=(show eM X.prog X.w H s.heap a (.ext (iW a ws))from I.hok a _ l);exact PySem.W.kia_one PySem.W.kitx_dict I.kIn ⟨o,B,A.1⟩ (yg T) (λz=>nomatch z) q
  ·cases h
theorem C9(T:Ty):eN X (.builtin "isinstance") (λxs H Q=>∃x mu S d b,xs=[x,.ty T.nm]/\eQ X.K H mu d x/\Sim X.K H mu S/\mL S T d=Z b/\Q (.bl b) H):=by
 intro ag s σ H xs i Q I r h;obtain⟨x,mu,S,d,b,rfl,e,c,f,hc⟩:=h;obtain⟨u,g,rfl,a,rt⟩:=AG r;cases rt;exact E6 I c e a f λtk=>⟨.bl b,H,I.tok tk,O,hc⟩
theorem zx (T:Ty){e:Expr}{m:FE}{nm:Str}{p p2 pos:Pos}(hg:Gl X "isinstance")(hm:X.mg "isinstance"=none)(hg2:Gl X nm)(hm2:X.mg nm=none)(hv2:bootBuiltins nm=some (.type T.nm))(h:ME X e m)
  (hn:nm≠"__name__":=by decide) (hd:(nm == ("__debug__":Str))=J:=by decide)
  (hs1:c9 [e,.Name nm p2] X.env=(J,eval e X.env)::c9 [.Name nm p2] X.env:=by rfl) (hs2:c9 [.Name nm p2] X.env=(J,eval (.Name nm p2) X.env)::c9 [] X.env:=by rfl)
  (hpl:(backTo pos (c9 [.Name nm p2] X.env)).any (·.1)=J:=by rfl):ME X (.Call (.Name "isinstance" p) [e,.Name nm p2] [] pos) (gx T m):=
 eP (pc (C9 T) hg hm (by decide+kernel) (kC h (kC (Ei (v:=.ty T.nm) hg2 hm2 hv2 O hn hd) ph hs2) hs1) (by decide) (by decide) hs1 hpl) <| by
  rintro σ H Q ⟨r,mu,S,d,n,k,f,hm,hc⟩;obtain⟨⟨c,o⟩,i,hm⟩:=oB1.mp hm;obtain⟨b,g,hm⟩:=oM1.mp hm;cases hm;refine⟨r,mu,S,c,_,k,f,i,λv H1 mu1 l j a=>?_⟩;exact⟨v,mu1,_,c,b,O,j,a,g,hc _ H1 mu1 l (.bl b) a⟩
end
abbrev FO:=Ev->dr->Option (Option Int×dr)
def NY(K:Fg1)(m:FO):TO:=fun σ H Q=>∃r mu S o S',fH K H mu r σ/\Sim K H mu S/\m r S=Z (o,S') /\ ∀H' mu',Ext mu mu' H H'->Sim K H' mu' S'->Q o H'
abbrev MO(X:Cx)(e:Option Expr)(m:FO):Prop:=PO X e (NY X.K m)
def fv:FO:=λ_ S=>Z (Y,S)
def eW(m:FE):FO:=λr S=>(m r S).bind λp=>match p.1 with
 | .int i=>Z (Z i,p.2)
 |_=>Y
def gn(xs:List D)(lo hi:Option Int):List D:=(xs.drop (HT.sIx xs.length 0 lo)).take (HT.sIx xs.length xs.length hi-HT.sIx xs.length 0 lo)
section
variable{X:Cx}
theorem EA:MO X Y fv:=by
 rintro ag s σ H Q I ⟨r,mu,S,o,d,c,b,a,hc⟩;cases a;exact D9 ag s σ H Q I (hc H mu (.refl _ _) b)
theorem Ez{e:Expr}{m:FE}(h:ME X e m):MO X (Z e) (eW m):=by
 rintro ag s σ H Q I ⟨r,mu,S,o,l,j,b,a,hc⟩;obtain⟨⟨d,n⟩,c,a⟩:=oB1.mp a;cases d with
 |int i=>
  cases a;refine D8 h ag s σ H Q I ⟨r,mu,S,_,_,j,b,c,λv H1 mu1 k f g=>?_⟩;cases f;exact⟨i,O,hc H1 mu1 k g⟩
 |_=>cases a
theorem yE{K:Fg1}{H:Hp}{mu:List c4}{ds:List D}{vs:List V}(t:dI K H mu ds vs)(lo hi:Option Int):dI K H mu (gn ds lo hi) (vG vs lo hi):=by
 unfold gn vG;rw[<- t.length];exact(t.drop _).take _
def J4(ta:TA):TE:=fun σ H Q=>ta σ H λvs H1=>∃j:Int,vs=[.int j] /\ ∀p,H1 p=Y->Q (.ref p) (upd H1 p (.rng 0 j))
theorem zn {a:Expr}{ta:TA}{p pos:Pos}(hg:Gl X "range")(hm:X.mg "range"=Y)(ha:PA X [a] ta)(hs:c9 [a] X.env=[(J,eval a X.env)]:=by rfl):PE X (.Call (.Name "range" p) [a] [] pos) (J4 ta):=by
 intro ag s σ H Q I h;refine Call_ (j6 I hg hm boot_range (PyProof.Rows.callWith_type1 (ff (ha pos ag s σ H _ I h) λk f ⟨vs,H1,c,d,g⟩=>?_) hs O));obtain⟨j,e,q⟩:=g;subst e;cases d with
 |cons r i=>
  cases i;obtain⟨t,rfl⟩:=r;refine call_range_1 ⟨.ref f.heap.objs.size,_,c.laid (λb o e=>hP1 _ e) (nR1 _) (o:=.rng 0 j) ?_,O,q _ (c.hok.fresh (nR1 _))⟩;exact⟨_,_,_,hS1 _ O⟩
def nM(i:Int):Nat->List V
 |0=>[]
 |n+1=>.int i::nM (i+1) n
theorem oY:∀(n:Nat) (i:Int),(nM i n).length=n
 |0,_=>rfl
 |n+1,i=>by rw[nM,lC1,oY n]
theorem uE:∀(n:Nat) (i:Int) (k:Nat) (v:V),(nM i n)[k]?=Z v->v = .int (i+k)
 |0,i,k,v,h=>by simp[nM]at h
 |n+1,i,0,v,h=>by simp[nM]at h;rw[<- h];simp
 |n+1,i,k+1,v,h=>by
  rw[nM,gC1]at h;rw[uE n (i+1) k v h,show i+1+(k:Int)=i+((k+1:Nat):Int) by push_cast;lia]
theorem uD{K:Fg1}{H:Hp}{mu:List c4}:∀(n:Nat) (i:Int),dI K H mu (jn i n) (nM i n)
 |0,_=>.nil
 |n+1,i=>.cons (.int i) (uD n (i+1))
theorem xF:∀{xs:List V} {a:List cZ},xs.length=a.length->(∀(i:Nat) x u,xs[i]?=Z x->a[i]?=Z u->dS x u)->d5 xs a
 |[],[],_,_=>.nil
 |x::xs,u::a,h,f=>.cons (f 0 x u O O) (xF (by simpa using h) λi y w h1 h2=>f (i+1) y w (by simpa using h1) (by simpa using h2))
 |[],_::_,h,_=>by simp at h
 |_::_,[],h,_=>by simp at h
theorem FD(hc:X.calm=M):eN X (.type "list") (λxs H Q=>∃p i j,xs=[.ref p]/\H p=Z (.rng i j)/\(-(2^62)<=i/\i<2^62 /\ -(2^62)<=j/\j<2^62)/\(j-i).toNat<=2^20 /\ ∀l,H l=Y->Q (.ref l) (upd H l (.lst (nM i (j-i).toNat)))):=by
 intro ag s σ H xs F Q I r h;obtain⟨p,i,j,rfl,z,⟨h1,h2,C,B⟩,f,q⟩:=h;obtain⟨u,rfl,m⟩:=im r;cases m;obtain⟨t,u,v,e⟩:=I.hok p _ z;have A:(((j-i).toNat:Nat):Int)=Builtin.Range.rangeSize i j 1:=by rw[rangeSize_one];split<;>lia
 refine call_list_range (n:=(j-i).toNat) (I.ok.hd hc) e (small_one h1 h2 C B) A.symm (aC f (by decide)) λh' tk b g D E hi=>?_;obtain⟨d,c⟩:=hi;have a:d5 (nM i (j-i).toNat) b.toList:=xF (by rw[oY];simpa using d.symm) λk x u o y=>by
  rw[uE _ _ _ _ o];obtain⟨w,rfl⟩:=c k u (by simpa using y);exact⟨w,by rw[Int.mul_one]⟩
 refine⟨.ref s.heap.objs.size,_,I.laid (t':=tk) D (nR1 _) (show eM X.prog X.w _ h' _ (.lst (nM i (j-i).toNat))from⟨?_,b.toList,g,a,by simpa using E⟩),O,q _ (I.hok.fresh (nR1 _))⟩;rw[oY];exact aC f (by decide)
def xT(i j:Int):Bool:=decide (-(2^62)<=i)&&decide (i<2^62)&&decide (-(2^62)<=j)&&decide (j<2^62)&&decide ((j-i).toNat<=2^20)
def wQ(m:FA):FE:=λr S=>(m r S).bind λp=>match p.1 with
 |[.int j]=>if xT 0 j=M then Z (.ref p.2.length,p.2++[.lst (jn 0 j.toNat)])else Y
 |_=>Y
theorem uF{i j:Int}(h:xT i j=M):(-(2^62)<=i/\i<2^62 /\ -(2^62)<=j/\j<2^62)/\(j-i).toNat<=2^20:=by
 unfold xT at h;simp only[bA1,al]at h;obtain⟨⟨⟨⟨h1,h2⟩,b⟩,a⟩,c⟩:=h;exact⟨⟨h1,h2,b,a⟩,c⟩
theorem IL{K:Fg1}{mu:List c4}{H H1:Hp}{S1:dr}{i j:Int}{Q:VK}{mu1:List c4}(c:Ext mu mu1 H H1)(a:Sim K H1 mu1 S1)(hc:ue K mu H (.ref S1.length) (S1++[.lst (jn i (j-i).toNat)]) Q){p l:c4}(hp:H1 p=none)(b:upd H1 p (.rng i j) l=none):
  Q (.ref l) (upd (upd H1 p (.rng i j)) l (.lst (nM i (j-i).toNat))):=
 hc _ _ (mu1++[l]) ((c.trans (Ext.fresh hp)).trans (Ext.new_ b)) (.ref (gi a.len l)) ((a.fresh hp).newL (uD _ _) b)
theorem zw {a:Expr}{m:FA}{f p2 b c:Pos}(hc:X.calm=true)(hg:Gl X "range")(hm:X.mg "range"=none)(hg2:Gl X "list")(hm2:X.mg "list"=none)(ha:MA X [a] m)(hs:c9 [a] X.env=[(false,eval a X.env)]:=by rfl)
  (hs2:c9 [.Call (.Name "range" f) [a] [] b] X.env=[(J,eval (.Call (.Name "range" f) [a] [] b) X.env)]:=by rfl):ME X (.Call (.Name "list" p2) [.Call (.Name "range" f) [a] [] b] [] c) (wQ m):=
 eP (mD (FD hc) hg2 hm2 (by decide+kernel) (kC (zn hg hm ha hs) ph hs2) (by decide) (by decide) hs2) <| by
  rintro σ H Q ⟨r,mu,S,d,u,s,hs,hm,e⟩;obtain⟨⟨ds,w⟩,h,hm⟩:=oB1.mp hm;dsimp only at hm;split at hm
  ·rename_i j;split at hm
   ·rename_i g;cases hm;refine⟨r,mu,S,_,_,s,hs,h,λvs H1 mu1 t i n=>?_⟩;obtain⟨v,rfl,o⟩:=oZ i;cases o;refine⟨j,O,λp k=>⟨p,0,j,O,d9,(uF g).1,(uF g).2,λl q=>IL t n (by rw[Int.sub_zero];exact e) k q⟩⟩
   ·cases hm
  ·cases hm
end
def kW:G2:=λo v S=>match o with
 | .ref n=>match S[n]? with
  |some (.lst xs)=>if xs.length<da then Z (.non,S.set n (.lst (xs++[v])))else Y
  |_=>Y
 |_=>Y
def CH:G2:=λo i S=>match o,i with
 | .ref n,.int k=>match S[n]? with
  |some (.lst xs)=>if-(2^63)<=k/\k<2^63 then(wT xs.length k).bind λj=>(xs[j]?).map λy=>(y,S.set n (.lst (xs.eraseIdx j)))else Y
  |_=>Y
 |_,_=>Y
noncomputable def ug (f:FN)(o:FE)(a:FA):FE:=λr S=>(o r S).bind λp=>match p.1 with
 | .ref n=>match p.2[n]? with
  |some (.lst _)=>(a r p.2).bind λq=>f (p.1::q.1) q.2
  |_=>none
 |_=>none
section
variable{X:Cx}
theorem JZ:JH X "list.append" (λx xs H Q=>rN X.K (b2 kW) (x::xs) H Q):=by
 intro ag s σ H x xs v m Q I l g h;obtain⟨q,y,mu,S,d,e,r,p,j,i,r2,f,a,hc⟩:=Bc h;cases j;cases d with
 |ref n=>
  rw[kW]at a;split at a
  ·rename_i ys k;split at a
   ·rename_i o;cases a;cases i with
    |ref c=>
     obtain⟨vs,b,t⟩:=f.lst k c;refine rF ag s σ H _ [y] v m Q I l g ⟨_,vs,y,O,O,b,by rw[<- t.length];exact o,?_⟩;exact hc _ _ mu (Ext.put b trivial (gM1 c)) .non (f.putL (t.append (.cons r2 .nil)) c b)
   ·cases a
  ·cases a
 |_=>cases a
theorem JX:JH X "list.pop" (λx xs H Q=>rN X.K (b2 CH) (x::xs) H Q):=by
 intro ag s σ H x xs v B Q I A m h;obtain⟨E,y,mu,S,d,e,F,D,q,l,r2,i,a,hc⟩:=Bc h;cases q;unfold CH at a;split at a
 ·rename_i n k;split at a
  ·rename_i ys r;split at a
   ·rename_i g;obtain⟨j,p,a⟩:=oB1.mp a;obtain⟨z,C,a⟩:=oM1.mp a;cases a;cases l with
    |ref f=>
     cases r2;obtain⟨vs,b,t⟩:=i.lst r f;obtain⟨w,o,c⟩:=t.get C;refine BZ ag s σ H _ [.int k] v B Q I A m ⟨_,vs,k,j,w,O,O,b,g.1,g.2,?_,o,?_⟩
     ·rw[<- t.length];exact(tG p).1
     ·have x:=Ext.put (u:=.lst (vs.eraseIdx j)) b trivial (gM1 f);exact hc _ _ mu x (c.ext x) (i.putL (t.eraseIdx j) f b)
   ·cases a
  ·cases a
 ·cases a
theorem B6 {o e:Expr}{es:List Expr}{m:FE}{a:FA}{f:FN}{name:Str}{apos cpos:Pos}{id:String}(slot:Slot "list" name id)(hty:typeOf (.builtin id)=pure (.type "method_descriptor"))(hm:JH X id (fun x xs H Q=>rN X.K f (x::xs) H Q))(ho:ME X o m)(ha:MA X (e::es) a)
  (hbase:attributeBase o name X.env (eval o X.env)=eval o X.env:=by rfl)
  (hfew:((backTo cpos (c9 (e::es) X.env)).all (λx=> !x.1)&&(backToKw cpos (keywordEach [] X.env)).all (λx=>x.1.isSome)&&decide ((e::es).length+([]:List Keyword).length+(if([]:List Keyword).isEmpty then 0 else 1)<30))=M:=by rfl)
  (hline:(apos.endLine == cpos.line)=M:=by rfl) (hs:c9 (e::es) X.env=(J,eval e X.env)::c9 es X.env:=by rfl) (hplain:(backTo cpos (c9 es X.env)).any (·.1)=J:=by rfl):
  ME X (.Call (.Attribute o name apos) (e::es) [] cpos) (ug f m a):=
 eP (Kz PySem.F.plainAttrs_list slot hty hm ho ha hbase hfew hline hs hplain) <| by
  rintro σ H Q ⟨r,mu,S,d,w,l,hs,hm,hc⟩;obtain⟨⟨j,k⟩,q,hm⟩:=oB1.mp hm;refine⟨r,mu,S,j,k,l,hs,q,λv H1 mu1 p i h=>?_⟩;cases j with
  |ref n=>
   dsimp only at hm;split at hm
   ·rename_i xs z;obtain⟨⟨ds,g⟩,B,hm⟩:=oB1.mp hm;refine⟨?_,r,mu1,k,ds,g,l.ext p,h,B,λvs H2 b x2 r2 y=>?_⟩
    ·cases i with
     |ref A=>
      obtain⟨vs,u,t⟩:=h.lst z A;exact .inl ⟨O,vs,mY.of u⟩
    ·exact⟨b,g,.ref n::ds,d,w,.cons (i.ext x2) r2,y,hm,λs D c C=>hc s D c ((p.trans x2).trans C)⟩
   ·cases hm
  |_=>cases hm
end
theorem D5{X:Cx}(hc:X.calm=true){elt tg iter:Expr}{ifs:List Expr}{rest:List Comprehension}{scope:dj}{pos n N:Pos}{y:Str}{i:Nat}{T:List Str}{keep:List Nat}{A:List (Str×c4)}{wi:TI}{g:TG}{ti:TT}{tb:c4->TS}{emit:cZ->Env->Sem Unit}(wq:swapsWith (.ListComp elt (⟨tg,iter,ifs,0⟩::rest) scope pos) (some (.Name y N)) n.line X.env=pure true)(eq:∀it w k,compTurn (.ListComp elt (⟨tg,iter,ifs,0⟩::rest) scope pos) 0 it w k=ur iter.pos tg ifs it k (emit w k) (.compLoop (.ListComp elt (⟨tg,iter,ifs,0⟩::rest) scope pos) 0 it w k))(C:LV X scope T keep)(F:kX X.env.cells scope.names []=some A)(hi:PI X tg iter wi)(hb:∀s H d p,PG (cxC X scope A T keep s H d) tg g/\q3 (cxC X scope A T keep s H d) ifs ti/\PU (cxC X scope A T keep s H d) (emit (.ref p) (cxC X scope A T keep s H d).env) (tb p))(hN:X.N.Nodup)(hy:X.N[i]?=some y)(hx:xy X.env.scope y)(hf:X.fn y=true\/X.env.scope.names.lookup y=some .local)(hs:∀x,foldedSetIterable iter X.env x=pure x:=by intro _;rfl):
  PS X (.Assign [.Name y N] (.ListComp elt (⟨tg,iter,ifs,0⟩::rest) scope pos) n) (AW (AU T.length keep wi g ti tb) (yu i)):=by
 intro ag s σ H D I h;rw[exec_Assign_Name_used _ _ _ _ wq];refine wB1 (wpAny_standAt (wB1 ?_));show db _ X.A (do let _<-comprehension (.ListComp elt (⟨tg,iter,ifs,0⟩::rest) scope pos) scope X.env _ (newList []) J (eval iter X.env) (Z (assign (.Name y N) X.env))) _ _ s;refine wB1 (wpAny_mono (wpAny_comprehension_free (use:=Z (assign (.Name y N) X.env)) (Q:=λ_ s'=>SP X ag D .next s') O hs (C2 F) C.kind C.names ?_) (λ_ s' hq=>wP1 (wP1 hq)) λ_ _ e=>e);refine ff (hi ag s σ H _ I h) λv s1 h1=>ff h1 λitv a h2=>?_;obtain⟨it,d,tn,am,H2,rfl,I2,TT,K,f2,q2⟩:=h2;refine wO1 ?_;have u:Inv X ag σ (upd H2 a.heap.objs.size (.lst [])) {a with heap:=a.heap.push {cls:=.type "list",data:=.seq ([]:List cZ).toArray}}:=I2.lnew (t':=a.toks) .nil (br _);have old:∀b∈d,∃o,a.heap.get? b=Z o:=λb hb=>by
  obtain⟨o,e,_⟩:=TT.obj 0 a.heap K b hb;exact⟨o,e⟩
 have U:∀b∈d,b≠a.heap.objs.size:=λb hb z=>by
  obtain⟨o,e⟩:=old b hb;have:=hL1 e;rw[z]at this;exact az _ this
 have au:∀b∈d,kZ X ag (upd H2 a.heap.objs.size (.lst [])) b:=λb hb=>⟨by rw[d0 (U b hb)];exact(f2 b hb).1,(f2 b hb).2⟩;have o3:∀b∈d,∃o,({a with heap:=a.heap.push {cls:=.type "list",data:=.seq ([]:List cZ).toArray}}:c3).heap.get? b=Z o:=λb hb=>by
  obtain⟨o,e⟩:=old b hb;exact⟨o,hP1 _ e⟩
 have P:=vi u C F au o3;obtain⟨hg,aq,he⟩:=hb {a with heap:=a.heap.push {cls:=.type "list",data:=.seq ([]:List cZ).toArray}} (upd H2 a.heap.objs.size (.lst [])) d a.heap.objs.size;refine lg ?_;have f4:∀b∈d,kZ (cxC X scope A T keep {a with heap:=a.heap.push {cls:=.type "list",data:=.seq ([]:List cZ).toArray}} (upd H2 a.heap.objs.size (.lst [])) d) [] (upd H2 a.heap.objs.size (.lst [])) b:=λb hb=>
  ⟨(au b hb).1,(P.ok.exf b hb).1,P.ok.exfs b hb,.inl hb,(P.ok.exf b hb).2,λp E=>absurd (show p∈([]:List (c4×Obj))from E) (by simp)⟩
 have L:tn 0 (pushCells ((a.heap.push {cls:=.type "list",data:=.seq ([]:List cZ).toArray}).push {cls:=.type "dict",data:=.dict #[]}) scope.names):=
  TT.keep 0 a.heap _ K λb hb o e=>pushCells_keeps scope.names _ b o (hP1 _ (hP1 _ e))
 have l:=se (X:=cxC X scope A T keep {a with heap:=a.heap.push {cls:=.type "list",data:=.seq ([]:List cZ).toArray}} (upd H2 a.heap.objs.size (.lst [])) d) O hc (eq (.ref it) (.ref a.heap.objs.size) _) TT hg aq he P L f4
  (q2 a.heap.objs.size (I2.hok.fresh (nR1 _)))
 refine codeAny_mono (codeAny_compStart_list l (TT.self X.A 0 _ _ _ L l)) λr s' hr=>?_;cases r with
 |error e=>exact hr.elim
 |ok f=>
  obtain⟨σ',H',B,q'⟩:=hr;have J1:Inv X ag σ H' s':=u.call' (s':=s') (ch:=d) B.os B.base B.hok B.bare λb hb=>(au b hb).2.2.2 |> λz=>⟨z.1,(au b hb).2.1,z.2.1,z.2.2⟩
  -- the block's own dict is kept aside
  obtain⟨m,hn,_⟩:=id B.loc;obtain⟨R,es,ep,eC,dC,rC⟩:=id hn;have hCz:(a.heap.push {cls:=.type "list",data:=.seq ([]:List cZ).toArray}).get? (a.heap.push {cls:=.type "list",data:=.seq ([]:List cZ).toArray}).objs.size=Y:=Heap.get?_none_of_le (nR1 _);have ao:(a.heap.push {cls:=.type "list",data:=.seq ([]:List cZ).toArray}).objs.size≠X.env.locals:=λz=>by
   have:=u.lt;rw[<- z]at this;exact az _ this
  have W:H' (a.heap.push {cls:=.type "list",data:=.seq ([]:List cZ).toArray}).objs.size=Y:=B.free;have J2:Inv X (ag++[((a.heap.push {cls:=.type "list",data:=.seq ([]:List cZ).toArray}).objs.size,R)]) σ H' s':=J1.pins_of λp E=>by
   rcases aF.mp E with z|z
   ·exact J1.pin p (mA1 _ z)
   ·have z':p=((a.heap.push {cls:=.type "list",data:=.seq ([]:List cZ).toArray}).objs.size,R):=by simpa using z
    subst z';exact⟨eC,W,ao,u.nofs (nR1 _),λv q=>by rw[dC]at q;cases q⟩
  refine ff (xW hN hy hx hf _ s' σ H' (.ref a.heap.objs.size) (.ref a.heap.objs.size) D.nx J2 O q') λ_ s5 ⟨G,H5,J5,q5⟩=>?_;obtain⟨e5,n5,_⟩:=J5.pin ((a.heap.push {cls:=.type "list",data:=.seq ([]:List cZ).toArray}).objs.size,R) (mA1 _ (mA1 _ mS1));refine⟨m,⟨R,es,ep,e5,dC,rC⟩,λh' V=>?_⟩;have J6:Inv X ag G H5 s5:=J5.unpinned;refine⟨G,H5,J6.turned (t':=s5.toks) (λb o hb e=>(V.2 b hb).trans e) n5 ao (.inr ?_) (λx c t z=>?_) (λp E z=>?_),q5⟩
  ·exact u.sz
  ·obtain⟨w',zc⟩:=u.cell x c t;have j:=zc.lt;rw[z]at j;exact az _ j
  ·obtain⟨S,_⟩:=u.pin p E;have j:=hL1 S;rw[z]at j;exact az _ j
section
variable{X:Cx}
theorem Jt{K:Fg1}{te:TE}{m:FE}{i:Nat}(hm:∀ σ H Q,tM K m σ H Q->te σ H Q){E:kl}{σ:L2.St}{H:Hp}(h:xL K (dH m (gN i)) E σ H):AW te (yu i) E σ H:=by
 obtain⟨r,mu,S,d,f,h1,h2,o,l⟩:=tE h;refine hm _ _ _ ⟨r,mu,S,d,f,h1,h2,o,λv H' mu' n e g=>?_⟩;obtain⟨r2,a,s,u,q,t,b,j,k,p,c⟩:=l v H' mu' n e g;cases p;exact c _ H' a (.refl _ _) (b.set k) j
theorem mv (i:Nat){x:Str}{pos:Pos}(hN:X.N[i]? = some x:=by rfl)(hv:Vis X.env.scope x:=by first | exact Or.inl rfl | exact Or.inr (Or.inl rfl) | exact Or.inr (Or.inr rfl))(hd:(x == ("__debug__":Str))=false:=by decide)(hcd:(x == ("__classdict__":Str))=false:=by decide):
  ME X (.Name x pos) (mV i):=Iw i hN hv hd hcd
end
def Own(P:c5)(w:c7)(K:Fg1)(mg:Str->Option cZ)(base:df)(k:Nat)(x:Str)(n:Nat)(m:FN):Prop:=
 ∃(f:c4) (fd:dg) (ps:List Str),m4 P w K mg base vT k f fd ps (spM K n m)/\kn K fd ps []/\wK1 K (.ref f)=M/\mg x=Z (.ref f)
theorem Iz {X:Cx}{k k' n:Nat}{x:Str}{m:FN}{p pos:Pos}{e:Expr}{es:List Expr}{a:FA}(h:Own X.prog X.w X.K X.mg X.base k x n m)(hr:gf k' X.A)(hk:k<=k')(hg:Gl X x)(ha:MA X (e::es) a)(hdb:(x == ("__debug__":Str))=false:=by decide)
  (he:c9 (e::es) X.env=(J,eval e X.env)::c9 es X.env:=by rfl) (hpl:(backTo pos (c9 es X.env)).any (·.1)=J:=by rfl):ME X (.Call (.Name x p) (e::es) [] pos) (mN (dv n m) a):=by
 obtain⟨f,fd,ps,F,b,kp,c⟩:=h;exact EH F (hr.mono hk) hg c kp b ha hdb he hpl
theorem HF{P:c5}{w:c7}{K:Fg1}{mg:Str->Option cZ}{base:df}{x a:Str}{st:di}{f:c4}{fd:dg}{N ps:List Str}{k n:Nat}{b:FS}(F:yV K x a st f fd)(hb:kn K fd ps [])(hm:mg x=some (.ref f))(S:g9 N ps (dX st))(hn:ps.length=n)(d:∀(e:cZ) (A:c6) (c:List Env) (s:c3) (H:Hp) (E:XK),gf k (A.deeper (envOfC a (dX st) s.heap.objs.size f e)) ->
   Am (nV vT P w K mg base N a (dX st) f e A c s H E).nox (fB st) b):Own P w K mg base (k+1) x n (gG N.length b):=by
 subst hn;exact⟨f,fd,ps,Lh F S d,hb,F.kp,hm⟩
def CGl(K:Fg1)(mg:Str->Option cZ)(x:Str)(d:D):Prop:=∃(v:V) (u:cZ),mg x=Z u/\dS v u /\ ∀H mu,eQ K H mu d v
theorem EG {X:Cx}{x:Str}{d:D}{pos:Pos}(h:CGl X.K X.mg x d)(hg:Gl X x)(hd:(x == ("__debug__":Str))=J:=by decide):ME X (.Name x pos) (mC d):=by
 obtain⟨v,u,a,r,q⟩:=h;exact B9 d (Ed hg a r hd) q
def fV:List Bool->Ev->Ev
 |true::bs,o::r=>o::fV bs r
 |false::bs,_::r=>Y::fV bs r
 |[],_::r=>Y::fV [] r
 |_,[]=>[]
def k0:Ev->Bool
 |[]=>M
 |none::r=>k0 r
 |some d::r=>d.und 0&&k0 r
noncomputable def rH (ki ko:List Bool)(b:FS):FS:=fun r S=>if k0 (fV ki r)=true then
  (b (fV ki r) []).bind λp=>match p.1 with
   | .rt d=>if d.und 0=true then some (.rt d,[],S)else none
   |f=>if k0 (fV ko p.2.1)=true then some (f,fV ko p.2.1,S)else none
 else none
theorem kF:∀(bs:List Bool) (r:Ev),(fV bs r).length=r.length
 |true::bs,o::r=>congrArg (· + 1) (kF bs r)
 |false::bs,o::r=>congrArg (· + 1) (kF bs r)
 |[],o::r=>congrArg (· + 1) (kF [] r)
 |[],[]=>rfl
 |true::_,[]=>rfl
 |false::_,[]=>rfl
theorem kG:∀(bs:List Bool) (r:Ev) (i:Nat) (d:D),(fV bs r)[i]?=Z (Z d)->r[i]?=Z (Z d)
 |true::bs,o::r,0,d,h=>h
 |true::bs,o::r,i+1,d,h=>by
  rw[gC1];exact kG bs r i d (by rw[fV,gC1]at h;exact h)
 |false::bs,o::r,0,d,h=>by simp[fV]at h
 |false::bs,o::r,i+1,d,h=>by
  rw[gC1];exact kG bs r i d (by rw[fV,gC1]at h;exact h)
 |[],o::r,0,d,h=>by simp[fV]at h
 |[],o::r,i+1,d,h=>by
  rw[gC1];exact kG [] r i d (by rw[fV,gC1]at h;exact h)
 |[],[],i,d,h=>by simp[fV]at h
 |true::_,[],i,d,h=>by simp[fV]at h
 |false::_,[],i,d,h=>by simp[fV]at h
theorem my:∀(r:Ev) (i:Nat) (d:D),k0 r=M->r[i]?=Z (Z d)->d.und 0=M
 |none::r,0,d,_,h=>by simp at h
 |none::r,i+1,d,hs,h=>my r i d hs (by simpa using h)
 |some e::r,0,d,hs,h=>by
  rw[k0,bA1]at hs;simp at h;subst h;exact hs.1
 |some e::r,i+1,d,hs,h=>by
  rw[k0,bA1]at hs;exact my r i d hs.2 (by simpa using h)
theorem fH.mask{K:Fg1}{H:Hp}{mu mu':List c4}{r:Ev}{σ:L2.St}{bs:List Bool}(h:fH K H mu r σ)(hs:k0 (fV bs r)=M):fH K H mu' (fV bs r) σ:=
 ⟨by rw[kF];exact h.len,λi d e=>by
  obtain⟨v,a,b⟩:=h.val i d (kG bs r i d e);exact⟨v,a,b.cut (n:=0) (λk c=>absurd c (bF _)) (my _ i d hs e)⟩⟩
theorem Cb{K:Fg1}{l p:List Bool}{b:FS}{E:kl}{σ:L2.St}{H:Hp}(h:xL K (rH l p b) E σ H):xL K b E σ H:=by
 obtain⟨r,mu,S,f,C,B,y,j,c,hc⟩:=h;unfold rH at c;split at c
 ·rename_i q;obtain⟨⟨m,u,w⟩,t,c⟩:=oB1.mp c;refine⟨fV l r,[],[],m,u,w,y.mask q,.nil,t,?_⟩;have back:∀{H':Hp} {mu':List c4},Ext [] mu' H H'->Ext mu mu H H':=λ{H' mu'} x=>⟨bv,λa o e _=>x.old a o e (by simp),x.tup,x.frz,λ_ z=>.inl z⟩;have keep:∀{H':Hp} {mu':List c4},Ext [] mu' H H'->Sim K H' mu S:=λ{H' mu'} x=>⟨j.len,j.nd,λn o a h1 h2=>(j.ob n o a h1 h2).keep (back x) λo e=>x.old a o e (by simp)⟩;cases m with
  |rt d=>
   dsimp only at c;split at c
   ·rename_i i;cases c;exact λv H' mu' x r s=>hc v H' mu (back x) (r.cut (n:=0) (λk A=>absurd A (bF _)) i) (keep x)
   ·cases c
  |nx=>
   dsimp only at c;split at c
   ·rename_i i;cases c;exact λg H' mu' x r s=>hc g H' mu (back x) (r.mask i) (keep x)
   ·cases c
  |bk=>
   dsimp only at c;split at c
   ·rename_i i;cases c;exact λg H' mu' x r s=>hc g H' mu (back x) (r.mask i) (keep x)
   ·cases c
  |ct=>
   dsimp only at c;split at c
   ·rename_i i;cases c;exact λg H' mu' x r s=>hc g H' mu (back x) (r.mask i) (keep x)
   ·cases c
 ·cases c
theorem B0{X:Cx}{sts:List di}{b:FS}(a c:List Bool)(h:Am X sts b):Am X sts (rH a c b):=sP h λ_ _ _=>Cb
def CV(K:Fg1)(d:D)(u:cZ):Prop:=∃v:V,dS v u /\ ∀H mu,eQ K H mu d v
def Mg(K:Fg1)(ds:List D)(us:List cZ):Prop:=∃vs:List V,d5 vs us /\ ∀H mu,dI K H mu ds vs
section
variable{K:Fg1}
theorem tT{i:Int}{t}:CV K (.int i) (.int i t):=⟨.int i,⟨t,O⟩,λ_ _=>.int i⟩
theorem tS{x:Str}{t}:CV K (.str x) (.str x t):=⟨.str x,⟨t,O⟩,λ_ _=>.str x⟩
theorem me:Mg K [] []:=⟨[],.nil,λ_ _=>.nil⟩
theorem fE{d:D}{u:cZ}{ds:List D}{a:List cZ}(h:CV K d u)(t:Mg K ds a):Mg K (d::ds) (u::a):=by
 obtain⟨v,r,q⟩:=h;obtain⟨vs,rs,b⟩:=t;exact⟨v::vs,.cons r rs,λH mu=>.cons (q H mu) (b H mu)⟩
theorem pU {a:c4}{c:Option c4}{b:List cZ}{n:Nat}{sl:Array (Option cZ)}{ds:List D}(h:K.lookup a=Z ⟨.type "tuple",c,.seq b.toArray n,sl⟩)(hs:b.length<=da)(t:Mg K ds b):CV K (.tup ds) (.ref a):=by
 obtain⟨vs,rs,d⟩:=t;exact⟨.ref a,O,λH mu=>.tup (.inr ⟨_,b.toArray,n,h,O,O,by simpa using hs,by simpa using rs⟩) (d H mu)⟩
theorem Jj{mg:Str->Option cZ}{x:Str}{d:D}{u:cZ}(hm:mg x=Z u)(h:CV K d u):CGl K mg x d:=by
 obtain⟨v,r,q⟩:=h;exact⟨v,u,hm,r,q⟩
end
theorem kB{K:Fg1}{H:Hp}{mu:List c4}:∀ns:List Int,dI K H mu (ns.map D.int) (ns.map V.int)
 |[]=>.nil
 |n::ns=>.cons (.int n) (kB ns)
theorem IR{K:Fg1}{m:FN}(hm:∀ ns:List Int,ns.length<=63 -> ∃ S,m [.rol (ns.map D.int)] []=some (.bl true,S))(H:Hp)(a:c4)(ns:List Int)(c:ns.length<=63)(b:F1 H)(d:mY K H a (ns.map V.int)):
  spM K 1 m [.ref a] H (λv _=>v = .bl M) λ_ _ _=>False:=by
 refine⟨O,?_⟩;obtain⟨S,e⟩:=hm ns c;have f:RoL K H a (ns.map V.int):=by
  rcases d with h|h
  ·rcases h with h|h
   ·rcases b a with z|⟨o,xs,z⟩
    ·rw[h]at z;cases z
    ·rw[h]at z;cases z
   ·exact .inl h
  ·exact .inr h
 refine⟨[],[],[.rol (ns.map D.int)],.bl M,S,.cons (.rol f (kB ns)) .nil,.nil,e,λv H' mu' x r s=>?_⟩;cases r;rfl
theorem walk_m{l:PySem.W.OpenLaw}{q:c5}{b:List Str}{XP:(Str->Option cZ)->df->Prop}{e:c7->df->Prop}{d:DefRec}{K:Params->Fg1}{m:FN}{k:Nat}{x:Str}(hn:l.most=some 63)(c:d.params.defaults=[])(hr:gf k callerA)(i:∀(w:c7) (h:df),e w h->(K w.params).In h)(hm:∀ns:List Int,ns.length<=63 -> ∃S,m [.rol (ns.map D.int)] []=some (.bl true,S))(F:∀(w:c7) (mg:Str->Option cZ) (g:c4) (h:df),(K w.params).In h->h.Ns c8 mg->mg d.name=some (.ref g) ->
   ∃fd:dg,(∀(s:c3) (u:cZ),BindsTo s fd ⟨[u],[]⟩ [(x,u)]) /\ ∀base:df,(K w.params).In base->base.Ns c8 mg->m4 l.prog w (K w.params) mg base vT k g fd [x] (spM (K w.params) 1 m)):
  PySem.W.WalkO q b XP e l.row.toRowW d [] (λf vs=>PySem.call f vs):=
 L2.DF (n:=63) (k:=k) (x:=x) (CX:=λ_=>vT) (sp:=λw=>spM (K w.params) 1 m) hn (by decide) c hr i F (λ_ H a ns o j p=>IR hm H a ns o j p) λ_ _ _ _ _ z=>z
structure XE (X:Cx)(e:Expr)(m:FE):Prop where
 h:ME X e m
structure XT (X:Cx)(e:Expr)(m:FT):Prop where
 h:MT X e m
structure XW (X:Cx)(e:Expr)(m:FT):Prop where
 h:MW X e m
structure XA (X:Cx)(e:List Expr)(m:FA):Prop where
 h:MA X e m
structure XS (X:Cx)(e:di)(m:FS):Prop where
 h:MS X e m
structure xl (X:Cx)(e:List di)(m:FS):Prop where
 h:Am X e m
structure XI (X:Cx)(tg e:Expr)(m:FI):Prop where
 h:MI X tg e m
structure XG (X:Cx)(e:Expr)(m:FG):Prop where
 h:MG X e m
structure Me (X:Cx)(e:List Expr)(m:Do):Prop where
 h:LR X e m
structure XO (X:Cx)(e:Option Expr)(m:FO):Prop where
 h:MO X e m
structure XF (X:Cx)(K:Fg1)(ifs:List Expr)(t:FT):Prop where
 h:q3 X ifs (DJ K t)
theorem d7{X:Cx}:XF X X.K [] ea:=⟨EC⟩
theorem hE{X:Cx}{c:Expr}{t:FT}(h:XT X c t):XF X X.K [c] t:=⟨EB h.h⟩
theorem yW{X:Cx}{sts:List di}{b:FS}(a c:List Bool)(h:xl X sts b):xl X sts (rH a c b):=⟨B0 a c h.h⟩
section
variable{X:Cx}{pos:Pos}
theorem qK{i:Int}{j}:XE X (.Constant (.int i) j pos) (mC (.int i)):=⟨IE⟩
theorem gg{b:Bool}{j}:XE X (.Constant (.bool b) j pos) (mC (.bl b)):=⟨K1⟩
theorem gA{j}:XE X (.Constant .none j pos) (mC .non):=⟨IC⟩
theorem dV{x:Str}{j}:XE X (.Constant (.str x) j pos) (mC (.str x)):=⟨Iy⟩
end
section
variable{X:Cx}{pos:Pos}{e:Expr}{es:List Expr}{m:FE}{n:FA}
theorem qN:XA X [] dq:=⟨IH⟩
theorem qA(h:XE X e m)(ht:XA X es n)(hs:c9 (e::es) X.env=(J,eval e X.env)::c9 es X.env:=by rfl):XA X (e::es) (dn m n):=⟨EI (h:=h.h) (ht:=ht.h) (hs:=hs)⟩
end
section
variable{X:Cx}{K:Fg1}{f:FN}{a b:FE}{σ:L2.St}{H:Hp}{Q:VK}
theorem qI{op:Operator}{x y:Expr}{pos:Pos}(ho:fQ X (binaryOp op) (r2 X.K f))(hx:XE X x a)(hy:XE X y b):XE X (.BinOp x op y pos) (m2 f a b):=⟨KX (ho:=ho) (hx:=hx.h) (hy:=hy.h)⟩
theorem lv{op:UnaryOp}{x:Expr}{pos:Pos}(ho:JO X (unaryOp op) (λx H Q=>rN X.K f [x] H Q))(hx:XE X x a):XE X (.UnaryOp op x pos) (m1 f a):=⟨KW (ho:=ho) (hx:=hx.h)⟩
theorem Dv{op:CmpOp}{x y:Expr}{pos:Pos}(ho:fQ X (compareOp op) (r2 X.K f))(hx:XE X x a)(hy:XE X y b)(hm:behindInMarks op y=J):XE X (.Compare x [op] [y] pos) (m2 f a b):=⟨IF (ho:=ho) (hx:=hx.h) (hy:=hy.h) (hm:=hm)⟩
theorem qJ{x y:Expr}{pos:Pos}(ho:GC X (r2 X.K f))(hx:XE X x a)(hy:XE X y b)(hs:oz y):XE X (.Subscript x y pos) (m2 f a b):=⟨KY (ho:=ho) (hx:=hx.h) (hy:=hy.h) (hs:=hs)⟩
theorem qD {x:Str}{p pos:Pos}{e:Expr}{es:List Expr}{id:String}{a:FA}(hc:eN X (.builtin id) (rN X.K f))(hg:Gl X x)(hm:X.mg x=Y)(hv:bootBuiltins x=Z (.builtin id))(ha:XA X (e::es) a)(hn:x≠"__name__":=by decide)(hdb:(x == ("__debug__":Str))=J:=by decide)(he:c9 (e::es) X.env=(J,eval e X.env)::c9 es X.env:=by rfl)(hpl:(backTo pos (c9 es X.env)).any (·.1)=J:=by rfl):XE X (.Call (.Name x p) (e::es) [] pos) (mN f a):=⟨B8 (hc:=hc) (hg:=hg) (hm:=hm) (hv:=hv) (ha:=ha.h) (hn:=hn) (hdb:=hdb) (he:=he) (hpl:=hpl)⟩
theorem qE {x:Str}{p pos:Pos}{e:Expr}{es:List Expr}{T:String}{a:FA}(hc:eN X (.type T) (rN X.K f))(hg:Gl X x)(hm:X.mg x=Y)(hv:bootBuiltins x=Z (.type T))(ha:XA X (e::es) a)(hn:x≠"__name__":=by decide)(hdb:(x == ("__debug__":Str))=J:=by decide)(he:c9 (e::es) X.env=(J,eval e X.env)::c9 es X.env:=by rfl)(hpl:(backTo pos (c9 es X.env)).any (·.1)=J:=by rfl):XE X (.Call (.Name x p) (e::es) [] pos) (mN f a):=⟨zy (hc:=hc) (hg:=hg) (hm:=hm) (hv:=hv) (ha:=ha.h) (hn:=hn) (hdb:=hdb) (he:=he) (hpl:=hpl)⟩
end
section
variable{X:Cx}{x y c:Expr}{rest:List Expr}{pos:Pos}{a b:FT}{f g:FE}
theorem qX{op:CmpOp}{f:FN}{a b:FE}(ho:fQ X (compareOp op) (r2 X.K f))(hx:XE X x a)(hy:XE X y b)(hm:behindInMarks op y=J):XT X (.Compare x [op] [y] pos) (mB (m2 f a b)):=⟨Ie (ho:=ho) (hx:=hx.h) (hy:=hy.h) (hm:=hm)⟩
theorem iF(ha:XT X x a):XW X (.BoolOp .And [x] pos) a:=⟨Es (ha:=ha.h)⟩
theorem jy(ha:XT X x a):XW X (.BoolOp .Or [x] pos) a:=⟨Ia (ha:=ha.h)⟩
theorem iw(ha:XT X x a)(hb:XW X (.BoolOp .And (y::rest) pos) b):XW X (.BoolOp .And (x::y::rest) pos) (mI a b):=⟨Ib (ha:=ha.h) (hb:=hb.h)⟩
theorem lu(ha:XT X x a)(hb:XW X (.BoolOp .Or (y::rest) pos) b):XW X (.BoolOp .Or (x::y::rest) pos) (wP a b):=⟨KQ (ha:=ha.h) (hb:=hb.h)⟩
theorem iY(h:XW X x a):XT X x a:=⟨MR (h:=h.h)⟩
theorem gz(ha:XT X x a):XT X (.UnaryOp .Not x pos) (iz a):=⟨Ic (ha:=ha.h)⟩
theorem iZ{op}(h:XE X x f):XE X (.BoolOp op [x] pos) f:=⟨IA (h:=h.h)⟩
theorem gW(ha:XE X x f)(hb:XE X (.BoolOp .And (y::rest) pos) g):XE X (.BoolOp .And (x::y::rest) pos) (gv f g):=⟨IG (ha:=ha.h) (hb:=hb.h)⟩
theorem nZ(ha:XE X x f):XE X (.UnaryOp .Not x pos) (pv f):=⟨IB (ha:=ha.h)⟩
theorem lx(hc:XT X c a)(hx:XE X x f)(hy:XE X y g):XE X (.IfExp c x y pos) (u8 a f g):=⟨KZ (hc:=hc.h) (hx:=hx.h) (hy:=hy.h)⟩
end
section
variable{X:Cx}{x y z:Expr}{pos:Pos}{f g:FN}{a b c:FE}{op op':CmpOp}
theorem ra(ho:fQ X (compareOp op) (r2 X.K f))(ho':fQ X (compareOp op') (r2 X.K g))(hx:XE X x a)(hy:XE X y b)(hz:XE X z c)(hm:lastMarks [op,op'] [y,z]=J:=by with_unfolding_all rfl):XE X (.Compare x [op,op'] [y,z] pos) (EL f g a b c):=⟨B7 (ho:=ho) (ho':=ho') (hx:=hx.h) (hy:=hy.h) (hz:=hz.h) (hm:=hm)⟩
end
section
variable{X:Cx}{pos:Pos}{e c:Expr}{st:di}{rest as bs:List di}{a b:FS}{m:FE}{t:FT}
theorem qQ:xl X [] kH:=⟨Eu⟩
theorem qF(h1:XS X st a)(h2:xl X rest b):xl X (st::rest) (dG a b):=⟨B1 (h1:=h1.h) (h2:=h2.h)⟩
theorem qG(h1:XS X st a):xl X [st] a:=⟨Et (h1:=h1.h)⟩
theorem oB(h:XE X e m)(hs:swapsWith e Y pos.line X.env=pure J:=by rfl):XS X (.Expr e pos) (fm m):=⟨Ex (h:=h.h) (hs:=hs)⟩
theorem qU(h:XE X e m):XS X (.Return (Z e) pos) (ee m):=⟨Ih (h:=h.h)⟩
theorem qV(hc:XT X c t)(ha:xl X as a)(hb:xl X bs b):XS X (.If c as bs pos) (fh t a b):=⟨KU (hc:=hc.h) (ha:=ha.h) (hb:=hb.h)⟩
end
section
variable{X:Cx}{pos:Pos}
theorem qO(i:Nat){x:Str}(hN:X.N.Nodup)(hi:X.N[i]?=Z x)(hx:xy X.env.scope x)(hf:X.fn x=M\/X.env.scope.names.lookup x=Z .local:=by first|exact .inl rfl|exact .inr rfl|assumption):XG X (.Name x pos) (gN i):=⟨EF (i:=i) (hN:=hN) (hi:=hi) (hx:=hx) (hf:=hf)⟩
theorem f0:Me X [] i7:=⟨EE⟩
theorem dP{e:Expr}{es:List Expr}{g:FG}{a:Do}(h1:XG X e g)(h2:Me X es a)(hs:(assignEach (e::es) X.env).map (·.2)=assign e X.env::(assignEach es X.env).map (·.2):=by rfl):Me X (e::es) (eU g a):=⟨B3 (h1:=h1.h) (h2:=h2.h) (hs:=hs)⟩
theorem gU{es:List Expr}{k:Nat}{a:Do}{n:Nat}(hc:X.calm=M)(h:Me X es a)(hn:(assignEach es X.env).length=n:=by rfl)(hst:(assignEach es X.env).findIdx? (·.1)=Y:=by rfl):XG X (.Tuple es k pos) (gT n a):=⟨Ir (hc:=hc) (h:=h.h) (hn:=hn) (hst:=hst)⟩
theorem kw{o i:Expr}{a b:FE}{f:FN}(ho:XE X o a)(hi:XE X i b)(hs:xw X (rU X.K f))(ha:∀ v,assign (.Subscript o i pos) X.env v=(do
   let ov<-holding [v] (eval o X.env)
   let iv<-holding [v,ov] (eval i X.env)
   standAt pos
   holding [v,ov,iv] (setItem ov iv v)
   release [v,ov,iv] []):=by intro _;rfl):XG X (.Subscript o i pos) (gS f a b):=⟨Iu (ho:=ho.h) (hi:=hi.h) (hs:=hs) (ha:=ha)⟩
theorem qR{tg e:Expr}{m:FE}{g:FG}(he:XE X e m)(hg:XG X tg g)(hs:swapsWithSole [tg] e pos.line X.env=pure J:=by rfl)(hw:swappedStores [tg] e X.env=pure Y:=by rfl)(h1:(assignEach [tg] X.env).map (·.2)=[assign tg X.env]:=by rfl):XS X (.Assign [tg] e pos) (dH m g):=⟨Ik (he:=he.h) (hg:=hg.h) (hs:=hs) (hw:=hw) (h1:=h1)⟩
theorem qY(i:Nat){x:Str}{e:Expr}{m:FE}{pos':Pos}(hN:X.N.Nodup)(hi:X.N[i]?=Z x)(hx:xy X.env.scope x)(he:XE X e m)(hs:swapsWith e (Z (.Name x pos')) pos.line X.env=pure J:=by rfl)(hf:X.fn x=M\/X.env.scope.names.lookup x=Z .local:=by first|exact .inl rfl|exact .inr rfl|assumption):XS X (.Assign [.Name x pos'] e pos) (dH m (gN i)):=⟨Ig (i:=i) (hN:=hN) (hi:=hi) (hx:=hx) (he:=he.h) (hs:=hs) (hf:=hf)⟩
theorem Du(i:Nat){x:Str}{e:Expr}{m:FE}{op:Operator}{f:FN}{pos':Pos}(hN:X.N.Nodup)(hi:X.N[i]?=Z x)(hx:xy X.env.scope x)(he:XE X e m)(ho:Mf X op (r2 X.K f))(hf:X.fn x=M\/X.env.scope.names.lookup x=Z .local:=by first|exact .inl rfl|exact .inr rfl|assumption):XS X (.AugAssign (.Name x pos') op e pos) (EM i f m):=⟨Ij (i:=i) (hN:=hN) (hi:=hi) (hx:=hx) (he:=he.h) (ho:=ho) (hf:=hf)⟩
end
section
theorem mq{X:Cx}{pos:Pos}(n:Nat){c:Expr}{a:List di}{t:FT}{b:FS}(hp:PassesOwn (model X.prog X.w) X.A X.env X.xe)(hc:XT X c t)(hb:xl X a b):XS X (.While c a [] pos) (uf t b n):=⟨B2 (n:=n) (hp:=hp) (hc:=hc.h) (hb:=hb.h)⟩
theorem qW{X:Cx}{pos:Pos}{tg iter:Expr}{a:List di}{m:FI}{g:FG}{b:FS}(hp:PassesOwn (model X.prog X.w) X.A X.env X.xe)(hc:X.calm=M)(hi:XI X tg iter m)(hg:XG X tg g)(hb:xl X a b)(hs:∀x,foldedSetIterable iter X.env x=pure x:=by intro _;rfl):XS X (.For tg iter a [] pos) (fD m g b):=⟨Ii (hp:=hp) (hc:=hc) (hi:=hi.h) (hg:=hg.h) (hb:=hb.h) (hs:=hs)⟩
end
section
variable{X:Cx}{es:List Expr}{pos:Pos}{a:FA}
theorem dF{x1}(h:XA X es a):XE X (.Tuple es x1 pos) (d8 a):=⟨Ix (h:=h.h)⟩
theorem ev(h:XA X es a):XE X (.List es pos) (eZ a):=⟨ID (h:=h.h)⟩
end
section
variable{X:Cx}{tg:Expr}
theorem qd{e:Expr}{m:FE}(h:XE X e m):XI X tg e (e6 m):=⟨Iq (h:=h.h)⟩
theorem v6 {a:Expr}{m:FA}{p pos:Pos}(hg:Gl X "range")(hm:X.mg "range"=Y)(ha:XA X [a] m)(hs:c9 [a] X.env=[(J,eval a X.env)]:=by rfl):XI X tg (.Call (.Name "range" p) [a] [] pos) (nS m):=⟨zu (hg:=hg) (hm:=hm) (ha:=ha.h) (hs:=hs)⟩
theorem v4 {a b:Expr}{m:FA}{p pos:Pos}(hg:Gl X "range")(hm:X.mg "range"=Y)(ha:XA X [a,b] m)(hs:c9 [a,b] X.env=[(J,eval a X.env),(J,eval b X.env)]:=by rfl)(hs2:c9 [b] X.env=[(J,eval b X.env)]:=by rfl):XI X tg (.Call (.Name "range" p) [a,b] [] pos) (JM m):=⟨zt (hg:=hg) (hm:=hm) (ha:=ha.h) (hs:=hs) (hs2:=hs2)⟩
end
section
variable{X:Cx}{tg:Expr}
variable{elts:List Expr}{k:Nat}{tpos:Pos}
theorem Az {a:Expr}{m:FA}{p pos:Pos}(hg:Gl X "enumerate")(hm:X.mg "enumerate"=Y)(ha:XA X [a] m)(hs:c9 [a] X.env=[(J,eval a X.env)]:=by rfl):XI X (.Tuple elts k tpos) (.Call (.Name "enumerate" p) [a] [] pos) (Aq m):=⟨ED (hg:=hg) (hm:=hm) (ha:=ha.h) (hs:=hs)⟩
theorem nY {a b:Expr}{m:FA}{p pos:Pos}(hg:Gl X "zip")(hm:X.mg "zip"=Y)(ha:XA X [a,b] m)(hs:c9 [a,b] X.env=[(J,eval a X.env),(J,eval b X.env)]:=by rfl)(hs2:c9 [b] X.env=[(J,eval b X.env)]:=by rfl):XI X (.Tuple elts k tpos) (.Call (.Name "zip" p) [a,b] [] pos) (Cy m):=⟨Ip (hg:=hg) (hm:=hm) (ha:=ha.h) (hs:=hs) (hs2:=hs2)⟩
end
section
variable{X:Cx}{ag:List (c4×Obj)}{σ:L2.St}{H:Hp}{s:c3}{mu:List c4}{S:dr}{K:Fg1}
theorem v7 (T:Ty){e:Expr}{m:FE}{nm:Str}{p p2 pos:Pos}(hg:Gl X "isinstance")(hm:X.mg "isinstance"=Y)(hg2:Gl X nm)(hm2:X.mg nm=Y)(hv2:bootBuiltins nm=Z (.type T.nm))(h:XE X e m)(hn:nm≠"__name__":=by decide)(hd:(nm == ("__debug__":Str))=J:=by decide)(hs1:c9 [e,.Name nm p2] X.env=(J,eval e X.env)::c9 [.Name nm p2] X.env:=by rfl)(hs2:c9 [.Name nm p2] X.env=(J,eval (.Name nm p2) X.env)::c9 [] X.env:=by rfl)(hpl:(backTo pos (c9 [.Name nm p2] X.env)).any (·.1)=J:=by rfl):XE X (.Call (.Name "isinstance" p) [e,.Name nm p2] [] pos) (gx T m):=⟨zx (T:=T) (hg:=hg) (hm:=hm) (hg2:=hg2) (hm2:=hm2) (hv2:=hv2) (h:=h.h) (hn:=hn) (hd:=hd) (hs1:=hs1) (hs2:=hs2) (hpl:=hpl)⟩
end
section
variable{X:Cx}
theorem eJ:XO X Y fv:=⟨EA⟩
theorem eD{e:Expr}{m:FE}(h:XE X e m):XO X (Z e) (eW m):=⟨Ez (h:=h.h)⟩
theorem lw {a:Expr}{m:FA}{d p2 b c:Pos}(hc:X.calm=M)(hg:Gl X "range")(hm:X.mg "range"=Y)(hg2:Gl X "list")(hm2:X.mg "list"=Y)(ha:XA X [a] m)(hs:c9 [a] X.env=[(J,eval a X.env)]:=by rfl)(hs2:c9 [.Call (.Name "range" d) [a] [] b] X.env=[(J,eval (.Call (.Name "range" d) [a] [] b) X.env)]:=by rfl):XE X (.Call (.Name "list" p2) [.Call (.Name "range" d) [a] [] b] [] c) (wQ m):=⟨zw (hc:=hc) (hg:=hg) (hm:=hm) (hg2:=hg2) (hm2:=hm2) (ha:=ha.h) (hs:=hs) (hs2:=hs2)⟩
theorem qe {o e:Expr}{es:List Expr}{m:FE}{a:FA}{f:FN}{name:Str}{apos cpos:Pos}{id:String}(slot:Slot "list" name id)(hty:typeOf (.builtin id)=pure (.type "method_descriptor"))(hm:JH X id (λx xs H Q=>rN X.K f (x::xs) H Q))(ho:XE X o m)(ha:XA X (e::es) a)(hbase:attributeBase o name X.env (eval o X.env)=eval o X.env:=by rfl)(hfew:((backTo cpos (c9 (e::es) X.env)).all (λx=> !x.1)&&(backToKw cpos (keywordEach [] X.env)).all (λx=>x.1.isSome)&&decide ((e::es).length+([]:List Keyword).length+(if([]:List Keyword).isEmpty then 0 else 1)<30))=M:=by rfl)(hline:(apos.endLine == cpos.line)=M:=by rfl)(hs:c9 (e::es) X.env=(J,eval e X.env)::c9 es X.env:=by rfl)(hplain:(backTo cpos (c9 es X.env)).any (·.1)=J:=by rfl):XE X (.Call (.Attribute o name apos) (e::es) [] cpos) (ug f m a):=⟨B6 (slot:=slot) (hty:=hty) (hm:=hm) (ho:=ho.h) (ha:=ha.h) (hbase:=hbase) (hfew:=hfew) (hline:=hline) (hs:=hs) (hplain:=hplain)⟩
theorem NT (i:Nat){x:Str}{pos:Pos}(hN:X.N[i]?=Z x:=by rfl)(hv:Vis X.env.scope x:=by first|exact Or.inl rfl|exact Or.inr (Or.inl rfl)|exact Or.inr (Or.inr rfl))(hd:(x == ("__debug__":Str))=J:=by decide)(hcd:(x == ("__classdict__":Str))=J:=by decide):XE X (.Name x pos) (mV i):=⟨mv (i:=i) (hN:=hN) (hv:=hv) (hd:=hd) (hcd:=hcd)⟩
end
section
theorem qH {X:Cx}{k k' n:Nat}{x:Str}{m:FN}{p pos:Pos}{e:Expr}{es:List Expr}{a:FA}(h:Own X.prog X.w X.K X.mg X.base k x n m)(hr:gf k' X.A)(hk:k<=k')(hg:Gl X x)(ha:XA X (e::es) a)(hdb:(x == ("__debug__":Str))=J:=by decide)(he:c9 (e::es) X.env=(J,eval e X.env)::c9 es X.env:=by rfl)(hpl:(backTo pos (c9 es X.env)).any (·.1)=J:=by rfl):XE X (.Call (.Name x p) (e::es) [] pos) (mN (dv n m) a):=⟨Iz (h:=h) (hr:=hr) (hk:=hk) (hg:=hg) (ha:=ha.h) (hdb:=hdb) (he:=he) (hpl:=hpl)⟩
theorem AA {X:Cx}{x:Str}{d:D}{pos:Pos}(h:CGl X.K X.mg x d)(hg:Gl X x)(hd:(x == ("__debug__":Str))=J:=by decide):XE X (.Name x pos) (mC d):=⟨EG (h:=h) (hg:=hg) (hd:=hd)⟩
end
section
variable{X:Cx}
structure Ni (X:Cx)(K:Fg1)(tg:Expr)(ifs:List Expr)(elt:Expr)(g:FG)(t:FT)(e:FE):Prop where
 g:XG X tg g
 t:XF X K ifs t
 e:XE X elt e
end
theorem xB{P:c5}{w:c7}{K:Fg1}{mg:Str->Option cZ}{base:df}{x c:Str}{st:di}{f:c4}{fd:dg}{N ps:List Str}{k n:Nat}{b:FS}(F:yV K x c st f fd)(hb:kn K fd ps [])(hm:mg x=some (.ref f))(S:g9 N ps (dX st))(hn:ps.length=n)(e:∀(d:cZ) (A:c6) (a:List Env) (s:c3) (H:Hp) (E:XK),gf k (A.deeper (envOfC c (dX st) s.heap.objs.size f d)) ->
   xl (nV vT P w K mg base N c (dX st) f d A a s H E).nox (fB st) b):Own P w K mg base (k+1) x n (gG N.length b):=
 HF F hb hm S hn λd A a s H E g=>(e d A a s H E g).h
theorem GF{P:c5}{w:c7}{K:Fg1}{mg:Str->Option cZ}{base:df}{x c:Str}{st:di}{f:c4}{fd:dg}{N ps:List Str}{k n:Nat}{b:FS}(F:yV K x c st f fd)(S:g9 N ps (dX st))(hn:ps.length=n)(e:∀(d:cZ) (A:c6) (a:List Env) (s:c3) (H:Hp) (E:XK),gf k (A.deeper (envOfC c (dX st) s.heap.objs.size f d)) ->
   xl (nV vT P w K mg base N c (dX st) f d A a s H E).nox (fB st) b):m4 P w K mg base vT (k+1) f fd ps (spM K n (gG N.length b)):=by
 subst hn;exact Lh F S λd A a s H E g=>(e d A a s H E g).h
abbrev FV:=Ev->dr->Option (List D×Ev×dr)
noncomputable def fW (c:List (Nat×List D))(g:FG)(t:FT)(b:FV):List D->FV
 |[]=>λr S=>if qx S c=true then some ([],r,S)else none
 |d::ds=>λr S=>if qx S c=true then(g d r S).bind λp=>(t p.1 p.2).bind λk=>if k.1=true then(b p.1 k.2).bind λq=>(fW c g t b ds q.2.1 q.2.2).map λz=>(q.1++z.1,z.2)else fW c g t b ds p.1 k.2 else none
noncomputable def dU (m:FE):FV:=λr S=>(m r S).map λq=>([q.1],r,q.2)
noncomputable def d6 (k:Nat)(keep:List Nat)(m:FI)(g:FG)(t:FT)(b:FV):FE:=λr S=>(m r S).bind λp=>
 (fW p.1.chk g t b p.1.items (ju k keep r) p.2).bind λq=>if q.1.length<=da then some (.ref q.2.2.length,q.2.2++[.lst q.1])else none
section
variable{K:Fg1}{H H' H1:Hp}{mu mu' mu1:List c4}{S:dr}{a:c4}
theorem Ext.aside(x:Ext mu mu' H H'):Ext (a::mu) (a::mu') H H' where
 pre:=bZ.mpr ⟨O,x.pre⟩
 old:=λb o h n=>x.old b o h λz=>n (mC1 _ z)
 tup:=x.tup
 frz:=x.frz
 new:=λb h=>by
  rcases aE.mp h with h|h
  ·exact .inl (by rw[h];exact mS1)
  ·rcases x.new b h with q|q
   ·exact .inl (mC1 _ q)
   ·exact .inr q
theorem Ext.inner(x:Ext (a::mu) (a::mu') H H'):uh mu mu' H H':=⟨(bZ.mp x.pre).2,x.tup,x.frz⟩
theorem Ext.held{o:HO}(x:Ext mu mu' H H')(ha:H a=Z o)(hn:a∉mu):H' a=Z o/\a∉mu':=by
 refine⟨x.old a o ha hn,λz=>?_⟩;rcases x.new a z with q|q
 ·exact hn q
 ·rw[ha]at q;cases q
theorem fH.exw{r:Ev}{σ:L2.St}(e:uh mu mu' H H')(h:fH K H mu r σ):fH K H' mu' r σ:=⟨h.len,λi d q=>by
 obtain⟨v,a,b⟩:=h.val i d q;exact⟨v,a,b.exw e⟩⟩
theorem qs.exw{b:c4}(e:uh mu mu' H H')(h:∀o,H b=Z o->H' b=Z o):∀{o:Ob},qs K H mu b o->qs K H' mu' b o
 | .lst _,⟨vs,q,r⟩=>⟨vs,h _ q,r.exw e⟩
 | .dct _,⟨ws,q,r⟩=>⟨ws,h _ q,Paired.mapP r λ_ _ z=>⟨z.1,z.2.exw e⟩⟩
 | .dcT _,⟨ws,q,r,l⟩=>⟨ws,h _ q,Paired.mapP r λ_ _ ⟨z,d,k,v,a,r⟩=>⟨z,d,k.exw e,v,a,r.exw e⟩,l⟩
 | .iset _,q=>⟨h _ q.1,q.2⟩
 | .dcF _,⟨ws,⟨o,u,c,f⟩,r,l⟩=>⟨ws,⟨o,u,h _ c,f⟩,Paired.mapP r λ_ _ ⟨z,d,k,v,a,r⟩=>⟨z,d,k.exw e,v,a,r.exw e⟩,l⟩
 | .tst _,⟨ws,q,r⟩=>⟨ws,h _ q,Paired.mapP r λ_ _ ⟨z,d,k,v,a,r⟩=>⟨z,d,k.exw e,v,a,r.exw e⟩⟩
theorem Sim.aside{u:HO}(s:Sim K H mu S)(e:uh mu mu H (upd H a u))(hn:a∉mu):Sim K (upd H a u) mu S:=
 ⟨s.len,s.nd,λk o b h1 h2=>(s.ob k o b h1 h2).exw e λo' q=>by rw[d0 (λz=>hn (by rw[<- z];exact gM1 h2))];exact q⟩
end
inductive LZ (K:Fg1)(a:c4)(m:FV)(E:kl)(σ:L2.St)(H:Hp):Prop
 |mk (r:Ev) (mu:List c4) (S:dr) (acc:List D) (vs:List V) (xs:List D) (r':Ev) (S':dr):H a=some (.lst vs)->a∉mu->dI K H mu acc vs->fH K H mu r σ->Sim K H mu S->m r S=some (xs,r',S')->vs.length+xs.length<=da ->
 (∀ σ' H' mu' vs',Ext (a::mu) (a::mu') H H'->H' a=some (.lst vs')->a∉mu'->dI K H' mu' (acc++xs) vs'->fH K H' mu' r' σ'->Sim K H' mu' S'->E.nx σ' H')->LZ K a m E σ H
theorem vz{K:Fg1}{a:c4}{m:FE}{E:kl}{σ:L2.St}{H:Hp}(h:LZ K a (dU m) E σ H):xM a (tM K m) E σ H:=by
 obtain⟨r,mu,S,o,vs,xs,w,u,q,g,s,i,j,f,t,hc⟩:=h;obtain⟨⟨d,p⟩,k,f⟩:=oM1.mp f;cases f;refine⟨r,mu,S,d,p,i,j,k,λv H1 mu1 e l n=>?_⟩;obtain⟨b,c⟩:=e.held q g;have put:Ext (a::mu1) (a::mu1) H1 (upd H1 a (.lst (vs++[v]))):=Ext.put b trivial mS1;refine⟨vs,b,t,?_⟩;exact hc σ _ mu1 (vs++[v]) (e.aside.trans put) d9 c (((s.ext e).append (.cons l .nil)).exw put.inner) ((i.ext e).exw put.inner) (n.aside put.inner c)
inductive No (K:Fg1)(a:c4)(mu2:List c4)(H:Hp)(c:List (Nat×List D))(g:FG)(t:FT)(b:FV)(r':Ev)(S':dr)(tot:List D)(L:List D)(σ':L2.St)(H':Hp):Prop
 |mk (r3:Ev) (mu3:List c4) (S3:dr) (acc3:List D) (vs3:List V) (xs3:List D):Ext (a::mu2) (a::mu3) H H'->H' a=some (.lst vs3)->a∉mu3->dI K H' mu3 acc3 vs3->fH K H' mu3 r3 σ'->Sim K H' mu3 S3->fW c g t b L r3 S3=some (xs3,r',S')->acc3++xs3=tot->vs3.length+xs3.length<=da->No K a mu2 H c g t b r' S' tot L σ' H'
theorem Ci{K:Fg1}{a:c4}{j:It}{am:An}{g:FG}{t:FT}{b:FV}{tb:TS}{D:kl}(hb:∀ E σ H,LZ K a b E σ H->tb E σ H){mu1 e:List c4}{H1 H:Hp}{r L:Ev}{S S':dr}{σ:L2.St}{acc xs:List Mi.D}{vs:List V}(hJ:Np K j am mu1 H1)(x:uh mu1 e H1 H)(ha:H a=Z (.lst vs))(hna:a∉e)(hr:dI K H e acc vs)(he:fH K H e r σ)(hs:Sim K H e S)(hm:fW am.chk g t b am.items r S=Z (xs,L,S'))(hl:vs.length+xs.length<=da)(hc:∀l H' mu' v,Ext (a::e) (a::mu') H H'->H' a=Z (.lst v)->a∉mu'->dI K H' mu' (acc++xs) v->fH K H' mu' L l->Sim K H' mu' S'->D.nx l H'):Gc j (Kc K g) (DJ K t) tb D σ H:=by
 refine⟨λi k l H'=>k=(am.items.drop i).length/\No K a e H am.chk g t b L S' (acc++xs) (am.items.drop i) l H',
  ⟨_,O,r,e,S,acc,vs,xs,.refl _ _,ha,hna,hr,he,hs,hm,O,hl⟩,?_⟩
 rintro i k Q H3 ⟨rfl,r3,m,S3,f,vs3,xs3,ao,C,z,F,w,X,c,p,h⟩;cases hd0:am.items.drop i with
 |nil=>
  left;rw[hd0,fW]at c;dsimp only at c;split at c
  ·rename_i ok;cases c;refine⟨(hJ i H3 m _ (x.trans ao.inner) X ok).2 (List.drop_eq_nil_iff.mp hd0),hc Q H3 m vs3 ao C z ?_ w X⟩;rw[<- p,aN];exact F
  ·cases c
 |cons d ds=>
  right;rw[hd0]at c;obtain⟨hi,hd⟩:=nz hd0;rw[fW]at c;dsimp only at c;split at c
  ·rename_i ok;obtain⟨⟨I,S4⟩,e4,c⟩:=oB1.mp c;obtain⟨⟨k5,W⟩,e5,c⟩:=oB1.mp c;obtain⟨go,yl⟩:=(hJ i H3 m _ (x.trans ao.inner) X ok).1 d hi;refine⟨go,No K a e H am.chk g t b L S' (acc++xs) ds,?_,λy H4 yy=>?_⟩
   ·intro l H' h6;exact⟨ds.length,bI _,(congrArg List.length hd).symm,hd.symm ▸ h6⟩
   ·obtain⟨G,s4,q4⟩:=yl y H4 yy;obtain⟨U,hn4⟩:=G.held C z;refine⟨r3,m,S3,d,I,S4,w.ext G,s4,q4,e4,fun σ5 H5 mu5 aq q s5=>?_⟩;obtain⟨P,T⟩:=aq.held U hn4;refine⟨I,mu5,S4,k5,W,q,s5,e5,λH6 n u s6=>?_⟩;obtain⟨B,A⟩:=u.held P T;have xx:=((ao.trans G.aside).trans aq.aside).trans u.aside;have o:dI K H6 n f vs3:=((F.ext G).ext aq).ext u;cases k5 with
    |true=>
     obtain⟨⟨q1,r7,S7⟩,e7,c⟩:=oB1.mp c;obtain⟨⟨z1,r8,S8⟩,e8,c⟩:=oM1.mp c;cases c;refine hb _ _ _ ⟨I,n,W,f,vs3,q1,r7,S7,B,A,o,q.ext u,s6,e7,?_,fun σ8 H8 mu8 wq x8 N au s R s8=>⟨r7,mu8,S7,f++q1,wq,z1,xx.trans x8,N,au,s,R,s8,e8,?_,?_⟩⟩
     ·rw[lA1]at h;dsimp only at h;lia
     ·rw[<- p,bf]
     ·have:=s.length;have h3:=o.length;rw[lA1]at this h;dsimp only at h;lia
    |false=>exact⟨I,n,W,f,vs3,xs3,xx,B,A,o,q.ext u,s6,c,p,h⟩
  ·cases c
theorem vH{K:Fg1}{k:Nat}{keep:List Nat}{m:FI}{g:FG}{t:FT}{b:FV}{tb:c4->TS}(hb:∀ a E σ H,LZ K a b E σ H->tb a E σ H){σ:L2.St}{H:Hp}{Q:VK}(h:tM K (d6 k keep m g t b) σ H Q):
  AU k keep (Mr K m) (Kc K g) (DJ K t) tb σ H Q:=by
 obtain⟨r,mu,S,d,aq,ao,P,f,hc⟩:=h;obtain⟨⟨am,R⟩,au,f⟩:=oB1.mp f;obtain⟨⟨xs,r2,F⟩,V,f⟩:=oB1.mp f;dsimp only at f;split at f
 ·rename_i T;cases f;refine ⟨r,mu,S,am,R,ao,P,au,fun j H1 mu1 N W G p i=>?_⟩;have w:Ext mu1 mu1 H1 (upd H1 p (.lst [])):=Ext.fresh i;refine Ci (hb p) W w.w d9 (G.notin i) .nil ((K8 k keep (ao.ext N)).ext w) (G.fresh i) V (by simpa using T) fun U H' mu' l v x C D X s'=>?_;have y:Ext mu1 (mu'++[p]) H1 H':=by
   refine⟨((bZ.mp v.pre).2).trans (bE _ _),λb o e n=>?_,λb ys e=>v.tup b ys (w.tup b ys e),λb o u e=>v.frz b o u (w.frz b o u e),λb A=>?_⟩
   ·have L:b≠p:=ew e i;exact v.old b o (by rw [d0 L];exact e) fun z=>by
     rcases aE.mp z with z|z
     ·exact L z
     ·exact n z
   ·rcases aF.mp A with z|z
    ·rcases v.new b (mC1 _ z)with q|q
     ·rcases aE.mp q with q|q
      ·exact .inr (by rw[q];exact i)
      ·exact .inl q
     ·by_cases s:b=p
      ·exact .inr (by rw[s];exact i)
      ·rw[d0 s]at q;exact .inr q
    ·have:b=p:=by simpa using z
     exact .inr (by rw[this];exact i)
  refine hc _ H' (mu'++[p]) (N.trans y) (.ref (gi s'.len p)) ⟨by rw[lA1,lA1,s'.len];rfl,?_,λn o b h1 h2=>?_⟩
  ·rw[bG];refine⟨s'.nd,by simp,λb hb c hc e=>?_⟩;have:c=p:=by simpa using hc
   subst this;subst e;exact C hb
  ·by_cases I:n<F.length
   ·rw[gL1 I]at h1;rw[gL1 (by rw[s'.len];exact I)]at h2;exact(s'.ob n o b h1 h2).mor [p]
   ·have B:n=F.length:=by
     have:=(gE1.mp h1).1;rw[lA1]at this;simp at this;lia
    subst B;rw[gR1 (nR1 _)]at h1;rw[<- s'.len,gR1 (nR1 _)]at h2;simp at h1 h2;subst h1;subst h2;exact⟨l,x,(by simpa using D:dI K H' mu' xs l).mor [p]⟩
 ·cases f
section
variable{X:Cx}
theorem qZ{elt tg iter:Expr}{ifs:List Expr}{scope:dj}{pos:Pos}{T:List Str}{keep:List Nat}{i:List (Str×c4)}{m:FI}{g:FG}{t:FT}{e:FE}(hc:X.calm=M)(C:LV X scope T keep)(f:kX X.env.cells scope.names []=Z i)(hi:XI X tg iter m)(hb:∀s H b,Ni (cxC X scope i T keep s H b) X.K tg ifs elt g t e)(hs:∀x,foldedSetIterable iter X.env x=pure x:=by intro _;rfl):XE X (.ListComp elt [⟨tg,iter,ifs,0⟩] scope pos) (d6 T.length keep m g t (dU e)):=
 ⟨eP (Ef (emit:=vA elt) (tb:=λp=>xM p (tM X.K e)) hc (λit c d=>AL elt tg iter ifs scope pos it c d) C f hi.h (λs H b p=>⟨(hb s H b).g.h,(hb s H b).t.h,xU (hb s H b).e.h p⟩) hs)
  fun σ H Q h=>vH (λa E σ H q=>vz q) h⟩
theorem gJ{elt tg iter:Expr}{ifs:List Expr}{scope:dj}{pos b l:Pos}{y:Str}(i:Nat){T:List Str}{keep:List Nat}{n:List (Str×c4)}{m:FI}{g:FG}{t:FT}{e:FE}(hc:X.calm=M)(C:LV X scope T keep)(f:kX X.env.cells scope.names []=Z n)(hi:XI X tg iter m)(hb:∀s H c,Ni (cxC X scope n T keep s H c) X.K tg ifs elt g t e)(hN:X.N.Nodup)(hy:X.N[i]?=Z y)(hx:xy X.env.scope y)(k:swapsWith (.ListComp elt [⟨tg,iter,ifs,0⟩] scope pos) (Z (.Name y l)) b.line X.env=pure M:=by rfl)(hf:X.fn y=M\/X.env.scope.names.lookup y=Z .local:=by first|exact .inl rfl|exact .inr rfl|assumption)(hs:∀x,foldedSetIterable iter X.env x=pure x:=by intro _;rfl):XS X (.Assign [.Name y l] (.ListComp elt [⟨tg,iter,ifs,0⟩] scope pos) b) (dH (d6 T.length keep m g t (dU e)) (gN i)):=
 ⟨iI (D5 (emit:=vA elt) (tb:=λp=>xM p (tM X.K e)) hc k (λit d j=>AL elt tg iter ifs scope pos it d j) C f hi.h (λs H c p=>⟨(hb s H c).g.h,(hb s H c).t.h,xU (hb s H c).e.h p⟩) hN hy hx hf hs)
  λE σ H h=>Jt (fun σ H Q q=>vH (λa E σ H q=>vz q) q) h⟩
end
def qy:D->Option Key
 | .int i=>Z (.inl i)
 | .str x=>Z (.inr x)
 |_=>Y
def dZ{κ:Type}[DecidableEq κ](kvs:List (κ×D))(k:κ):Option D:=(kvs.find? λp=>decide (p.1=k)).map (·.2)
def eY{κ:Type}[DecidableEq κ](kvs:List (κ×D))(k:κ)(d:D):List (κ×D):=
 if(kvs.any λp=>decide (p.1=k))=M then kvs.map (λp=>if p.1=k then(p.1,d)else p)else kvs++[(k,d)]
section
variable{K:Fg1}{H:Hp}{mu:List c4}
theorem kI{d:D}{v:V}{k:Key}(r:eQ K H mu d v)(h:qy d=Z k):v=kV k:=by
 cases r with
 |int i=>cases h;rfl
 |str x=>cases h;rfl
 |_=>cases h
end
section
variable{κ:Type} [DecidableEq κ] {K:Fg1}{H:Hp}{mu:List c4}
theorem KR.length:∀{ks:List (κ×D)} {ws:List (κ×V)},KR K H mu ks ws->ks.length=ws.length:=λh=>Paired.length h
theorem KR.look{k:κ}:∀ {ks:List (κ×D)} {ws:List (κ×V)},KR K H mu ks ws ->
  (∀d,dZ ks k=Z d -> ∃v,jz ws k=Z v/\eQ K H mu d v)/\(dZ ks k=Y->jz ws k=Y):=by
 intro ks ws h
 induction h with
 |nil=>exact⟨λd h=>by simp[dZ]at h,λ_=>rfl⟩
 | @cons p q ks ws r t ih=>
  obtain⟨a,f⟩:=p;obtain⟨j,c⟩:=q;obtain⟨e,r⟩:=r;dsimp only at e r;subst e;obtain⟨h1,h2⟩:=ih;by_cases b:a=k
  ·subst b;refine⟨λd h=>?_,λh=>?_⟩
   ·have:f=d:=by simpa[dZ]using h
    subst this;exact⟨c,by simp[jz],r⟩
   ·simp[dZ]at h
  ·have i:dZ ((a,f)::ks) k=dZ ks k:=by simp[dZ,bm,b]
   have g:jz ((a,c)::ws) k=jz ws k:=by simp[jz,bm,b]
   rw[i,g];exact⟨h1,h2⟩
theorem KR.any{k:κ}:∀{ks:List (κ×D)} {ws:List (κ×V)},KR K H mu ks ws->(ks.any λp=>decide (p.1=k))=ws.any λp=>decide (p.1=k):=by
 intro ks ws h
 induction h with
 |nil=>rfl
 |cons r t ih=>rw[bn,bn,ih,r.1]
theorem KR.repl{k:κ}{d:D}{v:V}(q:eQ K H mu d v):∀ {ks:List (κ×D)} {ws:List (κ×V)},KR K H mu ks ws ->
  KR K H mu (ks.map λp=>if p.1=k then(p.1,d)else p) (ws.map λp=>if p.1=k then(p.1,v)else p):=by
 intro ks ws h
 induction h with
 |nil=>exact .nil
 | @cons a b ks ws r t ih=>
  refine .cons ?_ ih;obtain⟨e,r⟩:=r;dsimp only;by_cases h:a.1=k
  ·rw[ak h,ak (e ▸ h)];exact⟨e,q⟩
  ·rw[aj h,aj (e ▸ h)];exact⟨e,r⟩
theorem KR.snoc{k:κ}{d:D}{v:V}(q:eQ K H mu d v):∀{ks:List (κ×D)} {ws:List (κ×V)},KR K H mu ks ws->KR K H mu (ks++[(k,d)]) (ws++[(k,v)]):=by
 intro ks ws h
 induction h with
 |nil=>exact .cons ⟨O,q⟩ .nil
 |cons r t ih=>exact .cons r ih
theorem KR.put{k:κ}{d:D}{v:V}(q:eQ K H mu d v){ks:List (κ×D)}{ws:List (κ×V)}(h:KR K H mu ks ws):KR K H mu (eY ks k d) (ij ws k v):=by
 unfold eY ij;rw[h.any];split
 ·exact h.repl q
 ·exact h.snoc q
end
def w4:G2:=λd e S=>match e with
 | .ref n=>match S[n]? with
  |some (.dct kvs)=>(qy d).map λk=>(.bl (dZ kvs k).isSome,S)
  |_=>JN d e S
 |_=>JN d e S
def kK:G2:=λd e S=>match e with
 | .ref n=>match S[n]? with
  |some (.dct kvs)=>(qy d).map λk=>(.bl (!(dZ kvs k).isSome),S)
  |_=>pH d e S
 |_=>pH d e S
def mQ:G2:=λd e S=>match d with
 | .ref n=>match S[n]? with
  |some (.dct kvs)=>(qy e).bind λk=>(dZ kvs k).map λx=>(x,S)
  |_=>CI d e S
 |_=>CI d e S
def l6:G3:=λo i v S=>match o with
 | .ref n=>match S[n]? with
  |some (.dct kvs)=>(qy i).bind λk=>if kvs.length<da then Z (.non,S.set n (.dct (eY kvs k v)))else Y
  |_=>j9 o i v S
 |_=>j9 o i v S
section
variable{X:Cx}
theorem pz{K:Fg1}{H:Hp}{mu:List c4}{S:dr}(hs:Sim K H mu S){n:Nat}{a:c4}{kvs:List (Key×D)}{k:Key}{y:V}(hn:mu[n]? = some a)(he:S[n]? = some (.dct kvs))(hy:y=kV k):
  ∃o:Option V,q9 H a y o/\(∀d,dZ kvs k=Z d -> ∃v,o=Z v/\eQ K H mu d v)/\(dZ kvs k=Y->o=Y)/\o.isSome=(dZ kvs k).isSome:=by
 obtain⟨ws,f,b⟩:=hs.dct he hn;subst hy;obtain⟨h1,h2⟩:=b.look (k:=k);refine⟨jz ws k,q9.k f,h1,h2,?_⟩;cases e:dZ kvs k with
 |none=>rw[h2 e];rfl
 |some d=>obtain⟨v,c,_⟩:=h1 d e;rw[c];rfl
theorem KN(p:X.A.units+64<cLine):fQ X (compareOp .In) (r2 X.K (b2 w4)):=by
 intro ag s σ H x y u w Q I l j h;obtain⟨mu,S,d,e,r,i,f,b,c,a,hc⟩:=qp h;have back:JN d e S=Z (r,i)->db (model X.prog X.w) X.A (compareOp .In u w) (EP X ag σ Q) X.xe s:=λa=>MQ p ag s σ H x y u w Q I l j ⟨mu,S,[d,e],r,i,.cons f (.cons b .nil),c,a,hc⟩;unfold w4 at a;split at a
 ·rename_i n;split at a
  ·rename_i kvs v;obtain⟨k,q,a⟩:=oM1.mp a;cases a;cases b with
   |ref t=>
    cases j;obtain⟨o,g,_,_,hi⟩:=pz c t v (kI f q);exact M9 (by lia) I g l λs' m=>⟨.bl o.isSome,H,m,O,by rw[hi];exact hc.now (.bl _) c⟩
  ·exact back a
 ·exact back a
theorem BO(p:X.A.units+64<cLine):fQ X (compareOp .NotIn) (r2 X.K (b2 kK)):=by
 intro ag s σ H x y u w Q I l j h;obtain⟨mu,S,d,e,r,i,f,b,c,a,hc⟩:=qp h;have back:pH d e S=Z (r,i)->db (model X.prog X.w) X.A (compareOp .NotIn u w) (EP X ag σ Q) X.xe s:=λa=>Eo p ag s σ H x y u w Q I l j ⟨mu,S,[d,e],r,i,.cons f (.cons b .nil),c,a,hc⟩;unfold kK at a;split at a
 ·rename_i n;split at a
  ·rename_i kvs v;obtain⟨k,q,a⟩:=oM1.mp a;cases a;cases b with
   |ref t=>
    cases j;obtain⟨o,g,_,_,hi⟩:=pz c t v (kI f q);exact Fv (by lia) I g l λs' m=>⟨.bl (!o.isSome),H,m,O,by rw[hi];exact hc.now (.bl _) c⟩
  ·exact back a
 ·exact back a
theorem JP(P:X.A.units+64<cLine):GC X (r2 X.K (b2 mQ)):=by
 intro value b ag s σ H x y v u Q I C B h m;obtain⟨mu,S,d,e,r,A,w,j,p,c,hc⟩:=qp h;have back:CI d e S=Z (r,A)->db (model X.prog X.w) X.A (subscriptTail value b v u) (EP X ag σ Q) X.xe s:=λc=>Mh value b ag s σ H x y v u Q I C B ⟨mu,S,[d,e],r,A,.cons w (.cons j .nil),p,c,hc⟩ m;unfold mQ at c;split at c
 ·rename_i n;split at c
  ·rename_i kvs ao;obtain⟨k,am,c⟩:=oB1.mp c;obtain⟨z,F,c⟩:=oM1.mp c;cases c;cases w with
   | @ref _ a E=>
    cases C;obtain⟨o,g,h1,_,_⟩:=pz p E ao (kI j am);obtain⟨D,G,L⟩:=h1 _ F;subst G;have t:=vD I g;unfold subscriptTail;refine wB1 ?_;rw[getitemInPython_of_ne t.not_modules];refine wB1 (wpAny_specialOf t PySem.F.slot_dict_getitem.lookup ?_);have i:db (model X.prog X.w) X.A (subscripted b J (.ref a) u) (λr f=>db (model X.prog X.w) X.A (letTemporaryGo value (.ref a) r >>= λ_=>pure r) (EP X ag σ Q) X.xe f) X.xe s:=by
     rw[m];exact wpAny_operating (wpAny_mono (zZ (by lia) I g B λau N K q=>(⟨D,H,K,q,hc.now L p⟩:EP X ag σ Q au N)) (λr f l=>wB1 (wpAny_letTemporaryGo (wP1 l))) λ_ _ x=>x)
    first
     |exact wP1 (wB1 i)
     |exact wB1 i
     |exact i
  ·exact back c
 ·exact back c
theorem G0(L:X.A.units+64<cLine):xw X (rU X.K (b3 l6)):=by
 intro ag s σ H o i v z j u Q I m t w h;obtain⟨mu,S,ds,d,q,E,c,a,hc⟩:=id h;cases E with
 |cons r K=>cases K with
  |cons x C=>cases C with
   |cons g B=>
    cases B;rename_i y l f;dsimp only[b3]at a;have back:j9 y l f S=Z (d,q)->db (model X.prog X.w) X.A (setItem z j u) (λ_ s'=>∃H',Inv X ag σ H' s'/\Q H') X.xe s:=λa=>Kl ag s σ H o i v z j u Q I m t w ⟨mu,S,[y,l,f],d,q,.cons r (.cons x (.cons g .nil)),c,a,hc⟩;unfold l6 at a;split at a
    ·rename_i n;split at a
     ·rename_i kvs F;obtain⟨k,D,a⟩:=oB1.mp a;split at a
      ·rename_i G;cases a;cases r with
       |ref b=>
        cases m;obtain⟨ws,e,p⟩:=c.dct F b;have A:=kI x D;subst A;refine zY (by lia) I (Ao.k e (by rw[<- p.length];exact G)) t w λs' am=>⟨_,am,?_⟩;have put:Ext mu mu H (upd H _ (.dK (ij ws k v))):=Ext.put e trivial (gM1 b);exact hc _ mu put (c.put b e trivial ⟨_,d9,(p.put g).ext put⟩)
      ·cases a
     ·exact back a
    ·exact back a
def Fk:G2:=λd e S=>match e with
 | .non=>Z (.bl (rO d),S)
 | .bl b=>match d with
  | .bl c=>Z (.bl (c == b),S)
  |_=>Y
 |_=>Y
def ol:G2:=λd e S=>match e with
 | .non=>Z (.bl (!rO d),S)
 | .bl b=>match d with
  | .bl c=>Z (.bl (!(c == b)),S)
  |_=>Y
 |_=>Y
theorem KJ:fQ X (compareOp .Is) (r2 X.K (b2 Fk)):=by
 intro ag s σ H x y u w Q I k j h;obtain⟨mu,S,d,e,r,l,i,a,g,f,hc⟩:=qp h;cases e with
 |non=>exact KL ag s σ H x y u w Q I k j ⟨mu,S,[d,.non],r,l,.cons i (.cons a .nil),g,f,hc⟩
 |bl b=>
  cases d with
  |bl c=>
   cases f;cases i;cases a;cases k;cases j;exact is_bool ⟨.bl (c == b),H,I,O,hc.now (.bl _) g⟩
  |_=>cases f
 |_=>cases f
theorem BQ:fQ X (compareOp .IsNot) (r2 X.K (b2 ol)):=by
 intro ag s σ H x y u w Q I k j h;obtain⟨mu,S,d,e,r,l,i,a,g,f,hc⟩:=qp h;cases e with
 |non=>exact HX ag s σ H x y u w Q I k j ⟨mu,S,[d,.non],r,l,.cons i (.cons a .nil),g,f,hc⟩
 |bl b=>
  cases d with
  |bl c=>
   cases f;cases i;cases a;cases k;cases j;exact isnot_bool ⟨.bl (!(c == b)),H,I,O,hc.now (.bl _) g⟩
  |_=>cases f
 |_=>cases f
def px:FE:=λ_ S=>Z (.ref S.length,S++[.dct []])
theorem oC{pos:Pos}:XE X (.Dict [] [] pos) px:=⟨eP BA <| by
 rintro σ H Q ⟨r,mu,S,d,f,e,a,c,hc⟩ p b;cases c;exact hc _ _ (mu++[p]) (Ext.new_ b) (.ref (gi a.len p)) (a.new b ⟨[],d9,.nil⟩)⟩
def Cc:List (FE×FE)->Ev->dr->Option (List (D×D)×dr)
 |[],_,S=>Z ([],S)
 |(a,b)::l,r,S=>(a r S).bind λp=>(b r p.2).bind λq=>(Cc l r q.2).map λt=>((p.1,q.1)::t.1,t.2)
def ve:List (D×D)->Option (List (Key×D))
 |[]=>Z []
 |(k,d)::l=>(qy k).bind λk=>(ve l).map λt=>(k,d)::t
def py(l:List (FE×FE)):FE:=λr S=>(Cc l r S).bind λp=>(ve p.1).bind λkvs=>if kvs.length<=15 then Z (.ref p.2.length,p.2++[.dct (kvs.foldl (λacc kv=>eY acc kv.1 kv.2) [])])else Y
structure XP (X:Cx)(pos:Pos)(ks:List (Option Expr))(vs:List Expr)(l:List (FE×FE)):Prop where
 h:LP X pos ks vs (l.map λp=>(tM X.K p.1,tM X.K p.2))
theorem xC{pos:Pos}:XP X pos [] [] []:=⟨D7⟩
theorem hC{pos:Pos}{k v:Expr}{ks:List (Option Expr)}{vs:List Expr}{a b:FE}{l:List (FE×FE)}(hk:XE X k a)(hv:XE X v b)(t:XP X pos ks vs l):XP X pos (Z k::ks) (v::vs) ((a,b)::l):=⟨Bp hk.h hv.h t.h⟩
theorem Bn{K:Fg1}{σ:L2.St}:∀ {l:List (FE×FE)} {r:Ev} {mu:List c4} {H:Hp} {S S':dr} {ps:List (D×D)} {Q:List (V×V)->Hp->Prop},fH K H mu r σ->Sim K H mu S->Cc l r S=some (ps,S') ->
  (∀vs H' mu',Ext mu mu' H H'->Paired (λ(p:D×D) (q:V×V)=>eQ K H' mu' p.1 q.1/\eQ K H' mu' p.2 q.2) ps vs->Sim K H' mu' S'->Q vs H')->sI (l.map λp=>(tM K p.1,tM K p.2)) σ H Q
 |[],r,mu,H,S,S',ps,Q,he,hs,c,hc=>by cases c;exact hc [] H mu (.refl _ _) .nil hs
 |(a,b)::l,r,mu,H,S,S',ps,Q,he,hs,c,hc=>by
  obtain⟨⟨d,h⟩,j,c⟩:=oB1.mp c;obtain⟨⟨o,i⟩,y,c⟩:=oB1.mp c;obtain⟨⟨t,B⟩,w,c⟩:=oM1.mp c;cases c;refine⟨r,mu,S,d,h,he,hs,j,λv H1 mu1 g s k=>⟨r,mu1,h,o,i,he.ext g,k,y,λA H2 n x2 r2 u=>?_⟩⟩;refine Bn ((he.ext g).ext x2) u w λvs z e f m x=>hc _ z e ((g.trans x2).trans f) (.cons ⟨(s.ext x2).ext f,r2.ext f⟩ m) x
theorem Cm{K:Fg1}{H:Hp}{mu:List c4}:∀ {ps:List (D×D)} {vs:List (V×V)} {kvs:List (Key×D)},Paired (fun (p:D×D) (q:V×V)=>eQ K H mu p.1 q.1/\eQ K H mu p.2 q.2) ps vs->ve ps=some kvs ->
  ∃ws:List (Key×V),vs=ws.map (λc=>(kV c.1,c.2))/\KR K H mu kvs ws:=by
 intro ps vs kvs j h
 induction j generalizing kvs with
 |nil=>cases h;exact⟨[],O,.nil⟩
 | @cons a b ps vs q t ih=>
  obtain⟨k,d⟩:=a;obtain⟨m,f⟩:=b;obtain⟨l,g,h⟩:=oB1.mp h;obtain⟨rest,i,h⟩:=oM1.mp h;cases h;obtain⟨ws,e,r⟩:=ih i;have:=kI q.1 g;dsimp only at this;subst this;exact⟨(l,f)::ws,by rw[mP1,<- e],.cons ⟨O,q.2⟩ r⟩
theorem B4{K:Fg1}{H:Hp}{mu:List c4}:∀{kvs:List (Key×D)} {ws:List (Key×V)} {acc:List (Key×D)} {acw:List (Key×V)},KR K H mu kvs ws->KR K H mu acc acw->KR K H mu (kvs.foldl (λacc c=>eY acc c.1 c.2) acc) (jG acw ws):=by
 intro kvs ws acc acw f h
 induction f generalizing acc acw with
 |nil=>exact h
 | @cons a b kvs ws r t ih=>
  obtain⟨k,d⟩:=a;obtain⟨g,v⟩:=b;obtain⟨e,r⟩:=r;dsimp only at e r;subst e;show KR K H mu (kvs.foldl _ (eY acc k d)) (jG (ij acw k v) ws);exact ih (h.put r)
theorem ul{pos:Pos}{ks:List (Option Expr)}{vs:List Expr}{l:List (FE×FE)}(h:XP X pos ks vs l)(v:ks.all (·.isSome)=M:=by rfl)(ao:ks.length=vs.length:=by rfl)(h0:ks≠[]:=by(intro z;cases z))(C:ks.length<=15:=by decide):XE X (.Dict ks vs pos) (py l):=
 ⟨eP (Ee h.h v ao h0 C) <| by
  rintro σ H Q ⟨r,mu,S,d,R,au,F,f,hc⟩ p g;obtain⟨⟨ps,G⟩,am,f⟩:=oB1.mp f;obtain⟨kvs,N,f⟩:=oB1.mp f;dsimp only at f;split at f
  ·rename_i k;cases f;have w:Ext mu mu H (upd H p (.dK [])):=Ext.fresh g;refine Bn (au.ext w) (F.fresh g) am fun vs H1 mu1 j K i=>?_;obtain ⟨s,m⟩:=j.held (a:=p) (o:=.dK []) d9 (F.notin g);obtain ⟨ws,P,rk⟩:=Cm K N;refine ⟨s,ws,P,by rw [<- rk.length];exact k,?_⟩;have put:Ext (p::mu1) (p::mu1) H1 (upd H1 p (.dK (jG [] ws))):=Ext.put s trivial mS1;have L:=i.aside put.inner m;have y:Ext mu (mu1++[p]) H (upd H1 p (.dK (jG [] ws))):=by
    refine⟨j.pre.trans (bE _ _),λb o e n=>?_,λb ys e=>put.tup b ys (j.tup b ys (w.tup b ys e)),λb o u e=>put.frz b o u (j.frz b o u (w.frz b o u e)),λb A=>?_⟩
    ·have E:b≠p:=ew e g;rw[d0 E];exact j.old b o (by rw[d0 E];exact e) n
    ·rcases aF.mp A with z|z
     ·rcases j.new b z with q|q
      ·exact .inl q
      ·by_cases t:b=p
       ·exact .inr (by rw[t];exact g)
       ·rw[d0 t]at q;exact .inr q
     ·have:b=p:=by simpa using z
      exact .inr (by rw[this];exact g)
   have x:=B4 rk (acc:=[]) (acw:=[]) .nil;refine hc _ _ (mu1++[p]) y (.ref (gi i.len p)) ⟨by rw[lA1,lA1,i.len];rfl,?_,λn o b h1 h2=>?_⟩
   ·rw[bG];refine⟨i.nd,by simp,λb I c hc e=>?_⟩;have:c=p:=by simpa using hc
    subst this;subst e;exact m I
   ·by_cases D:n<G.length
    ·rw[gL1 D]at h1;rw[gL1 (by rw[i.len];exact D)]at h2;exact(L.ob n o b h1 h2).mor [p]
    ·have B:n=G.length:=by
      have:=(gE1.mp h1).1;rw[lA1]at this;simp at this;lia
     subst B;rw[gR1 (nR1 _)]at h1;rw[<- i.len,gR1 (nR1 _)]at h2;simp at h1 h2;subst h1;subst h2;exact⟨_,d9,KR.mor [p] (Paired.mapP x λ_ _ z=>⟨z.1,z.2.exw put.inner⟩)⟩
  ·cases f⟩
end
section
variable{K:Fg1}{H H':Hp}{mu mu':List c4}{S:dr}
end
theorem BH{P:c5}{w:c7}{K:Fg1}{mg:Str->Option cZ}{base:df}{x a:Str}{st:di}{f:c4}{fd:dg}{ps:List Str}{k n:Nat}(F:yV K x a st f fd)(hb:kn K fd ps [])(hm:mg x=Z (.ref f)):Own P w K mg base k x n (λ_ _=>Y):=by
 have c:∀vs H Q E,¬ spM K n (λ_ _=>Y) vs H Q E:=λvs H Q E h=>by
  obtain⟨_,mu,S,ds,d,i,_,_,e,_⟩:=h;cases e
 exact⟨f,fd,ps,⟨λvs H Q E h=>absurd h (c vs H Q E),λA b s H g j vs Q E _ _ _ _ h=>absurd h (c vs H Q E)⟩,hb,F.kp,hm⟩
theorem ku{X:Cx}(i j:Nat){x y:Str}{a b:Expr}{m:FA}{n k pt pos:Pos}{kt k2 pt2}(hc:X.calm=true)(hN:X.N.Nodup)(hi:X.N[i]? = some x)(v:X.N[j]? = some y)(l:i≠j)(hx:X.env.scope.names.lookup x=some .local)(hy:X.env.scope.names.lookup y=some .local)(ha:XA X [a,b] m)(hw:swappedStores [.Tuple [.Name x n,.Name y k] kt pt] (.Tuple [a,b] k2 pt2) X.env=pure (some [x,y]):=by rfl)(hs:swapsWithSole [.Tuple [.Name x n,.Name y k] kt pt] (.Tuple [a,b] k2 pt2) pos.line X.env=pure false:=by rfl):
  XS X (.Assign [.Tuple [.Name x n,.Name y k] kt pt] (.Tuple [a,b] k2 pt2) pos) (dH (d8 m) (gT 2 (eU (gN i) (eU (gN j) i7)))):=
 ⟨iI (Hk hc hN hi v l hx hy ha.h hw hs) <| by
  rintro E σ H ⟨r,mu,S,f,A,z,o,hs,h,hc⟩;obtain⟨⟨d,B⟩,e,h⟩:=oB1.mp h;obtain⟨⟨r2,w⟩,c,h⟩:=oB1.mp h;cases h;obtain⟨⟨ds,C⟩,t,e⟩:=oB1.mp e;dsimp only at e;split at e
  ·cases e;refine⟨r,mu,S,ds,_,o,hs,t,λvs H1 mu1 p g q=>?_⟩;dsimp only at c;rw[gT]at c;split at c
   ·cases g with
    |nil=>cases c
    |cons s g=>cases g with
     |nil=>cases c
     |cons u g=>cases g with
      |nil=>
       cases c;exact⟨_,_,O,hc _ H1 mu1 p (((o.ext p).set s).set u) q⟩
      |cons _ _=>cases c
   ·cases c
  ·cases e⟩
def CK:G2:=λd e S=>match d,e with
 | .int i,.int j=>Z (.int (i+j),S)
 |_,_=>Y
theorem E8{X:Cx}:Mf X .Add (r2 X.K (b2 CK)):=by
 intro ag s σ H x y v u Q I k g h;obtain⟨mu,S,d,e,r,l,f,b,c,a,hc⟩:=qp h;unfold CK at a;split at a
 ·rename_i i j;cases a;cases f;cases b;exact E9 ag s σ H _ _ v u Q I k g ⟨i,j,O,O,hc.now (.int _) c⟩
 ·cases a
end Mi
namespace HT
open PySem PySem.Spec PyProof.Rows
variable{prog:c5}{w:c7}{A:c6}{E:cZ->c3->Prop}{s:c3}
theorem kU{t sl:c4}{items:Array cZ}{e f:cZ}{lo hi:Option Int}{Q:cZ->c3->Prop}(ht:IsTup s.heap t items)(hs:s.heap.IsSliceOf sl e f .none)(pl:IsPart e lo)(i:IsPart f hi)(hw:sIx items.size 0 lo=0/\sIx items.size items.size hi=items.size)(h:Q (.ref t) s):db (model prog w) A (getItem (.ref t) (.ref sl)) Q E s:=by
 obtain⟨j,b,d,g⟩:=id hs;have c:s.TypeIs (.ref sl) "slice":=⟨j,b,d⟩;unfold getItem
 try with_reducible refine wpAny_holding ?_
 first|refine wB1 (wP1 ?_)|skip
 refine wB1 (wpAny_sequenceKey ht.typeIs (by decide) ?_);refine wB1 (wpAny_callSpecial?_slot (name:=Str.ofString "__getitem__") ht.typeIs PyProof.Rows.slot_tuple_getitem
  (wE1 PyProof.Rows.slot_tuple_getitem ht.typeIs entry_tuple_getitem ?_ (args_tuple_getitem _ _)))
 show db _ _ (Builtin.Tuple.tupleItemsOf (.ref t) >>= _) _ _ s;refine wB1 (tupleItemsOf_ ht ?_);refine wB1 (wpAny_typeOf c ?_);rw[ak (by decide)];refine wB1 (ji hs pl i ?_);have a:((((sIx items.size 0 lo:Nat):Int) == 0&&(1:Int) == 1&&(sIx items.size items.size hi-sIx items.size 0 lo) == items.size)=M):=by
  rw[hw.1,hw.2];simp
 show db _ _ (if(((sIx items.size 0 lo:Nat):Int) == 0&&(1:Int) == 1&&(sIx items.size items.size hi-sIx items.size 0 lo) == items.size)=M then _ else _) _ _ s;rw[ak a];refine wB1 ?_;unfold Builtin.Tuple.tupleIsExact;refine wB1 (wpAny_typeOf ht.typeIs (wP1 ?_));rw[ak (by decide)]
 first
  |exact wB1 (wpAny_rule (wP1 ⟨_,rfl,wP1 h⟩))
  |exact wB1 (wpAny_rule (wB1 (wP1 ⟨_,rfl,wP1 h⟩)))
end HT
namespace Mi
open PySem PySem.Spec PyProof.Rows L2
def MH(K:Fg1):V->Option Int->Option Int->Hp->VK->Prop:=λx lo hi H Q=>∃a xs,x = .ref a/\kP K H a xs/\(HT.sIx xs.length 0 lo=0/\HT.sIx xs.length xs.length hi=xs.length)/\Q (.ref a) H
section
variable{X:Cx}
theorem DN:Dr X (MH X.K):=by
 intro ag s σ H x v l n lo hi m Q I g f pl i h;obtain⟨a,xs,rfl,e,j,q⟩:=h;cases g;obtain⟨c,r,d,k⟩:=I.tuple e;have b:c.toArray.size=xs.length:=by rw[sT1];exact r.length.symm
 refine⟨"tuple",_,PyProof.Rows.slot_tuple_getitem.lookup,d.typeIs,?_⟩;exact HT.kU d f pl i (by rw[b];exact j) ⟨.ref a,H,I,O,q⟩
def wp(S:dr)(d:D)(lo hi:Option Int):Option (D×dr):=(dQ S d).map λp=>if p.1=M then(.ref S.length,S++[.lst (Mi.gn p.2 lo hi)])else(.tup (Mi.gn p.2 lo hi),S)
def ic(m:FE)(lo hi:FO):FE:=λr S=>(m r S).bind λp=>(lo r p.2).bind λa=>(hi r a.2).bind λb=>wp b.2 p.1 a.1 b.1
theorem z0{xs:List D}{lo hi:Option Int}(h:HT.sIx xs.length 0 lo=0/\HT.sIx xs.length xs.length hi=xs.length):Mi.gn xs lo hi=xs:=by
 unfold Mi.gn;rw[h.1,h.2,List.drop_zero,Nat.sub_zero,b0]
theorem ed{e:Expr}{lo hi:Option Expr}{m:FE}{a b:FO}{pos p2:Pos}(h:XE X e m)(K:XO X lo a)(D:XO X hi b):XE X (.Subscript e (.Slice lo hi Y p2) pos) (ic m a b):=
 ⟨eP (By (Dr.or DN (Dr.or GY DO)) h.h K.h D.h) <| by
  rintro σ H Q ⟨r,mu,S,d,au,w,I,f,hc⟩;obtain⟨⟨am,z⟩,B,f⟩:=oB1.mp f;obtain⟨⟨n,y⟩,N,f⟩:=oB1.mp f;obtain⟨⟨l,ao⟩,G,f⟩:=oB1.mp f;refine⟨r,mu,S,am,z,w,I,B,λv H1 mu1 x E C=>?_⟩;refine⟨r,mu1,z,n,y,w.ext x,C,N,λH2 o x2 F=>?_⟩;refine⟨r,o,y,l,ao,(w.ext x).ext x2,F,G,λP g A j=>?_⟩;obtain⟨⟨k,xs⟩,L,f⟩:=oM1.mp f;have s:=(x.trans x2).trans A;obtain⟨c,vs,rfl,q,t⟩:=dJ ((E.ext x2).ext A) j L;cases k with
  |true=>
   cases f;right;right;exact⟨c,vs,O,q,λp i=>hc _ _ (g++[p]) (s.trans (Ext.new_ i)) (.ref (gi j.len p)) (j.newL (yE t n l) i)⟩
  |false=>
   simp only[bF1,if_false]at f;cases f;by_cases u:HT.sIx xs.length 0 n=0/\HT.sIx xs.length xs.length l=xs.length
   ·left;rw[z0 u]at hc;exact⟨c,vs,O,q,by rw[<- t.length];exact u,hc _ _ g s (.tup q t) j⟩
   ·right;left;exact⟨c,vs,O,q,by rw[<- t.length];exact u,λp i=>hc _ _ g (s.trans (Ext.fresh i)) (.tup (kP.of d9) ((yE t n l).ext (Ext.fresh i))) (j.fresh i)⟩⟩
end
mutual
inductive gy (h:df):TK->cZ->Prop
 |non:gy h .non .none
 |int (i t):gy h (.int i) (.int i t)
 |tup {a o items n xs}:h.get? a=some o->o.cls = .type "tuple"->o.data = .seq items n->iu h xs items.toList->gy h (.tup xs) (.ref a)
inductive iu (h:df):List TK->List cZ->Prop
 |nil:iu h [] []
 |cons {k v ks vs}:gy h k v->iu h ks vs->iu h (k::ks) (v::vs)
end
section
variable{prog:c5}{w:c7}{A:c6}{E:cZ->c3->Prop}{s:c3}
theorem uJ{Q:Int->c3->Prop}(h:Q 0xFCA86420 {s with toks:=s.toks+1}):db (model prog w) A (pyHash .none) Q E s:=by
 have a:s.TypeIs .none "NoneType":=rfl;unfold pyHash
 first|unfold pyHashByItsType|skip
 have b:[Value.none].any Value.onHeap=J:=rfl;refine wB1 ?_;rw[cRoomFor,aj (by rw[b];exact aK)];refine wP1 ?_;refine wB1 (wpAny_specialOf a F.slot_NoneType_hash.lookup ?_);show db _ _ (if(Z (Value.builtin "NoneType.__hash__") == Z Value.none)=M then _ else _) Q E s;rw[aj (by rw[beq_builtin_none];exact aK)];refine wB1 (wpAny_specialOf a F.slot_NoneType_hash.lookup ?_);show db _ _ (callSpecialIfBoundUnlessNone? .none "__hash__" _ >>= _) Q E s;refine wB1 (wpAny_callSpecialIfBoundUnlessNone?_slot a F.slot_NoneType_hash (wE1 F.slot_NoneType_hash a F.entry_NoneType_hash (show db _ _ (retInt 0xFCA86420) _ _ s from wpAny_ret_mkInt ?_) (F.args_NoneType_hash_1 _)));exact wP1 h
def ud(prog:c5)(w:c7)(k:TK):Prop:=∀{A:c6} {E:cZ->c3->Prop} {s:c3} {v:cZ} {Q:Int->c3->Prop},A.units+k.dep<cLine->gy s.heap k v->Q k.hash {s with toks:=s.toks+k.draws}->db (model prog w) A (pyHash v) Q E s
theorem iu.split{h:df}:∀{ks:List TK} {vs:List cZ},iu h ks vs->ks.length=vs.length:=λa=>a.rec (motive_1:=λ_ _ _=>True) (motive_2:=λks vs _=>ks.length=vs.length) trivial (λ_ _=>trivial) (λ_ _ _ _ _=>trivial) O (λ_ _ _ ih=>congrArg (· + 1) ih)
theorem CB{xs:List TK}(all:∀k∈xs,ud prog w k):ud prog w (.tup xs):=by
 intro A E s v Q t y h;cases y with
 | @tup a o m n _ r hc u hi=>
  have l:s.TypeIs (.ref a) "tuple":=⟨o,r,hc⟩;rw[TK.dep]at t;unfold pyHash
  first|unfold pyHashByItsType|skip
  first|refine wB1 (wpAny_cRoomFor_or (.inr (by lia)) ?_)|skip
  refine wB1 (wpAny_specialOf l F.slot_tuple_hash.lookup ?_);show db _ _ (if(Z (Value.builtin "tuple.__hash__") == Z Value.none)=M then _ else _) Q E s;rw[aj (by rw[beq_builtin_none];exact aK)];refine wB1 (wpAny_specialOf l F.slot_tuple_hash.lookup ?_);show db _ _ (callSpecialIfBoundUnlessNone? (.ref a) "__hash__" _ >>= _) Q E s;refine wB1 (wpAny_callSpecialIfBoundUnlessNone?_slot l F.slot_tuple_hash (wE1 F.slot_tuple_hash l F.entry_tuple_hash ?_ (F.args_tuple_hash_1 _)));show db _ _ (Builtin.Tuple.tupleItemsOf (.ref a) >>= _) _ _ s;refine wB1 (wpAny_tupleItemsOf r u ?_);refine wB1 ?_;rw[<- Array.forIn_toList];refine wpAny_forIn_list _
   (λrest (b:Array Int) s'=>∃c d,xs=c++d/\iu s.heap d rest/\b.toList=TK.hashes c/\s'={s with toks:=s.toks+TK.drawsAll c})
   _ ?_ ?_ _ _ ⟨[],xs,O,hi,O,O⟩
  ·rintro x rest b s' ⟨c,d,e,p,i,rfl⟩;cases p with
   | @cons k _ f _ h1 g=>
    have q:k∈xs:=by rw[e];simp
    refine wB1 (all k q (show A.in1.units+k.dep<cLine by have:=TK.dep_mem q;rw[show A.in1.units=A.units+1 from rfl];lia) h1 ?_)
    first
     |exact wP1 ⟨c++[k],f,by simp[e],g,by rw[TK.hashes_app];simp[i,TK.hashes],by rw[TK.draws_app];simp[TK.drawsAll,bu]⟩
     |exact wB1 (wP1 (wP1 ⟨c++[k],f,by simp[e],g,by rw[TK.hashes_app];simp[i,TK.hashes],by rw[TK.draws_app];simp[TK.drawsAll,bu]⟩))
  ·rintro b s' ⟨c,d,e,p,i,rfl⟩;cases p;rw[aN]at e;subst e;show db _ _ (retInt (Builtin.Tuple.tupleHashOf b.toList)) _ _ _;rw[i];refine wpAny_ret_mkInt ?_;show db _ _ (if(decide (-(2:Int)^63<=Builtin.Tuple.tupleHashOf (TK.hashes xs))&&decide (Builtin.Tuple.tupleHashOf (TK.hashes xs)<2^63))=M then _ else _) Q E _;rw[TK.hash,TK.draws]at h;unfold reduceHash at h;by_cases j:(decide (-(2:Int)^63<=Builtin.Tuple.tupleHashOf (TK.hashes xs))&&decide (Builtin.Tuple.tupleHashOf (TK.hashes xs)<2^63))=M
   ·rw[ak j];rw[ak j]at h;exact wP1 (by simpa[bu]using h)
   ·rw[aj j];rw[aj j]at h;exact wB1 (wpAny_rule (wP1 (by simpa[bu]using h)))
mutual
theorem yq:∀k:TK,ud prog w k
 | .non=>λb a h=>by cases a;exact uJ h
 | .int i=>λb a h=>by cases a;exact wpAny_pyHash_int h
 | .tup xs=>CB (vk xs)
theorem vk:∀ks:List TK,∀k∈ks,ud prog w k
 |[],k,h=>by simp at h
 |x::xs,k,h=>by
  by_cases e:k=x
  ·rw[e];exact yq x
  ·exact vk xs k ((aE.mp h).resolve_left e)
end
end
theorem gy.inj{h:df}:∀ {k k':TK} {v:cZ},gy h k v->gy h k' v->k=k':=fun i=>i.rec (motive_1:=fun k v _=>∀ k',gy h k' v->k=k') (motive_2:=fun k v _=>∀ k',iu h k' v->k=k')
  (λk' g=>by cases g;rfl) (λ_ _ k' g=>by cases g;rfl)
  (λe c1 f l ih k' g=>by
   cases g with
   |tup c c2 d j=>
    rw[e]at c;cases c;rw[f]at d;cases d;rw[ih _ j])
  (λk' g=>by cases g;rfl) (λ_ _ a b k' g=>by cases g with|cons r' t'=>rw[a _ r',b _ t']) _
theorem gy.keeps{h h':df}{d:c4}{o:Obj}{es ep}(ho:h.get? d=some o)(hd:o.data = .dict es ep)(hs:Heap.SameBut d h h'):∀ {k:TK} {v:cZ},gy h k v->gy h' k v:=fun f=>f.rec (motive_1:=fun k v _=>gy h' k v) (motive_2:=fun k v _=>iu h' k v) .non .int
  (λ{a} _ _ _ _ c c1 e _ ih=>.tup ((hs.2 a (λz=>by subst z;rw[c]at ho;cases ho;rw[e]at hd;cases hd)).trans c) c1 e ih) .nil (λ_ _ a b=>.cons a b)
theorem iu.at{h:df}:∀{ks:List TK} {vs:List cZ} (j:Nat) (h1:j<ks.length) (h2:j<vs.length),iu h ks vs->gy h ks[j] vs[j]
 |_::_,_::_,0,_,_,.cons r _=>r
 |_::ks,_::vs,j+1,h1,h2,.cons _ t=>iu.at j (by simpa using h1) (by simpa using h2) t
theorem Dh{xs ys:List TK}(b:xs.length=ys.length):((af (min xs.length ys.length)).all λj=>decide (xs[j]?=ys[j]?))=decide (xs=ys):=by
 by_cases h:xs=ys
 ·subst h;simp
 ·rw[ai h,List.all_eq_false];have:∃j,xs[j]? ≠ ys[j]?:=Classical.byContradiction λz=>h (b4 λj=>Classical.byContradiction λq=>z ⟨j,q⟩);obtain⟨j,a⟩:=this;refine⟨j,?_,by simpa using a⟩;rw[aB,b,Nat.min_self];apply Classical.byContradiction;intro c;exact a (by rw[b5 (by lia),b5 (by lia)])
theorem Lk:∀(n:Nat) {k k':TK} {A:c6} {s:c3} {u v:cZ},k.dep<=n->A.units+n<cLine->gy s.heap k u->gy s.heap k' v->SeqAt.EqAt A s u v (decide (k=k')):=by
 intro n
 induction n with
 |zero=>
  intro k k' A s u v F Q r g;cases r with
  |tup _ _ _ _=>simp[TK.dep]at F
  |non=>
   cases g with
   |non=>simpa using SeqAt.EqAt.same (A:=A) (s:=s) Value.none
   |int i t=>simpa[vU]using lD (A:=A) (s:=s) (y:=.non) (x:=.int i) O ⟨t,O⟩ O O
   |tup e c d t=>simpa using(fu (A:=A) (s:=s) (b:=J) (v:=.non) (u:=.none) ⟨_,e,c,_,d⟩ O O (by lia)).2.1
  |int i t=>
   cases g with
   |non=>simpa[vU]using lD (A:=A) (s:=s) (y:=.int i) (x:=.non) ⟨t,O⟩ O O O
   |int j G=>
    have:=lD (A:=A) (s:=s) (y:=.int i) (x:=.int j) ⟨t,O⟩ ⟨G,O⟩ O O;have e:vU (.int i) (.int j)=decide (TK.int i=TK.int j):=by
     by_cases h:i=j
     ·subst h;simp[vU]
     ·rw[ai (λz=>h (by injection z))];simp[vU,h]
    rw[e]at this;exact this
   |tup e c d q=>simpa using(fu (A:=A) (s:=s) (b:=J) (v:=.int i) (u:=.int i t) ⟨_,e,c,_,d⟩ ⟨t,O⟩ O (by lia)).2.1
 |succ n ih=>
  intro k k' A s u v F Q r g;cases r with
  |non=>
   cases g with
   |non=>simpa using SeqAt.EqAt.same (A:=A) (s:=s) Value.none
   |int i t=>simpa[vU]using lD (A:=A) (s:=s) (y:=.non) (x:=.int i) O ⟨t,O⟩ O O
   |tup e c d t=>simpa using(fu (A:=A) (s:=s) (b:=J) (v:=.non) (u:=.none) ⟨_,e,c,_,d⟩ O O (by lia)).2.1
  |int i t=>
   cases g with
   |non=>simpa[vU]using lD (A:=A) (s:=s) (y:=.int i) (x:=.non) ⟨t,O⟩ O O O
   |int j G=>
    have:=lD (A:=A) (s:=s) (y:=.int i) (x:=.int j) ⟨t,O⟩ ⟨G,O⟩ O O;have e:vU (.int i) (.int j)=decide (TK.int i=TK.int j):=by
     by_cases h:i=j
     ·subst h;simp[vU]
     ·rw[ai (λz=>h (by injection z))];simp[vU,h]
    rw[e]at this;exact this
   |tup e c d q=>simpa using(fu (A:=A) (s:=s) (b:=J) (v:=.int i) (u:=.int i t) ⟨_,e,c,_,d⟩ ⟨t,O⟩ O (by lia)).2.1
  | @tup a o f m xs l c1 p H=>
   cases g with
   |non=>simpa using(fu (A:=A) (s:=s) (b:=J) (v:=.non) (u:=.none) ⟨_,l,c1,_,p⟩ O O (by lia)).1
   |int i t=>simpa using(fu (A:=A) (s:=s) (b:=J) (v:=.int i) (u:=.int i t) ⟨_,l,c1,_,p⟩ ⟨t,O⟩ O (by lia)).1
   | @tup a2 P items2 m2 ys N c2 am D=>
    by_cases L:a=a2
    ·subst L;have:TK.tup xs=TK.tup ys:=gy.inj (.tup l c1 p H) (.tup N c2 am D);rw[ah this];exact .same _
    ·refine .of_refs L ?_;have I:=H.split;have ao:=D.split;have E:=SeqAt.RcAt.tuples (A:=A) (s:=s) (e:=fun j=>decide (xs[j]? = ys[j]?)) ⟨o,l,c1,m,p⟩ ⟨P,N,c2,m2,am⟩ (by lia) (fun j h1 h2=>by
      have C:j<xs.length:=by rw[I];simpa using h1
      have K:j<ys.length:=by rw[ao];simpa using h2
      rw[TK.dep]at F;have T:=TK.dep_mem (bV C);have q:=ih (k:=xs[j]) (k':=ys[j]) (A:=A.in1) (s:=s) (by lia) (by show A.units+1+n<cLine;lia) (H.at j C (by simpa using h1)) (D.at j K (by simpa using h2));have e:decide (xs[j]?=ys[j]?)=decide (xs[j]=ys[j]):=by
       rw[gG1 C,gG1 K];simp
      rw[e];simpa using q)
     have S:f.size=xs.length:=by rw[I];simp
     have R:items2.size=ys.length:=by rw[ao];simp
     rw[S,R]at E;have B:((af (min xs.length ys.length)).all (λj=>decide (xs[j]?=ys[j]?))&&xs.length == ys.length)=decide (TK.tup xs=TK.tup ys):=by
      by_cases w:xs.length=ys.length
      ·rw[Dh w,w,beq_self_eq_true,bP];by_cases h:xs=ys
       ·subst h;simp
       ·rw[ai h,ai (λz=>h (by injection z))]
      ·have au:(xs.length == ys.length)=J:=by simpa using w
       rw[au,Bool.and_false,ai (λz=>w (by injection z with z;rw[z]))]
     rw[B]at E;exact E
theorem Bg{prog:c5}{w:c7}:∀(n:Nat) {k:TK} {A:c6} {E:cZ->c3->Prop} {s:c3} {v:cZ} {Q:Bool->c3->Prop},k.dep<=n->gy s.heap k v->Q M s->db (model prog w) A (eqIsQuiet n v) Q E s:=by
 intro n
 induction n with
 |zero=>
  intro k A E s v Q c r h;cases r with
  |non=>rw[eqIsQuiet_byValue 0 O];exact wP1 h
  |int i t=>rw[eqIsQuiet_byValue 0 O];exact wP1 h
  |tup _ _ _ _=>simp[TK.dep]at c
 |succ n ih=>
  intro k A E s v Q c r h;cases r with
  |non=>rw[eqIsQuiet_byValue _ O];exact wP1 h
  |int i t=>rw[eqIsQuiet_byValue _ O];exact wP1 h
  | @tup a o b m xs f c1 l q=>
   have g:s.TypeIs (.ref a) "tuple":=⟨o,f,c1⟩;rw[TK.dep]at c;unfold eqIsQuiet;refine wB1 (wpAny_specialOf g F.slot_tuple_eq.lookup ?_);show db _ _ (isInstance (.ref a) (.type "tuple") >>= _) _ _ s;refine wB1 (wpAny_isInstance g isSubtype_tuple_tuple ?_);simp only[b6,bF1,if_false];refine wB1 (wpAny_seqItems f l ?_);refine wB1 ?_;show db _ _ (forIn b _ _) _ _ s;rw[<- Array.forIn_toList];refine wpAny_forIn_list _ (λrest r s'=>r.1=Y/\s'=s /\ ∃ks,iu s.heap ks rest/\TK.depAll ks<=n) _ ?_ ?_ _ _ ⟨O,O,xs,q,by lia⟩
   ·rintro v rest r s' ⟨d,rfl,ks,y,u⟩;cases y with
    | @cons j _ e _ x p=>
     rw[TK.depAll]at u;refine wB1 (ih (k:=j) (by lia) x ?_);simp only[b6,bF1,if_false];exact wP1 ⟨O,O,e,p,by lia⟩
   ·rintro⟨z,r2⟩ s' ⟨d,rfl,_⟩;simp only at d;subst d;exact wP1 h
def fY(prog:c5)(w:c7):HeapKind prog w TK where
 is:=λh k a=>gy h k (.ref a)/\k.dep<=8
 hash:=TK.hash
 draws:=TK.draws
 room:=λA=>A.units+8<cLine
 inj:=λhx hy=>hx.1.inj hy.1
 keeps:=λx ho hd hs=>⟨x.1.keeps ho hd hs,x.2⟩
 pyHash:=λhu hk h=>yq _ (by have:=hk.2;omega) hk.1 h
 eqBool:=λhu hx hy h=>Lk 8 hx.2 hu hx.1 hy.1 _ _ _ _ h
 quiet:=λhk h=>Bg 8 hk.2 hk.1 h
def CJ:G2:=λo v S=>match o,v with
 | .ref n,.ref b=>match S[n]?,S[b]? with
  |some (.lst xs),Z (.lst ys)=>if xs.length+ys.length<=da then Z (.non,S.set n (.lst (xs++ys)))else Y
  |_,_=>Y
 |_,_=>Y
section
open PySem.MeetsSeq PySem.MeetsSeq2 PySem.MeetsSeq3 PySem.SeqRoads2
end
section
variable{X:Cx}
theorem JY:JH X "list.extend" (λx xs H Q=>rN X.K (b2 CJ) (x::xs) H Q):=by
 intro ag s σ H x xs v u Q I r l h;obtain⟨A,y,mu,S,d,e,B,z,o,k,r2,f,a,hc⟩:=Bc h;cases o;unfold CJ at a;split at a
 ·rename_i n b;split at a
  ·rename_i ys zs p j;split at a
   ·rename_i w;cases a;cases k with
    |ref g=>cases r2 with
     |ref q=>
      obtain⟨vs,c,t⟩:=f.lst p g;obtain⟨ws,m,i⟩:=f.lst j q;refine zq ag s σ H _ _ v u Q I r l ⟨_,_,vs,ws,O,O,c,m,by rw[<- t.length,<- i.length];exact w,?_⟩;exact hc _ _ mu (Ext.put c trivial (gM1 g)) .non (f.putL (t.append i) g c)
   ·cases a
  ·cases a
 ·cases a
end
mutual
def kD:D->Option TK
 | .non=>Z .non
 | .int i=>Z (.int i)
 | .tup xs=>(Cn xs).map .tup
 |_=>Y
def Cn:List D->Option (List TK)
 |[]=>Z []
 |x::xs=>(kD x).bind λk=>(Cn xs).map (k :: ·)
end
def keyT:D->Option TK
 | .tup xs=>(Cn xs).bind λks=>if(TK.tup ks).dep<=8 then Z (.tup ks)else Y
 |_=>Y
mutual
theorem K5:∀{d:D} {k:TK},kD d=Z k->tkD k=d
 | .non,k,h=>by cases h;rfl
 | .int i,k,h=>by cases h;rfl
 | .tup xs,k,h=>by
  rw[kD]at h;obtain⟨ks,e,h⟩:=oM1.mp h;subst h;rw[tkD,wS e]
 | .bl _,k,h=>by simp[kD]at h
 | .str _,k,h=>by simp[kD]at h
 | .rol _,k,h=>by simp[kD]at h
 | .fn _,k,h=>by simp[kD]at h
 | .ref _,k,h=>by simp[kD]at h
theorem wS:∀{ds:List D} {ks:List TK},Cn ds=Z ks->lK ks=ds
 |[],ks,h=>by cases h;rfl
 |x::xs,ks,h=>by
  rw[Cn]at h;obtain⟨k,a,h⟩:=oB1.mp h;obtain⟨t,b,h⟩:=oM1.mp h;subst h;rw[lK,K5 a,wS b]
end
theorem yh{d:D}{k:TK}(h:keyT d=Z k):tkD k=d/\k.dep<=8 /\ ∃xs,k = .tup xs:=by
 cases d with
 |tup xs=>
  rw[keyT]at h;obtain⟨ks,e,h⟩:=oB1.mp h;split at h
  ·rename_i a;cases h;exact⟨by rw[tkD,wS e],a,ks,O⟩
  ·cases h
 |_=>cases h
section
variable{X:Cx}{ag:List (c4×Obj)}{σ:L2.St}{H:Hp}{s:c3}{mu:List c4}
mutual
theorem xI(I:Inv X ag σ H s):∀(k:TK) {v:V} {u:cZ},eQ X.K H mu (tkD k) v->dS v u->gy s.heap k u
 | .non,v,u,r,q=>by
  rw[tkD]at r;cases r;cases q;exact .non
 | .int i,v,u,r,q=>by
  rw[tkD]at r;cases r;obtain⟨t,rfl⟩:=q;exact .int i t
 | .tup xs,v,u,r,q=>by
  rw[tkD]at r;cases r with
  |tup h t=>
   cases q;obtain⟨a,e,⟨o,d,c,n,b⟩,_⟩:=I.tuple h;exact .tup d c b (by simpa using AR I xs t e)
theorem AR(I:Inv X ag σ H s):∀(ks:List TK) {vs:List V} {a:List cZ},dI X.K H mu (lK ks) vs->d5 vs a->iu s.heap ks a
 |[],vs,a,r,q=>by rw[lK]at r;cases r;cases q;exact .nil
 |k::ks,vs,a,r,q=>by
  rw[lK]at r;cases r with
  |cons r t=>cases q with
   |cons q p=>exact .cons (xI I k r q) (AR I ks t p)
end
theorem wB{α β γ δ:Type}{F:α->β->Prop}{G:γ->δ->Prop}{f:α->γ}{g:β->δ}:∀{l₁:List α} {l₂:List β},Paired F l₁ l₂->(∀a b,F a b->G (f a) (g b))->Paired G (l₁.map f) (l₂.map g):=by
 intro a b h g
 induction h with
 |nil=>exact .nil
 |cons r t ih=>exact .cons (g _ _ r) ih
theorem wC{α β:Type}{F:α->β->Prop}:∀{l₁ e:List α} {l₂ f:List β},Paired F l₁ l₂->Paired F e f->Paired F (l₁++e) (l₂++f):=by
 intro a b c d h g
 induction h with
 |nil=>exact g
 |cons r t ih=>exact .cons r ih
theorem KT.length{K:Fg1}:∀{ks:List (TK×D)} {ws:List (TK×c4×cZ)},KT K H mu ks ws->ks.length=ws.length:=λh=>Paired.length h
theorem KT.mem{K:Fg1}:∀{ks:List (TK×D)} {ws:List (TK×c4×cZ)},KT K H mu ks ws -> ∀x∈ws,x.1.dep<=8/\eQ K H mu (tkD x.1) (.ref x.2.1):=by
 intro ks ws a x h
 induction a with
 |nil=>cases h
 |cons r t ih=>
  rcases aE.mp h with e|e
  ·subst e;rw[<- r.1];exact⟨r.2.1,r.2.2.1⟩
  ·exact ih e
theorem KT.look{K:Fg1}{k:TK}:∀ {ks:List (TK×D)} {ws:List (TK×c4×cZ)},KT K H mu ks ws ->
  (∀d,dZ ks k=Z d -> ∃p v,atKey ws k=Z p/\dS v p.2/\eQ K H mu d v)/\(atKey ws k).isSome=(dZ ks k).isSome:=by
 intro ks ws h
 induction h with
 |nil=>exact⟨λd h=>by simp[dZ]at h,O⟩
 | @cons p j ks ws r t ih=>
  obtain⟨a,e⟩:=p;obtain⟨l,a2,c⟩:=j;obtain⟨z,d,q,v,f,r⟩:=r;dsimp only at z q f r;subst z;obtain⟨h1,h2⟩:=ih;by_cases b:a=k
  ·subst b;refine⟨λd h=>?_,by simp[atKey,dZ]⟩;have:e=d:=by simpa[dZ]using h
   subst this;exact⟨(a2,c),v,by simp[atKey],f,r⟩
  ·have i:dZ ((a,e)::ks) k=dZ ks k:=by simp[dZ,bm,b]
   have g:atKey ((a,a2,c)::ws) k=atKey ws k:=by simp[atKey,bm,b]
   rw[i,g];exact⟨h1,h2⟩
theorem KT.put{K:Fg1}{k:TK}{d:D}{v:V}{a:c4}{u:cZ}(hk:k.dep<=8)(j:eQ K H mu (tkD k) (.ref a))(g:dS v u)(q:eQ K H mu d v){ks:List (TK×D)}{ws:List (TK×c4×cZ)}(h:KT K H mu ks ws):KT K H mu (eY ks k d) (storedH ws k a u):=by
 unfold eY storedH;have e:(ks.any λp=>decide (p.1=k))=(atKey ws k).isSome:=by
  rw[h.look.2];unfold dZ;rw[bp,bT,List.find?_isSome,bU]
 rw[e];split
 ·clear e;refine wB h λp w ⟨z,f,i,l,c,m⟩=>?_;unfold putAt;by_cases b:p.1=k
  ·rw[ak b,ak (by rw[<- z];exact b)];exact⟨z,f,i,v,g,q⟩
  ·rw[aj b,aj (by rw[<- z];exact b)];exact⟨z,f,i,l,c,m⟩
 ·exact wC h (.cons ⟨O,hk,j,v,g,q⟩ .nil)
theorem vE(I:Inv X ag σ H s){a:c4}{xs:List (TK×c4×cZ)}{kvs:List (TK×D)}(e:H a=Z (.ext (iW a xs)))(h:KT X.K H mu kvs xs):(a == sysModules)=J/\s.heap.DictOfH (fY X.prog X.w) a xs:=by
 obtain⟨⟨h1,h2,o,es,ep,c,f,d,g⟩,_⟩:=(show eM X.prog X.w H s.heap a (.ext (iW a xs))from I.hok a _ e);exact⟨h1,o,es,ep,c,f,d,g,λx b=>⟨xI I _ (h.mem x b).2 O,(h.mem x b).1⟩,h2⟩
theorem tP{h:df}{a:c4}{xs:List (TK×c4×cZ)}(hd:(a == sysModules)=J)(hm:h.DictOfH (fY X.prog X.w) a xs):eM X.prog X.w H h a (.ext (iW a xs)):=by
 obtain⟨o,es,ep,d,i,f,j,n,e⟩:=hm;refine⟨⟨hd,e,o,es,ep,d,i,f,j⟩,⟨o,d⟩,λp m ⟨a1,a2,o',b,c,b3,k,g,l⟩ st=>⟨a1,a2,o',b,c,st _ b3,k,g,l⟩⟩
end
def fZ:G2:=λd e S=>match e with
 | .ref n=>match S[n]? with
  |some (.dcT kvs)=>(keyT d).map λk=>(.bl (dZ kvs k).isSome,S)
  |_=>w4 d e S
 |_=>w4 d e S
def gY:G2:=λd e S=>match e with
 | .ref n=>match S[n]? with
  |some (.dcT kvs)=>(keyT d).map λk=>(.bl (!(dZ kvs k).isSome),S)
  |_=>kK d e S
 |_=>kK d e S
def dz:G2:=λd e S=>match d with
 | .ref n=>match S[n]? with
  |some (.dcT kvs)=>(keyT e).bind λk=>(dZ kvs k).map λx=>(x,S)
  |some (.dcF kvs)=>(keyT e).bind λk=>(dZ kvs k).map λx=>(x,S)
  |_=>mQ d e S
 |_=>mQ d e S
def gI:G3:=λo i v S=>match o with
 | .ref n=>match S[n]? with
  |some (.dcT kvs)=>(keyT i).bind λk=>if kvs.length<da then Z (.non,S.set n (.dcT (eY kvs k v)))else Y
  |some (.dct [])=>match keyT i with
   |some k=>Z (.non,S.set n (.dcT [(k,v)]))
   |none=>l6 o i v S
  |_=>l6 o i v S
 |_=>l6 o i v S
section
variable{X:Cx}
theorem nv{κ:Type}[DecidableEq κ](kvs:List (κ×D))(k:κ)(d:D):(eY kvs k d).length<=kvs.length+1:=by
 unfold eY;split
 ·rw[lM1];lia
 ·simp
theorem vy{h:df}{a:c4}(dd:h.DictOf (eF X.prog X.w) a []):h.DictOfH (fY X.prog X.w) a []:=by
 obtain⟨o,es,ep,h1,h2,c,_,b,_⟩:=dd;have e:es.toList=[]:=by
  generalize es.toList=l at b;cases b;rfl
 exact⟨o,es,ep,h1,h2,c,e,(λx d=>by simp at d),bA⟩
theorem jA{A:c6}(a:A.units+64<cLine):(fY X.prog X.w).room A.in1:=by
 show A.units+1+8<cLine;lia
theorem j7{ag:List (c4×Obj)}{σ:L2.St}{H:Hp}{s:c3}{mu:List c4}(I:Inv X ag σ H s){d:D}{v:V}{u:cZ}{k:TK}(r:eQ X.K H mu d v)(q:dS v u)(h:keyT d=some k):
  ∃a,u = .ref a/\v = .ref a/\eQ X.K H mu (tkD k) (.ref a)/\k.dep<=8/\(fY X.prog X.w).is s.heap k a:=by
 obtain⟨e,b,xs,ex⟩:=yh h;subst e;have is:=xI I k r q;subst ex;cases id is with
 | @tup a _ _ _ _ _ _ _ _=>
  rw[tkD]at r;cases r with
  |tup h1 h2=>
   cases q;exact⟨a,O,O,by rw[tkD];exact .tup h1 h2,b,is,b⟩
theorem j2(g:X.A.units+64<cLine):fQ X (compareOp .In) (r2 X.K (b2 fZ)):=by
 intro ag s σ H x y u w Q I m l h;obtain⟨mu,S,d,e,r,j,i,c,f,b,hc⟩:=qp h;have back:w4 d e S=Z (r,j)->db (model X.prog X.w) X.A (compareOp .In u w) (EP X ag σ Q) X.xe s:=λb=>KN g ag s σ H x y u w Q I m l ⟨mu,S,[d,e],r,j,.cons i (.cons c .nil),f,b,hc⟩;unfold fZ at b;split at b
 ·rename_i n;split at b
  ·rename_i kvs z;obtain⟨k,q,b⟩:=oM1.mp b;cases b;cases c with
   |ref t=>
    cases l;obtain⟨xs,p,o,_⟩:=f.dcT z t;obtain⟨v,A⟩:=vE I p o;obtain⟨a,rfl,rfl,_,_,hi⟩:=j7 I i m q;refine wpAny_in_heap (jA g) hi v A ?_;exact⟨.bl (atKey xs k).isSome,H,I.tok _,O,by rw[o.look.2];exact hc.now (.bl _) f⟩
  ·exact back b
 ·exact back b
theorem uW(g:X.A.units+64<cLine):fQ X (compareOp .NotIn) (r2 X.K (b2 gY)):=by
 intro ag s σ H x y u w Q I m l h;obtain⟨mu,S,d,e,r,j,i,c,f,b,hc⟩:=qp h;have back:kK d e S=Z (r,j)->db (model X.prog X.w) X.A (compareOp .NotIn u w) (EP X ag σ Q) X.xe s:=λb=>BO g ag s σ H x y u w Q I m l ⟨mu,S,[d,e],r,j,.cons i (.cons c .nil),f,b,hc⟩;unfold gY at b;split at b
 ·rename_i n;split at b
  ·rename_i kvs z;obtain⟨k,q,b⟩:=oM1.mp b;cases b;cases c with
   |ref t=>
    cases l;obtain⟨xs,p,o,_⟩:=f.dcT z t;obtain⟨v,A⟩:=vE I p o;obtain⟨a,rfl,rfl,_,_,hi⟩:=j7 I i m q;refine wpAny_notIn_heap (jA g) hi v A ?_;exact⟨.bl (!(atKey xs k).isSome),H,I.tok _,O,by rw[o.look.2];exact hc.now (.bl _) f⟩
  ·exact back b
 ·exact back b
theorem Je{ag:List (c4×Obj)}{σ:L2.St}{H:Hp}{s:c3}{mu:List c4}(I:Inv X ag σ H s){a:c4}{xs:List (TK×c4×cZ)}{kvs:List (TK×D)}(e:∃o u,H a=Z (.frz o u)/\GE a xs o)(h:KT X.K H mu kvs xs):(a == sysModules)=J/\s.heap.DictOfH (fY X.prog X.w) a xs:=by
 obtain⟨o,u,e,h1,h2,d,es,ep,c,g⟩:=e;obtain⟨f,_⟩:=(show eM X.prog X.w H s.heap a (.frz o u)from I.hok a _ e);exact⟨h1,o,es,ep,f,d,c,g,λx b=>⟨xI I _ (h.mem x b).2 O,(h.mem x b).1⟩,h2⟩
theorem qP(am:X.A.units+64<cLine):GC X (r2 X.K (b2 dz)):=by
 intro value c ag s σ H x y v u Q I C G h q;obtain⟨mu,S,d,e,r,B,A,m,t,f,hc⟩:=qp h;have back:mQ d e S=Z (r,B)->db (model X.prog X.w) X.A (subscriptTail value c v u) (EP X ag σ Q) X.xe s:=λf=>JP am value c ag s σ H x y v u Q I C G ⟨mu,S,[d,e],r,B,.cons A (.cons m .nil),t,f,hc⟩ q;have g:∀kvs a xs,v = .ref a->KT X.K H mu kvs xs->s.heap.DictOfH (fY X.prog X.w) a xs->((keyT e).bind λk=>(dZ kvs k).map λx=>(x,S))=Z (r,B)->db (model X.prog X.w) X.A (subscriptTail value c v u) (EP X ag σ Q) X.xe s:=λkvs a xs N l K f=>by
  obtain⟨k,au,f⟩:=oB1.mp f;obtain⟨z,ao,f⟩:=oM1.mp f;cases f;subst N;obtain⟨b,rfl,rfl,_,_,hi⟩:=j7 I m G au;obtain⟨p,L,ep,R,P⟩:=l.look.1 _ ao;have F:=K.typeIs;unfold subscriptTail;refine wB1 ?_;rw[getitemInPython_of_ne F.not_modules];refine wB1 (wpAny_specialOf F PySem.F.slot_dict_getitem.lookup ?_);have j:db (model X.prog X.w) X.A (subscripted c J (.ref a) (.ref b)) (λr i=>db (model X.prog X.w) X.A (letTemporaryGo value (.ref a) r >>= λ_=>pure r) (EP X ag σ Q) X.xe i) X.xe s:=by
   rw[q];exact wpAny_operating (wpAny_mono (wpAny_getItem_heap (jA am) hi K ep (show EP X ag σ Q p.2 _ from⟨L,H,I.tok _,R,hc.now P t⟩)) (λr i o=>wB1 (wpAny_letTemporaryGo (wP1 o))) λ_ _ x=>x)
  first
   |exact wP1 (wB1 j)
   |exact wB1 j
   |exact j
 unfold dz at f;split at f
 ·rename_i n;split at f
  ·rename_i kvs D;cases A with
   | @ref _ a w=>
    cases C;obtain⟨xs,E,l,_⟩:=t.dcT D w;exact g kvs a xs O l (vE I E l).2 f
  ·rename_i kvs D;cases A with
   | @ref _ a w=>
    cases C;obtain⟨xs,E,l,_⟩:=(show qs X.K H mu a (.dcF kvs)from t.ob n _ a D w);exact g kvs a xs O l (Je I E l).2 f
  ·exact back f
 ·exact back f
theorem mz(F:X.A.units+64<cLine):xw X (rU X.K (b3 gI)):=by
 intro ag s σ H o i v T N u Q I B E t h;obtain⟨mu,S,ds,d,P,W,l,a,hc⟩:=id h;cases W with
 |cons D wq=>cases wq with
  |cons G V=>cases V with
   |cons p U=>
    cases U;rename_i R au y;dsimp only[b3]at a;have back:l6 R au y S=Z (d,P)->db (model X.prog X.w) X.A (setItem T N u) (λ_ s'=>∃H',Inv X ag σ H' s'/\Q H') X.xe s:=λa=>G0 F ag s σ H o i v T N u Q I B E t ⟨mu,S,[R,au,y],d,P,.cons D (.cons G (.cons p .nil)),l,a,hc⟩;unfold gI at a;split at a
    ·rename_i n;split at a
     ·rename_i kvs K;obtain⟨k,C,a⟩:=oB1.mp a;split at a
      ·rename_i hl;cases a;cases D with
       | @ref _ m f=>
        cases B;obtain⟨xs,x,j,aq⟩:=l.dcT K f;obtain⟨am,L⟩:=vE I x j;obtain⟨b,rfl,rfl,rk,r,hi⟩:=j7 I G E C;refine wpAny_setItem_heap (hsz:=aq) (jA F) hi L λh' e c=>?_;have g:∃q,h'.get? _=Z q:=let ⟨q,_,_,g,_⟩:=e;⟨q,g⟩
        have put:Ext mu mu H (upd H m (.ext (iW m (storedH xs k b u)))):=Ext.put x trivial (gM1 f);refine⟨_,md I (by rw[x];exact True.intro) c g (tP am e),hc _ mu put (l.put f x trivial ⟨_,d9,((j.put r rk t p).ext put),?_⟩)⟩;rw[<- (j.put r rk t p).length];have:=nv kvs k y;lia
      ·cases a
     ·rename_i K;split at a
      ·rename_i k C;cases a;cases D with
       | @ref _ m f=>
        cases B;obtain⟨ws,w,j⟩:=l.dct K f;cases j;obtain⟨z,am,vs,A,L⟩:=yA I.hok w;cases A;obtain⟨b,rfl,rfl,rk,r,hi⟩:=j7 I G E C;have ao:s.heap.DictOfH (fY X.prog X.w) _ []:=vy L;refine wpAny_setItem_heap (hsz:=br _) (jA F) hi ao λh' e c=>?_;have g:∃q,h'.get? _=Z q:=let ⟨q,_,_,g,_⟩:=e;⟨q,g⟩
        have put:Ext mu mu H (upd H m (.ext (iW m (storedH [] k b u)))):=Ext.put w trivial (gM1 f);exact⟨_,md I (by rw[w];exact True.intro) c g (tP am e),hc _ mu put (l.put f w trivial ⟨_,d9,KT.ext put (.cons ⟨O,r,rk,v,t,p⟩ .nil),(show 1<=da by decide)⟩)⟩
      ·exact back a
     ·exact back a
    ·exact back a
end
def J8(i j k:Nat)(ta:TA):TS:=λD σ H=>ta σ H λvs H1=>∃u v w,vs=[u,v,w]/\D.nx (((σ.set i (Z u)).set j (Z v)).set k (Z w)) H1
theorem D3{X:Cx}{i j k:Nat}{x y z:Str}{es:List Expr}{ta:TA}{u q B pt pos:Pos}{kt k2 pt2}(hc:X.calm=true)(hN:X.N.Nodup)(hi:X.N[i]? = some x)(P:X.N[j]? = some y)(hk:X.N[k]? = some z)(r:i≠j)(n:i≠k)(A:j≠k)(hx:X.env.scope.names.lookup x=some .local)(hy:X.env.scope.names.lookup y=some .local)(hz:X.env.scope.names.lookup z=some .local)(ha:PA X es ta)(hw:swappedStores [.Tuple [.Name x u,.Name y q,.Name z B] kt pt] (.Tuple es k2 pt2) X.env=pure (some [x,y,z]))(hs:swapsWithSole [.Tuple [.Name x u,.Name y q,.Name z B] kt pt] (.Tuple es k2 pt2) pos.line X.env=pure false):
  PS X (.Assign [.Tuple [.Name x u,.Name y q,.Name z B] kt pt] (.Tuple es k2 pt2) pos) (J8 i j k ta):=by
 intro ag s σ H D I h;rw[exec_Assign_arm];refine wB1 (wpAny_standAt ?_);rw[hs];refine wB1 (wP1 ?_);rw[aj (by decide)];refine wB1 (Tuple_ (ff (ha _ ag s σ H _ I h) λQ d ⟨vs,H1,E,K,a,b,c,F,m⟩=>?_));subst F;obtain⟨f,g,u3,rfl,ao,L,G⟩:∃f g u3,Q=[f,g,u3]/\dS a f/\dS b g/\dS c u3:=by
  cases K with
  |cons p t=>cases t with
   |cons N t=>cases t with
    |cons w t=>cases t;exact⟨_,_,_,O,p,N,w⟩
 refine wO1 ?_ (by show 3<=da;decide);have am:Inv X ag σ H1 {d with heap:=d.heap.push {cls:=.type "tuple",data:=.seq [f,g,u3].toArray}}:=E.kept (t':=d.toks) λb o e=>hP1 _ e;rw[hw];refine wB1 (wP1 ?_);show db (model X.prog X.w) X.A (do rule "assign.swapped-stores";let items<-unpackItems (.ref d.heap.objs.size) 3 Y;assignInOrder [λv=>bindName X.env z v,λv=>bindName X.env y v,λv=>bindName X.env x v] items.reverse;pure Flow.next) _ _ _;refine wB1 (wpAny_rule (wB1 (unpackItems_tuple (items:= #[f,g,u3]) (I.ok.hd hc) (IsTup.new d.heap _) λh' l=>?_)));have S:=am.kept (h':=h') (t':=d.toks) λb o e=>l b o (nN1 (hL1 e)) e;show db _ _ (assignInOrder [λv=>bindName X.env z v,λv=>bindName X.env y v,λv=>bindName X.env x v] [u3,g,f] >>= λ_=>pure Flow.next) _ _ _;refine wB1 (assignInOrder_cons (wpAny_bindName (hO S hN hk (.inl hz) G (λU au=>?_) (.inr hz))));refine assignInOrder_cons (wpAny_bindName (hO au hN P (.inl hy) L (λV R=>?_) (.inr hy)));refine assignInOrder_cons (wpAny_bindName (hO R hN hi (.inl hx) ao (λT C=>assignInOrder_nil (wP1 ?_)) (.inr hx)));rw[aJ _ _ (Ne.symm r),aJ _ _ (Ne.symm n),aJ _ _ (Ne.symm A)]at C;exact⟨_,H1,C,m⟩
theorem Ay{X:Cx}(i j k:Nat){x y z:Str}{es:List Expr}{m:FA}{n h p pt pos:Pos}{kt k2 pt2}(hc:X.calm=true)(hN:X.N.Nodup)(hi:X.N[i]? = some x)(B:X.N[j]? = some y)(hk:X.N[k]? = some z)(l:i≠j)(g:i≠k)(o:j≠k)(hx:X.env.scope.names.lookup x=some .local)(hy:X.env.scope.names.lookup y=some .local)(hz:X.env.scope.names.lookup z=some .local)(ha:XA X es m)(hw:swappedStores [.Tuple [.Name x n,.Name y h,.Name z p] kt pt] (.Tuple es k2 pt2) X.env=pure (some [x,y,z]):=by rfl)(hs:swapsWithSole [.Tuple [.Name x n,.Name y h,.Name z p] kt pt] (.Tuple es k2 pt2) pos.line X.env=pure false:=by rfl):
  XS X (.Assign [.Tuple [.Name x n,.Name y h,.Name z p] kt pt] (.Tuple es k2 pt2) pos) (dH (d8 m) (gT 3 (eU (gN i) (eU (gN j) (eU (gN k) i7))))):=
 ⟨iI (D3 hc hN hi B hk l g o hx hy hz ha.h hw hs) <| by
  rintro E σ H ⟨r,mu,S,f,F,D,q,hs,e,hc⟩;obtain⟨⟨d,G⟩,c,e⟩:=oB1.mp e;obtain⟨⟨r2,C⟩,a,e⟩:=oB1.mp e;cases e;obtain⟨⟨ds,I⟩,w,c⟩:=oB1.mp c;dsimp only at c;split at c
  ·cases c;refine⟨r,mu,S,ds,_,q,hs,w,λvs H1 mu1 s b t=>?_⟩;dsimp only at a;rw[gT]at a;split at a
   ·cases b with
    |nil=>cases a
    |cons v b=>cases b with
     |nil=>cases a
     |cons A b=>cases b with
      |nil=>cases a
      |cons u b=>cases b with
       |nil=>
        cases a;exact⟨_,_,_,O,hc _ H1 mu1 s ((((q.ext s).set v).set A).set u) t⟩
       |cons _ _=>cases a
   ·cases a
  ·cases c⟩
def wj(S:dr)(d:D):Option Bool:=match d with
 | .non=>Z J
 | .bl b=>Z b
 | .int i=>Z (i != 0)
 | .str y=>if y.length<=da then Z ((y.length:Int) != 0)else Y
 | .ref n=>match S[n]? with
  |some (.dct kvs)=>Z (!kvs.isEmpty)
  |_=>(dQ S d).map λp=> !p.2.isEmpty
 |_=>(dQ S d).map λp=> !p.2.isEmpty
noncomputable def mTr (m:FE):FT:=λr S=>(m r S).bind λp=>(wj p.2 p.1).map λb=>(b,p.2)
section
variable{K:Fg1}{H:Hp}{mu:List c4}{S:dr}
theorem sO{d:D}{v:V}{b:Bool}(r:eQ K H mu d v)(s:Sim K H mu S)(h:((dQ S d).map λp=> !p.2.isEmpty)=Z b):FZ K v H b:=by
 obtain⟨⟨k,xs⟩,e,h⟩:=oM1.mp h;obtain⟨a,vs,rfl,q,t⟩:=dJ r s e;have z:(!xs.isEmpty) = !vs.isEmpty:=by cases t<;>rfl
 dsimp only at h;rw[z]at h;cases k
 ·exact .inr (.inl ⟨vs,q,h.symm⟩)
 ·exact .inl ⟨vs,q,h.symm⟩
theorem GQ{d:D}{v:V}{b:Bool}(r:eQ K H mu d v)(s:Sim K H mu S)(h:wj S d=Z b):FZ K v H b:=by
 cases d with
 |non=>cases r;cases h;rfl
 |bl k=>cases r;cases h;rfl
 |int i=>cases r;cases h;rfl
 |str y=>
  rw[wj]at h;split at h
  ·rename_i f;cases r;cases h;exact⟨f,O⟩
  ·cases h
 |tup xs=>exact sO r s h
 |rol xs=>exact sO r s h
 |fn x=>cases h
 |ref n=>
  rw[wj]at h;split at h
  ·rename_i kvs e;cases h;cases r with
   |ref a=>
    obtain⟨ws,g,c⟩:=s.dct e a;refine .inr (.inr ⟨ws,g,?_⟩);cases c<;>rfl
  ·exact sO r s h
end
theorem fx{X:Cx}{x:Expr}{f:FE}(h:XE X x f)(he:∀a,isTrue x X.env a=(do let v<-a;standAt x.pos;holding [v] (truthy v)):=by intro _;rfl):XT X x (mTr f):=
 ⟨ww (Bk h.h he) <| by
  rintro σ H Q ⟨r,mu,S,b,l,he,e,c,hc⟩;obtain⟨⟨m,n⟩,i,c⟩:=oB1.mp c;obtain⟨b1,g,c⟩:=oM1.mp c;cases c;exact⟨r,mu,S,_,_,he,e,i,λv H1 mu1 k j d=>⟨_,GQ j d g,hc H1 mu1 k d⟩⟩⟩
section
variable{X:Cx}{ag:List (c4×Obj)}{σ:L2.St}{H:Hp}{s:c3}{mu:List c4}
end
section
variable{X:Cx}
def mM:List D->Option (List Int)
 |[]=>Z []
 | .int i::ds=>(mM ds).map λis=>i::is
 |_=>Y
def ddI(ns:List Int):List Int:=ns.foldl step_dedup []
theorem vF:∀(ns acc:List Int),acc.Nodup->(ns.foldl step_dedup acc).Nodup
 |[],acc,h=>h
 |n::ns,acc,h=>by
  rw[bg];refine vF ns _ ?_;unfold step_dedup;split
  ·exact h
  ·rename_i f;rw[bG];refine⟨h,by simp,λa d b c e=>?_⟩;simp at c;apply f;rw[bU];exact⟨a,d,by simp[e,c]⟩
theorem zG{K:Fg1}{H:Hp}{mu:List c4}:∀{ds:List D} {vs:List V} {b:List cZ} {ns:List Int},dI K H mu ds vs->d5 vs b->mM ds=Z ns->IntsAre b ns/\ns.length=ds.length:=by
 intro ds vs b ns j a h
 induction j using dI.ind generalizing b ns with
 |hn=>cases h;cases a;exact⟨.nil,O⟩
 | @hc d v ds vs r t ih=>
  cases d with
  |int i=>
   obtain⟨c,e,h⟩:=oM1.mp h;cases h;cases r;cases a with
   |cons r a=>
    obtain⟨g,f⟩:=ih a e;obtain⟨tk,rfl⟩:=r;exact⟨.cons _ _ g,by rw[lC1,lC1,f]⟩
  |_=>cases h
def M4:G1:=λd S=>match dQ S d with
 |some (M,xs)=>(mM xs).bind λns=>if ns.length+1<scanBound then Z (.ref S.length,S++[.iset (ddI ns)])else Y
 |_=>Y
def NH:G1:=λd S=>match d with
 | .ref n=>match S[n]? with
  |some (.iset xs)=>Z (.int xs.length,S)
  |_=>eB d S
 |_=>eB d S
def rX:G2:=λd e S=>match d,e with
 | .ref n,.int k=>match S[n]? with
  |some (.lst xs)=>if-(2^63)<=k/\k<2^63/\xs.length*k.toNat<=da then Z (.ref S.length,S++[.lst (aP k.toNat xs).flatten])else Y
  |_=>Y
 |_,_=>Y
theorem dI.rep{K:Fg1}{H:Hp}{mu:List c4}{ds:List D}{vs:List V}(r:dI K H mu ds vs):∀k:Nat,dI K H mu (aP k ds).flatten (aP k vs).flatten
 |0=>.nil
 |k+1=>by rw[aZ,aZ,a0,a0];exact dI.append r (dI.rep r k)
theorem HY:fQ X (binaryOp .Mult) (r2 X.K (b2 rX)):=by
 intro ag s σ H x y u w Q I m j h;obtain⟨mu,S,d,e,r,q,i,r2,b,a,hc⟩:=qp h;unfold rX at a;split at a
 ·rename_i n k;split at a
  ·rename_i xs l;split at a
   ·rename_i c;cases a;cases i with
    |ref o=>
     cases r2;obtain⟨vs,g,t⟩:=b.lst l o;refine HJ ag s σ H _ _ u w Q I m j ⟨_,k,vs,O,O,g,c.1,c.2.1,by rw[<- t.length];exact c.2.2,λp f=>?_⟩;exact hc _ _ (mu++[p]) (Ext.new_ f) (.ref (gi b.len p)) (b.newL (dI.rep t k.toNat) f)
   ·cases a
  ·cases a
 ·cases a
end
@[elab_as_elim] theorem On {P:List cZ->Prop}{us:List cZ}(l:us.length=0)(f:P []):P us:=by
 cases us with
 |nil=>exact f
 |cons _ _=>cases l
@[elab_as_elim] theorem NF {P:List cZ->Prop}{us:List cZ}(l:us.length=1)(f:∀a,P [a]):P us:=by
 cases us with
 |nil=>cases l
 |cons a us=>exact On (P:=λus=>P (a::us)) (Nat.succ.inj l) (f a)
@[elab_as_elim] theorem NE {P:List cZ->Prop}{us:List cZ}(l:us.length=2)(f:∀a b,P [a,b]):P us:=by
 cases us with
 |nil=>cases l
 |cons a us=>exact NF (P:=λus=>P (a::us)) (Nat.succ.inj l) (f a)
@[elab_as_elim] theorem MU {P:List cZ->Prop}{us:List cZ}(l:us.length=3)(f:∀a b c,P [a,b,c]):P us:=by
 cases us with
 |nil=>cases l
 |cons a us=>exact NE (P:=λus=>P (a::us)) (Nat.succ.inj l) (f a)
@[elab_as_elim] theorem ND {P:List cZ->Prop}{us:List cZ}(l:us.length=4)(f:∀a b c d,P [a,b,c,d]):P us:=by
 cases us with
 |nil=>cases l
 |cons a us=>exact MU (P:=λus=>P (a::us)) (Nat.succ.inj l) (f a)
@[elab_as_elim] theorem NC {P:List cZ->Prop}{us:List cZ}(l:us.length=5)(f:∀a b c d e,P [a,b,c,d,e]):P us:=by
 cases us with
 |nil=>cases l
 |cons a us=>exact ND (P:=λus=>P (a::us)) (Nat.succ.inj l) (f a)
end Mi
namespace HT
open PySem PySem.Spec PyProof.Rows
variable{prog:c5}{w:c7}{A:c6}{E:cZ->c3->Prop}{s:c3}
theorem mx{sl:c4}{t:Tok}{n:Nat}{Q:Int×Int×Nat->c3->Prop}(hs:s.heap.IsSliceOf sl .none .none (.int (-1) t))(h:Q ((n:Int)-1,-1,n) s):db (model prog w) A (Builtin.Slice.sliceApplied (.ref sl) (pure (n:Int))) Q E s:=by
 obtain⟨d,a,c,b⟩:=id hs;unfold Builtin.Slice.sliceApplied Builtin.Slice.sliceFields;refine wB1 (wB1 (wpAny_field a b (x:=.none) O (wB1 (wpAny_field a b (x:=.none) O (wB1 (wpAny_field a b (x:=.int (-1) t) O (wP1 ?_)))))));refine wB1 (iG (.int (-1) t) ?_);show db _ _ (if((-1:Int) == 0)=M then _ else _) _ _ s;rw[aj (by decide)];refine wB1 (iG .none (wB1 (iG .none (wB1 (wP1 ?_)))));show db _ _ (pure ((n:Int)-1,(-1:Int),Builtin.Slice.slicePlaces ((n:Int)-1) (-1) (-1))) _ _ s;have e:Builtin.Slice.slicePlaces ((n:Int)-1) (-1) (-1)=n:=by
  unfold Builtin.Slice.slicePlaces;have h1:¬ (-1:Int)>0:=by lia
  have h2: -(-1:Int)=1:=rfl;simp only[h1,if_false,h2,Int.ediv_one];split<;>lia
 rw[e];exact wP1 h
theorem CN{α β:Type}{f g:α->Option β}:∀l:List α,(∀m,m∈l->f m=g m)->l.filterMap f=l.filterMap g:=by
 intro l
 induction l with
 |nil=>intro _;rfl
 |cons x l ih=>intro h;rw[aD,aD,h x (mS1 ..),ih λm a=>h m (mC1 _ a)]
theorem uK(xs:Array cZ):((af xs.size).filterMap λ(m:Nat)=>xs[(((xs.size:Int)-1)+(m:Int)*(-1)).toNat]?).toArray=xs.toList.reverse.toArray:=by
 congr 1
 have e:((af xs.size).filterMap λ(m:Nat)=>xs[(((xs.size:Int)-1)+(m:Int)*(-1)).toNat]?)=(af xs.size).filterMap λm=>xs.toList.reverse[m]?:=by
  apply CN;intro m a;have a:=aB.mp a;rw[List.getElem?_reverse (by rw[aI];exact a),aT1,aI]
  congr 1
  lia
 rw[e];have:=pick_run xs.toList.reverse.toArray 0 xs.size;rw[aV]at this;have b:((λx=>xs.toList.reverse.toArray[x]?)∘λx=>0+x)=λm=>xs.toList.reverse[m]?:=by funext m;simp
 rw[b]at this;rw[this];simp only[List.drop_zero];exact b7 (by simp)
theorem l0 {t sl:c4}{items:Array cZ}{tk:Tok}{Q:cZ->c3->Prop}(ht:IsTup s.heap t items)(hs:s.heap.IsSliceOf sl .none .none (.int (-1) tk))
  (h:Q (.ref s.heap.objs.size) {s with heap:=s.heap.push {cls:=.type "tuple",data:=.seq items.toList.reverse.toArray}})
  (hsz:items.size<=da):db (model prog w) A (getItem (.ref t) (.ref sl)) Q E s:=by
 have a:sizeOk (.seq items.toList.reverse.toArray):=by
  show items.toList.reverse.toArray.size<=da;rw[sT1,b8,aI];exact hsz
 obtain⟨g,b,e,f⟩:=id hs;have d:s.TypeIs (.ref sl) "slice":=⟨g,b,e⟩;unfold getItem
 try with_reducible refine wpAny_holding ?_
 first|refine wB1 (wP1 ?_)|skip
 refine wB1 (wpAny_sequenceKey ht.typeIs (by decide) ?_);refine wB1 (wpAny_callSpecial?_slot (name:=Str.ofString "__getitem__") ht.typeIs PyProof.Rows.slot_tuple_getitem
  (wE1 PyProof.Rows.slot_tuple_getitem ht.typeIs entry_tuple_getitem ?_ (args_tuple_getitem _ _)))
 show db _ _ (Builtin.Tuple.tupleItemsOf (.ref t) >>= _) _ _ s;refine wB1 (tupleItemsOf_ ht ?_);refine wB1 (wpAny_typeOf d ?_);rw[ak (by decide)];refine wB1 (mx hs ?_);have c:¬ (((items.size:Int)-1 == 0&&(-1:Int) == 1&&items.size == items.size)=M):=by
  intro q;rw[bA1,bA1]at q;exact absurd (eq_of_beq q.1.2) (by decide)
 show db _ _ (if((items.size:Int)-1 == 0&&(-1:Int) == 1&&items.size == items.size)=M then _ else _) _ _ s;rw[aj c,uK]
 first
  |exact wB1 (m:=Builtin.Tuple.tupleExact _) (wO1 (wP1 ⟨_,rfl,wP1 h⟩) a)
  |exact wB1 (m:=Builtin.Tuple.tupleExact _) (wO1 (wB1 (wP1 (wP1 ⟨_,rfl,wP1 h⟩))) a)
  |exact wB1 (wB1 (m:=Builtin.Tuple.tupleExact _) (wO1 (wP1 (wP1 ⟨_,rfl,wP1 h⟩)) a))
  |exact wB1 (wB1 (m:=Builtin.Tuple.tupleExact _) (wO1 (wP1 ⟨_,rfl,wP1 h⟩) a))
end HT
namespace Mi
open PySem PySem.Spec PyProof.Rows L2
section
variable{X:Cx}
theorem um:∀{xs:List V} {a:List cZ},d5 xs a->d5 xs.reverse a.reverse:=by
 intro xs
 induction xs with
 |nil=>intro a r;cases r;exact .nil
 |cons x xs ih=>
  intro a r;cases r with
  |cons b r2=>rw[aY,aY];exact(ih r2).append (.cons b .nil)
end
end Mi
namespace HT
open PySem PySem.Spec PyProof.Rows
section
variable{prog:c5}{w:c7}{A:c6}{R:Result->c3->Prop}{I ax L:c4}{xs:Array cZ}
end
section
variable{prog:c5}{w:c7}{A:c6}{E:cZ->c3->Prop}{s:c3}
end
end HT
namespace Mi
open PySem PySem.Spec PyProof.Rows L2
section
variable{X:Cx}
def Fg:G1:=λd S=>match d with
 | .int i=>if i.natAbs.log2<1920 then Z (.str (toString i),S)else Y
 |_=>Y
theorem LC:eN X (.type "str") (rN X.K (b1 Fg)):=by
 intro ag s σ H xs e Q I r h;obtain⟨x,mu,S,d,j,g,rfl,c,b,a,hc⟩:=zi h;cases d with
 |int i=>
  dsimp only[Fg]at a;split at a
  ·rename_i f;cases a;cases c;exact tV ag s σ H _ e Q I r ⟨_,O,f,hc.now (.str _) b⟩
  ·cases a
 |_=>cases a
end
section
variable{elt tg iter tg2 iter2 tg3 iter3:Expr}{ifs ifs2 ifs3:List Expr}{scope:dj}{pos:Pos}
end
section
variable{X:Cx}
end
def zJ(a:Int):List Int->List Int
 |[]=>[a]
 |b::l=>if a<=b then a::b::l else b::zJ a l
def i3:List Int->List Int
 |[]=>[]
 |a::l=>zJ a (i3 l)
theorem mO(a:Int):∀l:List Int,(zJ a l).Perm (a::l)
 |[]=>.refl _
 |b::l=>by
  rw[zJ];split
  ·exact .refl _
  ·exact((mO a l).cons b).trans (.swap _ _ _)
theorem fJ:∀l:List Int,(i3 l).Perm l
 |[]=>.refl _
 |a::l=>(mO a _).trans ((fJ l).cons a)
theorem ym{a:Int}:∀{l:List Int},l.Pairwise (· <= ·)->(zJ a l).Pairwise (· <= ·)
 |[],_=>List.pairwise_singleton _ _
 |b::l,h=>by
  rw[b9]at h;rw[zJ];split
  ·rename_i d;rw [b9,b9];exact ⟨fun x c=>by
    rcases aE.mp c with z|z
    ·lia
    ·have:=h.1 x z;lia,h.1,h.2⟩
  ·rename_i d;rw[b9];refine⟨λx c=>?_,ym h.2⟩;rcases aE.mp ((mO a l).mem_iff.mp c)with z|z
   ·lia
   ·exact h.1 x z
theorem lM:∀l:List Int,(i3 l).Pairwise (· <= ·)
 |[]=>.nil
 |a::l=>ym (lM l)
theorem og:∀{a b:List Int},a.Perm b->a.Pairwise (· <= ·)->b.Pairwise (· <= ·)->a=b
 |[],b,p,_,_=>(List.nil_perm.mp p).symm
 |x::a,[],p,_,_=>absurd p.length_eq (by simp)
 |x::a,y::b,p,h1,h2=>by
  rw[b9]at h1 h2;have e:x=y:=by
   have f:=p.mem_iff.mp (mS1 (a:=x) (l:=a));have d:=p.mem_iff.mpr (mS1 (a:=y) (l:=b));rcases aE.mp f with z|z
   ·exact z
   ·rcases aE.mp d with c|c
    ·exact c.symm
    ·have:=h2.1 x z;have:=h1.1 y c;lia
  subst e;rw[og (List.perm_cons x |>.mp p) h1.2 h2.2]
def lZ:List D->Option (List Int)
 |[]=>Z []
 | .int i::l=>(lZ l).map λt=>i::t
 |_=>Y
def kJ:G1:=λd S=>match d with
 | .ref n=>match S[n]? with
  |some (.lst xs)=>(lZ xs).bind λns=>if ns.length<64 then Z (.ref S.length,S++[.lst ((i3 ns).map D.int)])else Y
  |_=>Y
 |_=>Y
section
variable{X:Cx}
theorem rP{K:Fg1}{H:Hp}{mu:List c4}:∀{ds:List D} {vs:List V} {a:List cZ} {ns:List Int},dI K H mu ds vs->d5 vs a->lZ ds=Z ns->IntsAre a ns:=by
 intro ds
 induction ds with
 |nil=>intro vs a ns r v h;cases r;cases v;cases h;exact .nil
 |cons d ds ih=>
  intro vs a ns r v h;cases r with
  |cons b t=>
   cases v with
   |cons f c=>
    cases b
    case int i=>
     obtain⟨m,e,h⟩:=oM1.mp h;subst h;obtain⟨tk,rfl⟩:=f;exact .cons i tk (ih t c e)
    all_goals cases h
theorem rR:∀{us:List cZ} {ns:List Int},IntsAre us ns->d5 (ns.map V.int) us:=by
 intro us ns h
 induction h with
 |nil=>exact .nil
 |cons i t _ ih=>exact .cons ⟨t,O⟩ ih
theorem zI:∀{ds:List D} {ns:List Int},lZ ds=Z ns->ns.length=ds.length:=by
 intro ds
 induction ds with
 |nil=>intro ns h;cases h;rfl
 |cons d ds ih=>
  intro ns h;cases d with
  |int i=>
   obtain⟨m,e,h⟩:=oM1.mp h;subst h;rw[lC1,lC1,ih e]
  |_=>cases h
theorem vL:eN X (.builtin "sorted") (rN X.K (b1 kJ)):=by
 intro ag s σ H xs am Q I r h;obtain⟨x,mu,S,d,G,E,rfl,C,m,c,hc⟩:=zi h;cases d with
 |ref n=>
  dsimp only[kJ]at c;split at c
  ·rename_i ds D;obtain⟨ns,v,c⟩:=oB1.mp c;split at c
   ·rename_i K;cases c;have e:dQ S (.ref n)=Z (M,ds):=by simp only[dQ,D]
    obtain⟨a,vs,rfl,q,t⟩:=dJ C m e;obtain⟨u,rfl,r2⟩:=im r;cases r2;obtain⟨f,y,B,L⟩:=I.list q;have z:=rP t y v;have w:f.length=ns.length:=by
     rw[<- y.length,<- t.length,zI v]
    refine sorted_ints B.isList z (by lia) λout l p A i=>?_;have k:l=i3 ns:=og (A.trans (fJ ns).symm) i (lM ns);subst k;obtain⟨ep,j⟩:=sortedAll_at s.heap f out;have g:=I.hok.fresh (bc s.heap.objs.size);refine⟨.ref (s.heap.objs.size+1),_,I.laid (t':=s.toks) (o:=.lst ((i3 ns).map V.int)) (λb F q=>sortedAll_old q) (bc _) ?_,O,hc _ _ (mu++[_]) (Ext.new_ g) (.ref (gi m.len _)) (m.newL (kB _) g)⟩;refine⟨?_,out.toList,ep,rR p,by rw[Array.toArray_toList];exact j⟩;rw[lM1,(fJ ns).length_eq,sizeLine_eq];lia
   ·cases c
  ·cases c
 |_=>cases c
end
end Mi
namespace Mi
open PySem PySem.Spec PyProof.Rows L2
theorem zk(its:List cZ):slicePick its.toArray Y Y (Z (-1))=its.reverse.toArray:=by
 have h:=HT.uK its.toArray;rw[sT1]at h;unfold slicePick;have b:sliceBounds Y Y (Z (-1)) its.toArray.size=(((its.length:Nat):Int)-1,-1,-1):=by
  rw[sT1];unfold sliceBounds;have h1:¬ ((Z (-1:Int)).getD 1>0):=by decide
  simp only[h1,if_false];rfl
 rw[b];unfold sliceRange;have hc:(if((its.length:Nat):Int)-1 > -1 then(((its.length:Nat):Int)-1 - -1 - -1-1)/(- -1)else 0).toNat=its.length:=by
  have h2: - (-1:Int)=1:=rfl;rw[h2,Int.ediv_one];split<;>lia
 dsimp only;rw[aj (by decide),hc,aV];have e:((λx=>its.toArray[x]?)∘λ(k:Nat)=>((its.length:Int)-1 + -1*(k:Int)).toNat)=λ(m:Nat)=>its.toArray[(((its.length:Int)-1)+(m:Int)*(-1)).toNat]?:=by
  funext m
  have a:((its.length:Int)-1 + -1*(m:Int)).toNat=(((its.length:Int)-1)+(m:Int)*(-1)).toNat:=by rw[Int.mul_comm]
  show its.toArray[((its.length:Int)-1 + -1*(m:Int)).toNat]?=its.toArray[(((its.length:Int)-1)+(m:Int)*(-1)).toNat]?;rw[a]
 rw[e,h]
section
variable{X:Cx}
def J3(K:Fg1)(te tk:TE):TE:=fun σ H Q=>te σ H λx H1=>tk σ H1 λk H2=>k = .int (-1)/\((∃a xs,x = .ref a/\kP K H2 a xs /\ ∀p,H2 p=Y->Q (.ref p) (upd H2 p (.tup xs.reverse)))\/(∃a xs,x = .ref a/\mY K H2 a xs /\ ∀p,H2 p=Y->Q (.ref p) (upd H2 p (.lst xs.reverse))))
theorem wz{e l:Expr}{te tk:TE}{pos p2:Pos}(he:PE X e te)(hk:PE X l tk):PE X (.Subscript e (.Slice Y Y (Z l) p2) pos) (J3 X.K te tk):=by
 intro ag s σ H Q I h;refine Subscript_ (ff (he ag s σ H _ I h) λv y ⟨x,H1,A,p,B⟩=>?_);refine wpAny_Slice ?_;rw[evalPart_none];refine wP1 ?_;refine wP1 ?_;rw[evalPart_some];refine ff (hk ag y σ H1 _ A B) λu c ⟨k,H2,z,rk,n⟩=>?_;obtain⟨rfl,n⟩:=n;obtain⟨t,rfl⟩:=rk;have f:Inv X ag σ H2 {c with heap:=c.heap.push {cls:=.type "slice",data:=.fields #[.none,.none,.int (-1) t]}}:=z.kept (t':=c.toks) λb w q=>hP1 _ q;rcases n with⟨a,xs,rfl,m,q⟩|⟨a,xs,rfl,m,q⟩
 ·cases p;obtain⟨g,r,i,j⟩:=f.tuple m;have d:g.toArray.size=xs.length:=by rw[sT1];exact r.length.symm
  show db (model X.prog X.w) X.A (subscriptTail e (.Slice Y Y (Z l) p2) (.ref a) (.ref c.heap.objs.size)) (EP X ag σ Q) X.xe {c with heap:=c.heap.push {cls:=.type "slice",data:=.fields #[.none,.none,.int (-1) t]}};refine tail_any (ops:=[.ref a,.ref c.heap.objs.size]) i.typeIs PyProof.Rows.slot_tuple_getitem.lookup ?_ (by with_unfolding_all rfl);refine HT.l0 i (Heap.IsSliceOf.new ..) ?_ (by rw[d];exact j);refine⟨.ref _,_,f.laid (t':=c.toks) (o:=.tup xs.reverse) (λb w q=>hP1 _ q) (nR1 _) ?_,O,q _ (f.hok.fresh (nR1 _))⟩;exact⟨by rw[b8];exact j,_,um r,IsTup.new _ _⟩
 ·cases p;obtain⟨g,r,i,j⟩:=f.list m;have d:=r.length;show db (model X.prog X.w) X.A (subscriptTail e (.Slice Y Y (Z l) p2) (.ref a) (.ref c.heap.objs.size)) (EP X ag σ Q) X.xe {c with heap:=c.heap.push {cls:=.type "slice",data:=.fields #[.none,.none,.int (-1) t]}};refine tail_any (ops:=[.ref a,.ref c.heap.objs.size]) i.isList.typeIs slot_list_getitem.lookup ?_ (by with_unfolding_all rfl);refine wpAny_getItem_list_slice i.isList (Heap.IsSliceOf.new ..) .none .none (.int (-1) t) (by decide) ?_ (by rw[sT1];lia);rw[zk];refine⟨.ref _,_,f.laid (t':=c.toks) (o:=.lst xs.reverse) (λb w q=>hP1 _ q) (nR1 _) ?_,O,q _ (f.hok.fresh (nR1 _))⟩;exact⟨by rw[b8];exact j,_,0,um r,hS1 _ O⟩
def Kn(S:dr)(d k:D):Option (D×dr):=match k with
 | .int i=>if i = -1 then(dQ S d).map λp=>if p.1=M then(.ref S.length,S++[.lst p.2.reverse])else(.tup p.2.reverse,S)else Y
 |_=>Y
def Go(m a:FE):FE:=λr S=>(m r S).bind λp=>(a r p.2).bind λb=>Kn b.2 p.1 b.1
theorem uj{e w:Expr}{m a:FE}{pos p2:Pos}(h:XE X e m)(D:XE X w a):XE X (.Subscript e (.Slice Y Y (Z w) p2) pos) (Go m a):=
 ⟨eP (wz h.h D.h) <| by
  rintro σ H Q ⟨r,mu,S,d,G,s,B,b,hc⟩;obtain⟨⟨C,o⟩,y,b⟩:=oB1.mp b;obtain⟨⟨n,x⟩,F,b⟩:=oB1.mp b;refine⟨r,mu,S,C,o,s,B,y,λv H1 mu1 l A z=>?_⟩;refine⟨r,mu1,o,n,x,s.ext l,z,F,λu H2 g x2 r2 j=>?_⟩;cases n with
  |int i=>
   dsimp only[Kn]at b;split at b
   ·rename_i hi;subst hi;cases r2;refine⟨O,?_⟩;obtain⟨⟨k,xs⟩,E,b⟩:=oM1.mp b;obtain⟨c,vs,rfl,q,t⟩:=dJ (A.ext x2) j E;cases k with
    |true=>
     cases b;right;exact⟨c,vs,O,q,λp f=>hc _ _ (g++[p]) ((l.trans x2).trans (Ext.new_ f)) (.ref (gi j.len p)) (j.newL t.reverse f)⟩
    |false=>
     simp only[bF1,if_false]at b;cases b;left;exact⟨c,vs,O,q,λp f=>hc _ _ g ((l.trans x2).trans (Ext.fresh f)) (.tup (kP.of d9) (t.reverse.ext (Ext.fresh f))) (j.fresh f)⟩
   ·cases b
  |_=>cases b⟩
end
theorem mr(n:Nat):∀ns:List Int,D.unds n (ns.map D.int)=M
 |[]=>rfl
 |_::ns=>by rw[mP1,D.unds,mr n ns];rfl
theorem yr{n:Nat}{d:D}{S:dr}(h:S.length=n):gc n (d,S)=(d,S):=by
 unfold gc;split
 ·rw[show(d,S).2=S from rfl,<- h,b0]
 ·rfl
theorem Ab{n:Nat}{f:FN}{ds:List D}{S S1:dr}{d:D}(h:f ds []=Z (d,S1))(hn:ds.length=n)(a:D.unds 0 ds=M)(hd:d.und 0=M):dv n f ds S=Z (d,S):=by
 unfold dv sm;rw[ak hn,ak a,h,oP1,ak hd]
theorem kf{n:Nat}{f:FN}{ds:List D}{S S1:dr}{d:D}(h:f ds []=Z (d,S1))(hn:ds.length=n)(a:D.unds 0 ds=M)(hd:d.und 0=J):dv n f ds S=Z (d.sh S.length,S++S1.map (Ob.sh S.length)):=by
 unfold dv sm;rw[ak hn,ak a,h,oP1,aj (by dsimp only;rw[hd];decide)]
theorem sf{n:Nat}{f:FN}{ds:List D}{S S1:dr}{d:D}(h:f ds S=Z (d,S1))(hn:ds.length=n)(a:D.unds 0 ds=J):dv n f ds S=Z (gc S.length (d,S1)):=by
 unfold dv sm;rw[ak hn,aj (by rw[a];decide),h,oP1]
theorem Ae{n:Nat}{f:FN}{ds:List D}{S S1:dr}{d:D}(h:f ds S=Z (d,S1))(hn:ds.length=n)(b:D.unds 0 ds=J)(a:S1.length=S.length):dv n f ds S=Z (d,S1):=by
 rw[sf h hn b,yr a]
theorem rE{i j:Int}(h1: -(2^64)<i)(h2:i<2^64):eS i j=M:=by
 unfold eS;simp only[bR,bA1,al];exact .inl (.inl ⟨h1,h2⟩)
theorem u5{i j:Int}(h1: -(2^64)<j)(h2:j<2^64):eS i j=M:=by
 unfold eS;simp only[bR,bA1,al];exact .inl (.inr ⟨h1,h2⟩)
theorem fS{S:dr}{n:Nat}{xs:List D}(h:S[n]?=Z (.lst xs)):qx S [(n,xs)]=M:=by
 rw[qx,h];simp[D.sames_refl,qx]
def ja(n:Nat):Nat->List D
 |0=>[]
 |k+1=>.ref n::ja (n+1) k
open Classical in
def Ny(ws:List cZ)(x:cZ):Nat:=ws.findIdx λy=>decide (y=x)
def kR(ws:List cZ)(xs:Array Keyed)(i:Nat):Nat:=(xs[i]?.map λp=>Ny ws p.1).getD 0
def Up(ws:List cZ)(xs:Array Keyed)(k:Nat):Prop:=∀i j,i<j->j<k->kR ws xs i<kR ws xs j
section
variable{prog:c5}{w:c7}{A:c6}{E:cZ->c3->Prop}{s:c3}{κ:SortKind}{ws:List cZ}{a₀:Array Keyed}
end
section
variable{prog:c5}{w:c7}{A:c6}{E:cZ->c3->Prop}{s:c3}
end
section
variable{prog:c5}{w:c7}{A:c6}{E:cZ->c3->Prop}{R:Result->c3->Prop}
end
section
variable{prog:c5}{w:c7}{A:c6}{E:cZ->c3->Prop}{s:c3}
end
mutual
theorem AH{n:Nat}:∀k:TK,(tkD k).und n=M
 | .non=>rfl
 | .int _=>rfl
 | .tup xs=>by rw[tkD,D.und];exact xG xs
theorem xG{n:Nat}:∀ks:List TK,D.unds n (lK ks)=M
 |[]=>rfl
 |k::ks=>by rw[lK,D.unds,AH k,xG ks];rfl
end
structure Pr where
 k:TK
 d:D
 ka:c4
 u:cZ
 vv:V
 a:c4
section
variable{X:Cx}
end
def JK(H:Hp)(a:c4):Prop:=(∃kvs,H a=Z (.dK kvs)) \/ ∃xs,H a=Z (.ext (iW a xs))
section
variable{X:Cx}
theorem E7{ag:List (c4×Obj)}{σ:L2.St}{H:Hp}{s:c3}{a:c4}(I:Inv X ag σ H s)(h:JK H a):(a == sysModules)=J /\ ∃o,s.heap.get? a=Z o/\o.ExactDict:=by
 rcases h with⟨kvs,e⟩|⟨xs,e⟩
 ·obtain⟨_,b,vs,_,o,es,ep,h1,h2,_⟩:=I.hok a _ e;exact⟨b,o,h1,h2⟩
 ·obtain⟨⟨b,_,o,es,ep,h1,h2,_⟩,_⟩:=(show eM X.prog X.w H s.heap a (.ext (iW a xs))from I.hok a _ e);exact⟨b,o,h1,h2⟩
end
section
variable{prog:c5}{w:c7}{A:c6}{E:cZ->c3->Prop}{s:c3}
end
section
variable{prog:c5}{w:c7}{A:c6}{E:cZ->c3->Prop}{R:Result->c3->Prop}
end
section
variable{X:Cx}
def Mv(X:Cx)(td ty tx:TE):TE:=fun σ H Q=>td σ H λx H1=>∃a,x = .ref a/\JK H1 a/\ty σ H1 λy H2=>tx σ H2 λz H3=>
 ∀ag s u r,Inv X ag σ H3 s->dS y u->dS z r->db (model X.prog X.w) X.A (call (.builtin "dict.get") [.ref a,u,r]) (EP X ag σ Q) X.xe s
theorem HC {o e f:Expr}{apos cpos:Pos}{td ty tx:TE}(ho:PE X o td)(he:PE X e ty)(hf:PE X f tx)(m:M2 X o "get" apos e f cpos):PE X (.Call (.Attribute o "get" apos) [e,f] [] cpos) (Mv X td ty tx):=by
 intro ag s σ H Q I h;refine wpAny_Call_method m.base m.few m.line PySem.F.plainAttrs_dict PySem.F.slot_dict_get PySem.F.type_dict_get (ff (ho ag s σ H _ I h) λu p ⟨x,H1,j,A,a,ex,d,C⟩=>?_);subst ex;obtain rfl:u=Value.ref a:=A;obtain⟨_,o',i,c⟩:=E7 j d;refine⟨⟨o',i,c.1⟩,λb k=>by cases k;exact⟨o',i,c.2.1⟩,?_⟩;rw[m.trees];refine Calls.callWith_builtin O (Calls.evalArgs_plain (Calls.spliced_cons (ff (he ag p σ H1 _ j C) λr D ⟨y,H2,q,t,n⟩=>
  Calls.spliced_cons (ff (hf ag D σ H2 _ q n) λB w ⟨z,E,v,l,g⟩=>Calls.spliced_nil ?_))))
 exact g ag w r B v t l
def zX(S:dr)(n:Nat):Option (List (TK×D)):=match S[n]? with
 |some (.dcT kvs)=>Z kvs
 |some (.dct [])=>Z []
 |_=>Y
theorem yB{H:Hp}{mu:List c4}{S:dr}{n:Nat}{a:c4}{kvs:List (TK×D)}(hs:Sim X.K H mu S)(hn:mu[n]? = some a)(h:zX S n=some kvs):
  JK H a /\ ∃xs,KT X.K H mu kvs xs /\ ∀ag σ s,Inv X ag σ H s->(a == sysModules)=J/\s.heap.DictOfH (fY X.prog X.w) a xs:=by
 unfold zX at h;split at h
 ·rename_i ks d;cases h;obtain⟨xs,h1,h2,l⟩:=hs.dcT d hn;exact⟨.inr ⟨xs,h1⟩,xs,h2,λag σ s I=>vE I h1 h2⟩
 ·rename_i d;cases h;obtain⟨ws,h1,h2⟩:=hs.dct d hn;cases h2;refine⟨.inl ⟨[],h1⟩,[],.nil,λag σ s I=>?_⟩;obtain⟨_,b,vs,i,o,es,ep,k,f,g,j⟩:=I.hok a _ h1;cases i;have c:es.toList=[]:=ca.mp (by have:=j.2.1.length;simpa using this);exact⟨b,o,es,ep,k,f,g,c,λx e=>(by cases e),bA⟩
 ·cases h
def wR(m a b:FE):FE:=λr S=>(m r S).bind λp=>match p.1 with
 | .ref n=>(zX p.2 n).bind λ_=>(a r p.2).bind λq=>(b r q.2).bind λt=>(zX t.2 n).bind λkvs=>(keyT q.1).map λk=>((dZ kvs k).getD t.1,t.2)
 |_=>Y
theorem yY {o e f:Expr}{apos cpos:Pos}{m a b:FE}(aq:X.A.units+64<cLine)(ho:XE X o m)(he:XE X e a)(hf:XE X f b)(hm:M2 X o "get" apos e f cpos:=by exact⟨O,O,O,O⟩):XE X (.Call (.Attribute o "get" apos) [e,f] [] cpos) (wR m a b):=
 ⟨eP (HC ho.h he.h hf.h hm) <| by
  rintro σ H Q ⟨r,mu,S,d,S',he,wq,hm,hc⟩;obtain⟨⟨d1,G⟩,K,hm⟩:=oB1.mp hm;refine⟨r,mu,S,d1,G,he,wq,K,λv1 H1 mu1 i P C=>?_⟩;dsimp only at hm;split at hm
  ·rename_i n;obtain⟨kv0,y,hm⟩:=oB1.mp hm;cases P with
   | @ref _ F D=>
    refine⟨F,O,(yB C D y).1,?_⟩;obtain⟨⟨N,B⟩,e2,hm⟩:=oB1.mp hm;obtain⟨⟨L,S3⟩,W,hm⟩:=oB1.mp hm;refine⟨r,mu1,G,N,B,he.ext i,C,e2,λv2 H2 l x2 r2 U=>?_⟩;refine⟨r,l,B,L,S3,(he.ext i).ext x2,U,W,λao j g h au x=>?_⟩;obtain⟨kvs,en,hm⟩:=oB1.mp hm;obtain⟨k,R,hm⟩:=oM1.mp hm;cases hm;intro ag s u w I V q;obtain⟨_,xs,E,hd⟩:=yB x (h.at (x2.at D)) en;obtain⟨t,am⟩:=hd ag σ s I;obtain⟨b,rfl,rfl,_,_,hi⟩:=j7 I (r2.ext h) V R;refine call_meetsIn PySem.F.slot_dict_get am.typeIs PySem.F.entry_dict_get (PySem.F.args_dict_get_3 _ _ _) (meetsH_dict_get_default (fY X.prog X.w) F b t w) ⟨jA aq,k,xs,hi,am,?_⟩;show EP X ag σ Q (((atKey xs k).map (·.2)).getD w) _;cases ez:dZ kvs k with
    |none=>
     have c:=(E.look (k:=k)).2;rw[ez]at c hc;have A:atKey xs k=Y:=by
      cases A:atKey xs k with
      |none=>rfl
      |some _=>rw[A]at c;cases c
     rw[A];exact⟨ao,j,I.tok _,q,hc _ j g ((i.trans x2).trans h) au x⟩
    |some z=>
     obtain⟨p,v,e4,rv,T⟩:=E.look.1 z ez;rw[ez]at hc;rw[e4];exact⟨v,j,I.tok _,rv,hc _ j g ((i.trans x2).trans h) T x⟩
  ·cases hm⟩
end
section
variable{X:Cx}{ag:List (c4×Obj)}{σ:L2.St}{H:Hp}{s:c3}{a:c4}{u v:HO}
end
section
variable{K:Fg1}{H H':Hp}{mu mu':List c4}{S:dr}{n:Nat}{a:c4}{o:Obj}{u:HO}
end
theorem xt.lt{xs:Array Nat}(h:xt xs){a b u v:Nat}(e:a<b)(d:xs[a]?=Z u)(c:xs[b]?=Z v):u<v:=by
 rw[<- aT1]at d c;obtain⟨g,d⟩:=gE1.mp d;obtain⟨f,c⟩:=gE1.mp c;have:=cb.mp h a b g f e;rw[d,c]at this;exact this
structure Bs (xs:Array Nat)(j i:Nat):Prop where
 le:i<=xs.size
 lo:∀k v,xs[k]?=some v->k<i->v<j
 hi:∀k v,xs[k]?=some v->i<=k->j<=v
theorem Bs.uniq{xs:Array Nat}{j i i':Nat}(h:Bs xs j i)(h':Bs xs j i'):i=i':=by
 rcases Nat.lt_trichotomy i i' with z|z|z
 ·have a:i<xs.size:=nL1 z h'.le;have e:=aG1 a;have:=h.hi _ _ e (nR1 _);have:=h'.lo _ _ e z;lia
 ·exact z
 ·have a:i'<xs.size:=nL1 z h.le;have e:=aG1 a;have:=h'.hi _ _ e (nR1 _);have:=h.lo _ _ e z;lia
theorem Db{xs:Array Nat}{j:Nat}(hr:xt xs):∀n lo hi:Nat,lo<=hi->hi<=xs.size->hi-lo<=n->(∀k v,xs[k]?=Z v->k<lo->v<j)->(∀k v,xs[k]?=Z v->hi<=k->j<=v)->Bs xs j (SetTable.below.go xs j n lo hi)
 |0,lo,hi,h1,h2,h,c,b=>by
  have:lo=hi:=by lia
  subst this;exact⟨h2,c,b⟩
 |n + 1,lo,hi,h1,h2,h,c,b=>by
  rw[SetTable.below.go];by_cases d:lo<hi
  ·rw[ak d];have f:(lo+hi)/2<xs.size:=by lia
   have a:=aG1 f;have g:xs.getD ((lo+hi)/2) j=xs[(lo+hi)/2]:=by simp[Array.getD,f]
   dsimp only;rw[g];by_cases hc:xs[(lo+hi)/2]<j
   ·rw[ak hc];refine Db hr n _ _ (by lia) h2 (by lia) (λk v e i=>?_) b;rcases bY k ((lo+hi)/2)with z|z
    ·have:=hr.lt z e a;lia
    ·have:k=(lo+hi)/2:=by lia
     subst this;rw[a]at e;cases e;exact hc
   ·rw[aj hc];refine Db hr n _ _ (by lia) (by lia) (by lia) c λk v e i=>?_;rcases bY ((lo+hi)/2) k with z|z
    ·have:=hr.lt z a e;lia
    ·have:k=(lo+hi)/2:=by lia
     subst this;rw[a]at e;cases e;lia
  ·rw[aj d];have:lo=hi:=by lia
   subst this;exact⟨h2,c,b⟩
theorem p7{xs:Array Nat}(hr:xt xs)(j:Nat):Bs xs j (SetTable.below xs j):=
 Db hr _ 0 _ (br _) (nR1 _) (by lia) (λ_ _ _ h=>absurd h (bF _)) λk v e h=>by
  have:=(Array.getElem?_eq_some_iff.mp e).1;lia
theorem Cr{α:Type}(xs:Array α)(p:Nat)(x:α):(SetTable.insertAt xs p x).toList=xs.toList.take p++x::xs.toList.drop p:=by
 unfold SetTable.insertAt;rw[Array.toList_append,cc,Array.toList_extract,Array.toList_extract];simp[List.extract_eq_drop_take];rw[b7 (by simp)]
theorem DU{xs:Array Nat}(hr:xt xs){j:Nat}(hn:xs[SetTable.below xs j]? ≠ Z j):xt (SetTable.insertAt xs (SetTable.below xs j) j):=by
 have b:=p7 hr j;unfold xt;rw[Cr,List.pairwise_append,b9];have lo:∀v∈xs.toList.take (SetTable.below xs j),v<j:=λv h=>by
  obtain⟨k,d⟩:=bB h;rw[List.getElem?_take]at d;split at d
  ·rename_i g;exact b.lo k v (by rw[<- aT1];exact d) g
  ·cases d
 have hi:∀v∈xs.toList.drop (SetTable.below xs j),j<v:=λv h=>by
  obtain⟨k,d⟩:=bB h;rw[List.getElem?_drop,aT1]at d;have h1:=b.hi _ v d (bC _ _);rcases bY j v with z|z
  ·exact z
  ·exfalso;have f:v=j:=by lia
   subst f;cases k with
   |zero=>exact hn d
   |succ k=>
    have l:SetTable.below xs v<xs.size:=by have:=(Array.getElem?_eq_some_iff.mp d).1;lia
    have e:=aG1 l;have:=b.hi _ _ e (nR1 _);have:=hr.lt (by lia) e d;lia
 refine⟨hr.sublist (aU _ _),⟨hi,hr.sublist (List.drop_sublist _ _)⟩,λa i c hc=>?_⟩;rcases aE.mp hc with z|z
 ·rw[z];exact lo a i
 ·exact bq (lo a i) (hi c z)
structure TS (l:Bool)(t:SetTable):Prop where
 up:xt t.place
 du:t.dummies = #[]
 ld:t.led=l
theorem u4{t:SetTable}(hd:t.dummies = #[])(j:Nat):SetTable.has t.dummies j=J:=by rw[hd];rfl
theorem re{t:SetTable}(hd:t.dummies = #[]){f:Nat->Int}{h:Int}:∀(n:Nat) (p:SetTable.Probe) (j:Nat) (d:Option Nat),p.dummy=Y->SetTable.probe.go t f h n p=Z (.empty j d)->d=Y/\t.place[SetTable.below t.place j]? ≠ Z j
 |0,p,j,d,_,e=>by rw[SetTable.probe.go]at e;cases e
 |n+1,p,j,d,hp,e=>by
  have a:(t.advance p).dummy=Y:=by
   unfold SetTable.advance;split
   ·exact hp
   ·dsimp only;exact hp
  rw[SetTable.probe.go]at e;unfold SetTable.slot at e;dsimp only at e;rw[u4 hd]at e;by_cases hc:(t.place[SetTable.below t.place p.j]? == Z p.j)=M
  ·rw[ak hc]at e;dsimp only at e;split at e
   ·cases e
   ·exact re hd n _ j d a e
  ·rw[aj hc,aj (by decide)]at e;dsimp only at e;cases e;refine⟨hp,λz=>hc ?_⟩;rw[z];simp
theorem Fo{t:SetTable}(hd:t.dummies = #[]){h:Int}{j:Nat}{b:Bool}(e:t.freeSlot h=Z (j,b)):t.place[SetTable.below t.place j]? ≠ Z j:=by
 unfold SetTable.freeSlot at e;split at e
 ·rename_i c d ep;obtain⟨rfl,a⟩:=re hd _ _ _ _ O ep;cases e;exact a
 ·cases e
theorem lJ{l:Bool}{t:SetTable}(h:TS l t)(n:Nat):TS l (t.standIn n):=by
 refine⟨?_,O,h.ld⟩;show(Array.range n).toList.Pairwise (· < ·);rw[Array.toList_range];exact cf
theorem JW{l:Bool}{t:SetTable}(h:TS l t)(n:Nat):TS l (t.orStandIn n):=by
 unfold SetTable.orStandIn;split
 ·exact h
 ·exact lJ h n
theorem GO{l:Bool}{t:SetTable}(ht:TS l t)(es:Array (Int×cZ))(h:Int)(x:cZ):TS l (layNew t es h x).2.1:=by
 unfold layNew;split
 ·rename_i j b e;show TS l ((t.put j).1.orStandIn _);refine JW (t:=(t.put j).1) ⟨?_,?_,ht.ld⟩ _
  ·exact DU ht.up (Fo ht.du e)
  ·show(if SetTable.has t.dummies j=M then _ else t.dummies) = #[];rw[u4 ht.du,aj (by decide)];exact ht.du
 ·exact lJ ht _
theorem tL{α:Type}(f:Nat->Option α):∀l:List Nat,((l.filterMap λj=>(f j).map (j,·)).map (·.1)).Sublist l
 |[]=>.slnil
 |a::l=>by
  rw[aD];cases f a with
  |none=>exact(tL f l).cons a
  |some x=>exact(tL f l).cons₂ a
theorem DG{l p:Bool}{m b d:Nat}{hs:Array Int}{t:SetTable}{a:Array Nat}(e:SetTable.laid m b d l p hs=Z (t,a)):TS l t:=by
 unfold SetTable.laid at e;obtain⟨c,_,e⟩:=oB1.mp e;cases e;refine⟨?_,O,O⟩;unfold xt;dsimp only;exact List.pairwise_lt_range.sublist (by simpa using tL (λj=>c.getD j Y) (af (m+1)))
theorem AM{l:Bool}{t:SetTable}(ht:TS l t)(es:Array (Int×cZ))(n:Nat):TS l (relayAll t es n).2.1:=by
 unfold relayAll;split
 ·rename_i b a e;dsimp only;split
  ·have:=DG e;rw[ht.ld]at this;exact this
  ·exact lJ ht _
 ·exact lJ ht _
theorem AN(l:Bool):TS l (SetTable.fresh 0 0 l):=⟨List.Pairwise.nil,O,O⟩
theorem FJ{xs:Array Nat}(hr:xt xs){i:Nat}(hi:i<xs.size):SetTable.below xs (xs[i]+1)=i+1:=by
 refine(p7 hr _).uniq ⟨hi,λk v e a=>?_,λk v e a=>?_⟩
 ·rcases bY k i with z|z
  ·have:=hr.lt z e (aG1 hi);lia
  ·have:k=i:=by lia
   subst this;rw[aG1 hi]at e;cases e;lia
 ·have:=hr.lt (show i<k by lia) (aG1 hi) e;lia
theorem Da{xs:Array Nat}(hr:xt xs):SetTable.below xs 0=0:=
 (p7 hr _).uniq ⟨br _,λk v e a=>absurd a (bF _),λk v e a=>br _⟩
def MX(e:Int×cZ):Int:=match e.2 with
 | .int k _=>k
 |_=>0
structure Els (es:Array (Int×cZ))(ns:List Int):Prop where
 el:∀e∈es.toList,∃k t,e=(hashInt k,Value.int k t)
 pm:(es.toList.map MX).Perm ns
theorem Els.of{P:c5}{w:c7}{es:Array (Int×cZ)}{ns:List Int}(h:Els es ns):ElemsOf (intKind P w) es.toList:=λe a=>by
 obtain⟨k,t,rfl⟩:=h.el e a;exact⟨⟨k,intKind_is _ _ _ _,O⟩,O⟩
theorem Els.size{es:Array (Int×cZ)}{ns:List Int}(h:Els es ns):es.size=ns.length:=by
 have:=h.pm.length_eq;rw[lM1,aI]at this;exact this
theorem Els.perm{es fs:Array (Int×cZ)}{ns:List Int}(h:Els es ns)(p:fs.toList.Perm es.toList):Els fs ns:=
 ⟨λe a=>h.el e (p.mem_iff.mp a),(p.map _).trans h.pm⟩
theorem Els.add{es fs:Array (Int×cZ)}{ns:List Int}(h:Els es ns){k:Int}{t:Tok}(p:fs.toList.Perm (es.push (hashInt k,.int k t)).toList):Els fs (ns++[k]):=by
 rw[cc]at p;refine⟨λe a=>?_,?_⟩
 ·rcases aF.mp (p.mem_iff.mp a)with z|z
  ·exact h.el e z
  ·simp at z;exact⟨k,t,z⟩
 ·refine(p.map _).trans ?_;rw[cg];exact h.pm.append (.refl _)
def kk(b:Bool)(p:c4)(ns:List Int)(h:df):Prop:=∃es ep t l,h.get? p=Z (stO es ep t)/\Els es ns/\es.size<scanBound/\t.fits es.size=M/\TS l t/\(b=J->l=M)
section
variable{P:c5}{w:c7}{A:c6}{E:cZ->c3->Prop}{s:c3}{b:Bool}{p:c4}{ns:List Int}
theorem Bi{es fs:Array (Int×cZ)}{ep:Nat}{t u:SetTable}{h:df}(e:h.get? p=Z (stO es ep t)):(h.update p (Obj.putSet fs u)).get? p=Z (stO fs (ep+1) u):=by
 have:=hW1 (Obj.putSet fs u) e (by rw[putSet_of fs u O];rfl);rw[putSet_of fs u O]at this;exact this
theorem gw{c:Bool}{Q:Unit->c3->Prop}(q:Q () s):db (model P w) A (match c with
  |true=>rule "set.scan.the-table-gave-way"
  |false=>pure ()) Q E s:=by cases c<;>first|exact wP1 q|exact wpAny_rule q
theorem Nf{k:Int}{tk:Tok}{Q:Bool->c3->Prop}(X:kk b p ns s.heap)(hr:ns.length+1<scanBound)(q:∀c h',Heap.SameBut p s.heap h'->kk b p (step_dedup ns k) h'->Q c {s with heap:=h'}):db (model P w) A (setAddHashed p (.int k tk) (hashInt k)) Q E s:=by
 obtain⟨es,ep,t,l,m,a,au,I,ao,H⟩:=X;have hz:=a.size;have el:ElemsOf (intKind P w) es.toList:=a.of;unfold setAddHashed setAddHashedIn;refine wpAny_holding (wB1 (wpAny_setState_of m O I ?_));dsimp only;rw[byScan_of (knd:=intKind P w) O au el,ak O];unfold setAddByScan;refine wB1 (wB1 (wpAny_rule (wB1 (wpAny_setScan_of (knd:=intKind P w) (k:=k) (intKind_is _ _ _ _) m O I el ?_))));cases hx:List.findIdx? (λe=>(intKind P w).is k e.2) es.toList with
 |some j=>
  obtain⟨T,h,_⟩:=List.findIdx?_eq_some_iff_getElem.mp hx;have D:k∈ns:=by
   refine a.pm.mem_iff.mp (ci.mpr ⟨_,bV T,?_⟩);obtain⟨k',aq,e⟩:=a.el _ (bV T);rw[e]at h ⊢;exact((intKind P w).inj _ _ _ h (intKind_is P w k' aq)).symm
  have G:step_dedup ns k=ns:=by unfold step_dedup;rw[ak (bU.mpr ⟨k,D,by simp⟩)]
  rw[G]at q;exact wP1 (wP1 (q _ s.heap (Heap.SameBut.refl p s.heap) ⟨es,ep,t,l,m,a,au,I,ao,H⟩))
 |none=>
  have G:step_dedup ns k=ns++[k]:=by
   unfold step_dedup;rw[aj λz=>?_];obtain⟨k',D,e⟩:=bU.mp z;have e:=beq_iff_eq.mp e;subst e;obtain⟨x,i,f⟩:=ci.mp (a.pm.mem_iff.mpr D);obtain⟨o,g,rfl⟩:=a.el x i;have f:o=k':=f;subst f;have:=List.findIdx?_eq_none_iff.mp hx _ i;rw[show(intKind P w).is o (hashInt o,Value.int o g).2=M from intKind_is _ _ _ _]at this;cases this
  rw[G]at q;have C:=layNew_perm t es (hashInt k) (.int k tk);have K:=layNew_fits t es (hashInt k) (.int k tk);have y:=GO ao es (hashInt k) (.int k tk);dsimp only;generalize layNew t es (hashInt k) (.int k tk)=L at C K y ⊢;obtain⟨fs,u,W,wq⟩:=L;dsimp only at C K y ⊢;have n:Els fs (ns++[k]):=a.add C;have am:fs.size<scanBound:=by rw[n.size,lA1];exact hr
  refine wB1 (gw ?_);have tail:∀ (c:Bool),db (model P w) A (do
    storeSet p fs u
    if (!W&&u.tooFull)=true then do
      (match (relayAll u fs (SetTable.grown fs.size)).2.2 with
       |true=>rule "set.scan.the-table-gave-way"
       |false=>pure ())
      storeSet p (relayAll u fs (SetTable.grown fs.size)).1 (relayAll u fs (SetTable.grown fs.size)).2.1
      pure (Z M)
     else pure (Z M)) (λr s'=>db (model P w) A (match r with
      |some d=>pure d
      |none=>setAddHashedIn p (.int k tk) (hashInt k) 99999) Q E s') E s:=λ_=>by
   refine wB1 (wpAny_storeSet_of m O ?_ (fits_of_scanBound am));have F:=Bi (fs:=fs) (u:=u) m;have S:=Heap.SameBut.update s.heap p (Obj.putSet fs u);split
   ·have p2:=relayAll_perm u fs (SetTable.grown fs.size);have B:=relayAll_fits u fs (SetTable.grown fs.size);have g:=AM y fs (SetTable.grown fs.size);generalize relayAll u fs (SetTable.grown fs.size)=L2 at p2 B g ⊢;obtain⟨N,v,V⟩:=L2;dsimp only at p2 B g ⊢;have U:=n.perm p2;have R:N.size<scanBound:=by rw[U.size,<- n.size];exact am
    refine wB1 (gw (wB1 (wpAny_storeSet_of F O ?_ (fits_of_scanBound R))));exact wP1 (wP1 (q _ _ (S.trans (Heap.SameBut.update _ p _)) ⟨N,_,v,l,Bi F,U,R,B,g,H⟩))
   ·exact wP1 (wP1 (q _ _ S ⟨fs,_,u,l,F,n,am,K,y,H⟩))
  split
  ·refine wB1 (wP1 ?_);exact tail M
  ·refine wB1 (wP1 ?_);exact tail M
end
section
variable{P:c5}{w:c7}{A:c6}{E:cZ->c3->Prop}{s:c3}
def byT(w:c7):Bool:=w.params.followText "set-order"
theorem Ep(x:cZ){G:cZ->c3->Prop}(q:G (.ref s.heap.objs.size) {s with heap:=s.heap.push (stO #[] 0 (.fresh 0 0 (!byT w)))}):
  de (model P w) A (.call (.builtin "set.__new__") ⟨[.type "set",x],[]⟩) (wants G E) s:=by
 refine codeAny_of_tree (?_:db _ A.in1 (do checkBuiltinCall "set.__new__" ⟨[.type "set",x],[]⟩;again (.builtin "set.__new__" ⟨[.type "set",x],[]⟩)) _ _ s);refine wB1 (wpAny_of_eq (PySem.F.newCall_set_1 x) (wP1 ⟨plainId_quiet PySem.F.plain_set_new _,wD1 PySem.F.entry_set_new (?_:_)⟩));rw[Around.under_plainId PySem.F.plain_set_new _];unfold Builtin.«set.__new__» Builtin.Frozenset.newClass;have a:=sub_set_self;obtain⟨b,g,d,tk,c⟩:=s;dsimp only
 wp_walk
 refine wpAny_askSetting (wP1 (?_:_));dsimp only;simp only[newObj];exact wB1 (wpAny_alloc (wP1 (wP1 q)))
set_option maxHeartbeats 3200000 in
theorem xi {l:c4}{its:Array cZ}{Q:cZ->c3->Prop}(H:s.heap.IsList l its)
  (f:∀d:c6,d.handled=A.handled->d.units<=A.units+2 -> ∀R:Result->c3->Prop,(∀s',Q (.ref s.heap.objs.size) s'->R (.ok (.ret .none)) s') ->
   de (model P w) d (.builtin "set.update.loop" ⟨[.ref s.heap.objs.size,.ref (s.heap.objs.size+1)],[]⟩) R {s with heap:=(s.heap.push (stO #[] 0 (.fresh 0 0 (!byT w)))).push {cls:=.type "list_iterator",data:=.fields #[.ref l,.int 0 0]}}):
  db (model P w) A (call (.type "set") [.ref l]) Q E s:=by
 obtain⟨W,ao,o⟩:=PySem.F.called_set.mro;have g:=PySem.F.called_set.made;have n:=PySem.F.called_set.sub
 refine wpAny_call (codeAny_of_tree (?_:db _ _ (callAny (.type "set") _) _ _ _));refine wP1 ⟨Code.quiet_builtin _ (by decide+kernel),wD1 PySem.F.entry_type_call (?_:_)⟩;rw[Around.under_plain (weight_type_call_type "set" [.ref l] []) O];have X:=PySem.F.called_set.notType;have S:=PySem.F.called_set.canCreate;have am:=PySem.F.typeCall_set_1 (.ref l)
 repeat(any_goals (first|wp_step|assumption))
 refine codeAny_mono (Ep (.ref l) (E:=E) (G:=λx k=>x = .ref s.heap.objs.size/\k={s with heap:=s.heap.push (stO #[] 0 (.fresh 0 0 (!byT w)))}) ⟨O,O⟩) λr k h=>?_;cases r with
 |error e=>exact h
 |ok I=>
  cases I with
  |ret x=>
   obtain⟨rfl,rfl⟩:=h;have p:(s.heap.push (stO #[] 0 (.fresh 0 0 (!byT w)))).get? s.heap.objs.size=Z (stO #[] 0 (.fresh 0 0 (!byT w))):=hS1 _ O;have B:Shared.TypeIs {s with heap:=s.heap.push (stO #[] 0 (.fresh 0 0 (!byT w)))} (.ref s.heap.objs.size) "set":=⟨_,p,O⟩;have U:=PySem.F.called_set.init.lookup;have K:=PySem.F.called_set.init.bind (.ref s.heap.objs.size)
   repeat(any_goals (first|wp_step|assumption))
   refine codeAny_mono (codeAny_call_builtin (R:=wants (λr m=>r = .none/\Q (.ref s.heap.objs.size) m) E) PySem.F.called_set.init.plain PySem.F.entry_set_init (check_set_init_1 B (?_:_))) λr2 m a=>?_
   ·obtain⟨C,i,b,t,c⟩:=H;obtain⟨T,u,V,z⟩:=C;simp only at b c;subst b;subst c;have v:(s.heap.push (stO #[] 0 (.fresh 0 0 (!byT w)))).get? l=Z {cls:=.type "list",dict:=u,data:=.seq its t,slots:=z}:=hP1 _ i;have L:=PySem.F.sub_list_set;have N:=PySem.F.sub_list_frozenset;have au:(Value.type "list" == Value.type "dict")=J:=by decide
    have F:(s.heap.push (stO #[] 0 (.fresh 0 0 (!byT w)))).IsList l its:=⟨_,v,O,t,O⟩;have D:(s.heap.push (stO #[] 0 (.fresh 0 0 (!byT w)))).get? s.heap.objs.size=Z {cls:=.type "set",dict:=Y,data:=.set #[] 0 (.fresh 0 0 (!byT w)),slots:= #[]}:=p;unfold Builtin.«set.__init__» noKeywords Builtin.Frozenset.updateFrom;generalize j:pyIter=PI
    wp_walk
    subst j;refine wpAny_pyIter_list F (wB1 (wpAny_runValue (?_:_)));dsimp only;rw[show(s.heap.push (stO #[] 0 (.fresh 0 0 (!byT w)))).objs.size=s.heap.objs.size+1 from by rw[hZ1]];refine f A.in1.in1 (by simp) (nR1 _) _ λs' q=>?_;exact wP1 (wP1 ⟨O,q⟩)
   ·cases r2 with
    |error e=>exact a
    |ok y=>
     cases y with
     |ret r=>
      obtain⟨rfl,q⟩:=a
      repeat(any_goals (first|wp_step|assumption))
     |_=>exact a.elim
  |_=>exact h.elim
theorem Ac {l:c4}{its:Array cZ}{Q:cZ->c3->Prop}(c:s.heap.IsList l its)
  (b:∀a:c6,a.handled=A.handled -> ∀R:Result->c3->Prop,(∀s',Q (.ref s.heap.objs.size) s'->R (.ok (.ret .none)) s') ->
   de (model P w) a (.builtin "set.update.loop" ⟨[.ref s.heap.objs.size,.ref (s.heap.objs.size+1)],[]⟩) R {s with heap:=(s.heap.push (stO #[] 0 (.fresh 0 0 (!byT w)))).push {cls:=.type "list_iterator",data:=.fields #[.ref l,.int 0 0]}}):
  db (model P w) A (call (.type "set") [.ref l]) Q E s:=xi c λa h _=>b a h
end
section
variable{P:c5}{w:c7}{A:c6}{E:cZ->c3->Prop}{b:Bool}
theorem kk.old{p:c4}{ns:List Int}{h h':df}(x:kk b p ns h)(k:∀o,h.get? p=Z o->h'.get? p=Z o):kk b p ns h':=by
 obtain⟨es,ep,t,l,e,r⟩:=x;exact⟨es,ep,t,l,k _ e,r⟩
theorem pM:∀(ns acc:List Int),(ns.foldl step_dedup acc).length<=acc.length+ns.length
 |[],acc=>by simp
 |n::ns,acc=>by
  rw[bg];have h1:=pM ns (step_dedup acc n);have h2:(step_dedup acc n).length<=acc.length+1:=by unfold step_dedup;split<;>simp
  rw[lC1];lia
theorem A7{p l it:c4}{its:Array cZ}{ns:List Int}{R:Result->c3->Prop}(I:A.handled=none)(x:IntsAre its.toList ns)(hb:ns.length+1<scanBound)(am:p≠l)(u:p≠it)(F:it≠l):
  ∀(k i:Nat) (s:c3),its.size-i=k->i<=its.size->s.heap.IsListIter it l i->s.heap.IsList l its->kk b p ((ns.take i).foldl step_dedup []) s.heap ->
  (∀h' tk,(∀c o,c≠p->c≠it->s.heap.get? c=Z o->h'.get? c=Z o)->kk b p (ddI ns) h'->R (.ok (.ret .none)) {s with heap:=h',toks:=tk})->de (model P w) A (.builtin "set.update.loop" ⟨[.ref p,.ref it],[]⟩) R s:=by
 have a:its.size=ns.length:=by rw[<- aI];exact x.length
 intro k
 induction k with
 |zero=>
  intro i s H hi st h v q;have e:i=its.size:=by lia
  subst e;refine wD1 PyProof.Rows.F.entry_set_update_loop (?_:_);rw[Around.under_plainId PyProof.Rows.F.plain_set_update_loop _];show db _ A.in1 (pyNext (.ref it) >>= _) _ _ s;refine wB1 (wpAny_pyNext_list_end (by simpa using I) st h (by simp) λh' y=>wP1 ?_);refine q h' s.toks (λc o _ hc e=>y c o hc e) ?_;have:=v.old (h':=h') λo e=>y p o u e;rw[a,b0]at this;exact this
 |succ k ih=>
  intro i s H hi st h v q;have d:i<its.size:=by lia
  have D:=aG1 d;obtain⟨t,E⟩:=PyProof.Rows.IntsAre.int_at x i its[i] (by rw[aT1];exact D);refine wD1 PyProof.Rows.F.entry_set_update_loop (?_:_);rw[Around.under_plainId PyProof.Rows.F.plain_set_update_loop _];show db _ A.in1 (pyNext (.ref it) >>= _) _ _ s;refine wB1 (wpAny_pyNext_list_item st h D λh' st' B=>?_);rw[E];show db _ A.in1 (holding [Value.int (ns.getD i 0) t] (setAdd p (.int (ns.getD i 0) t)) >>= _) _ _ _;refine wB1 (wpAny_holding ?_);unfold setAdd;refine wpAny_holding (wB1 (wpAny_pyHash_int ?_));have n:kk b p ((ns.take i).foldl step_dedup []) h':=v.old λo e=>by rw[B.2 p u];exact e
  have j:=pM (ns.take i) [];refine Nf (s:={s with heap:=h',toks:=s.toks+1}) (k:=ns.getD i 0) n (by rw[aR,bo]at j;lia) λc h2 f g=>?_;have G:ns[i]?=Z (ns.getD i 0):=by rw[gG1 (by lia)];simp[List.getD,show i<ns.length by lia]
  have ao:step_dedup ((ns.take i).foldl step_dedup []) (ns.getD i 0)=(ns.take (i+1)).foldl step_dedup []:=by
   rw[cj,G,cm];rfl
  rw[ao]at g;have C:∀c o,c≠p->c≠it->s.heap.get? c=Z o->h2.get? c=Z o:=λc o h1 m e=>by rw[f.2 c h1];show h'.get? c=_;rw[B.2 c m];exact e
  have keepIt:∀o,h'.get? it=Z o->h2.get? it=Z o:=λo e=>by rw[f.2 it (Ne.symm u)];exact e
  refine wP1 ⟨plainId_quiet PyProof.Rows.F.plain_set_update_loop _,ih (i+1) {s with heap:=h2,toks:=s.toks+1} (by lia) d (st'.at keepIt) ?_ g λm tk K L=>?_⟩
  ·obtain⟨o,e,r⟩:=h;exact⟨o,C l o (Ne.symm am) (Ne.symm F) e,r⟩
  ·exact q m tk (λc o h1 z e=>K c o h1 z (C c o h1 z e)) L
theorem Ad{s:c3}{l:c4}{its:Array cZ}{ns:List Int}{Q:cZ->c3->Prop}(p:A.handled=Y)(d:s.heap.IsList l its)(f:IntsAre its.toList ns)(hb:ns.length+1<scanBound)(q:∀h' tk,(∀c o,s.heap.get? c=Z o->h'.get? c=Z o)->kk (byT w) s.heap.objs.size (ddI ns) h'->Q (.ref s.heap.objs.size) {s with heap:=h',toks:=tk}):db (model P w) A (call (.type "set") [.ref l]) Q E s:=by
 have a:l<s.heap.objs.size:=by obtain⟨o,e,_⟩:=d;exact hL1 e
 refine Ac d λt n R i=>?_;have m:(s.heap.push (stO #[] 0 (.fresh 0 0 (!byT w)))).objs.size=s.heap.objs.size+1:=by rw[hZ1]
 have j:(s.heap.push (stO #[] 0 (.fresh 0 0 (!byT w)))).get? s.heap.objs.size=Z (stO #[] 0 (.fresh 0 0 (!byT w))):=hS1 _ O;refine A7 (its:=its) (ns:=ns) (b:=byT w) (n.trans p) f hb (nG1 a) (nN1 (bI _)) (nG1 (Nat.lt_succ_of_lt a)) _ 0 _ O (br _) ?_ ?_ ?_ λh' tk k x=>i _ (q h' tk (λc o e=>k c o (nN1 (hL1 e)) (nN1 (Nat.lt_succ_of_lt (hL1 e))) (hP1 _ (hP1 _ e))) x)
 ·refine⟨{cls:=.type "list_iterator",data:=.fields #[.ref l,.int 0 0]},?_,O,O⟩;have this:((s.heap.push (stO #[] 0 (.fresh 0 0 (!byT w)))).push {cls:=.type "list_iterator",data:=.fields #[.ref l,.int 0 0]}).get? (s.heap.push (stO #[] 0 (.fresh 0 0 (!byT w)))).objs.size=Z {cls:=.type "list_iterator",data:=.fields #[.ref l,.int 0 0]}:=hS1 _ O;rw[m]at this;exact this
 ·obtain⟨o,e,r⟩:=d;exact⟨o,hP1 _ (hP1 _ e),r⟩
 ·refine⟨#[],0,_,!byT w,hP1 _ j,⟨λe g=>by simp at g,.refl _⟩,by decide,O,AN _,λh=>by rw[h];rfl⟩
end
theorem jV:Slot "set_iterator" "__next__" "set_iterator.__next__":=
 .of (owner:="set_iterator") (n:="__next__") (by rw[typeLookup_type,builtinLookup_eq_fast];kernel_rfl) (by decide+kernel) (by decide+kernel) (by decide+kernel) (by first|exact .inl (by decide+kernel)|exact .inr (by decide+kernel)) (by rw[isSubtype_type];kernel_rfl)
theorem sb:entryFor table "set_iterator.__next__"=Z Builtin.«set_iterator.__next__» :=entryFor_of_tree (by kernel_rfl)
theorem vO(x:cZ):argsOk "set_iterator.__next__" ⟨[x],[]⟩:=by unfold argsOk;kernel_rfl
theorem vx:entryFor table "set.__iter__"=Z Builtin.«frozenset.__iter__» :=entryFor_alias (id':="frozenset.__iter__") (by kernel_rfl) O (by decide+kernel) (by kernel_rfl)
abbrev JD(h:df)(it a:c4)(f:cZ)(i n ep:Nat):Prop:=h.get? it=Z {cls:=.type "set_iterator",dict:=Y,data:=.fields #[f,.int i 0,.ref a,.int n 0,.int ep 0],slots:= #[]}
def mw(t:SetTable)(i:Nat):Nat:=match i with
 |0=>0
 |i+1=>t.place.getD i 0+1
inductive vR (w:c7)(h:df)(a:c4)(es:Array (Int×cZ))(ep:Nat)(t:SetTable):cZ->Nat->List cZ->Prop
 |txt (b:byT w=true) (i:Nat) (sl:Nat):vR w h a es ep t (.int sl 0) i ((pickOrder (w.params.setOrder a ep) es).toList.map (·.2))
 |drw (b:byT w=false) (d:(!t.plain&&decide (es.size>1))=true) (i:Nat) (tp:c4) (ps:List Nat) (e:h.get? tp=some {cls:=.type "tuple",data:=.seq (ps.map λj=>Value.int (j:Nat) 0).toArray}) (pm:ps.Perm (af es.size)):vR w h a es ep t (.ref tp) i (ps.map λj=>(es[j]?.map (·.2)).getD .none)
 |plc (b:byT w=false) (d:(!t.plain&&decide (es.size>1))=false) (ld:t.led=true) (up:xt t.place) (i:Nat):vR w h a es ep t (.int (mw t i) 0) i (es.toList.map (·.2))
theorem rq{α:Type}(f:Nat->Nat):∀(n k:Nat) (l:List α) (out:Array α),l.length=n->(pickOrder.go f n k l out).toList.Perm (out.toList++l)
 |0,k,l,out,h=>by
  rw[pickOrder.go,ca.mp h,aN]
 |n+1,k,l,out,h=>by
  have b:f k%l.length<l.length:=Nat.mod_lt _ (by lia);rw[pickOrder.go,gG1 b];refine(rq f n (k+1) _ _ (by rw[cp b];lia)).trans ?_;rw[cc,bf];refine List.Perm.append_left _ ?_;have c:l=l.take (f k%l.length)++l[f k%l.length]::l.drop (f k%l.length+1):=by rw[List.getElem_cons_drop,List.take_append_drop]
  rw[List.eraseIdx_eq_take_drop_succ];refine List.Perm.trans ?_ (List.Perm.of_eq c.symm);exact(cq (l₁:=l.take (f k%l.length)) (l₂:=l.drop (f k%l.length+1)) (a:=l[f k%l.length])).symm
theorem vR.perm{w:c7}{h:df}{a:c4}{es:Array (Int×cZ)}{ep:Nat}{t:SetTable}{f:cZ}{i:Nat}{pl:List cZ}(y:vR w h a es ep t f i pl):pl.Perm (es.toList.map (·.2)):=by
 cases y with
 |txt=>exact(rq _ _ _ _ _ O).map _
 |drw _ _ _ d ps e c=>
  refine(c.map _).trans ?_;have:(af es.size).map (λj=>(es[j]?.map (·.2)).getD .none)=es.toList.map (·.2):=by
   apply b4;intro j;rw[gP1,gP1,aT1 (xs:=es)];by_cases b:j<es.size
   ·rw[cr b,oP1,aG1 b];rfl
   ·rw[b5 (by simpa using b),cu (by lia)];rfl
  rw[this]
 |plc=>exact .refl _
theorem vR.len{w:c7}{h:df}{a:c4}{es:Array (Int×cZ)}{ep:Nat}{t:SetTable}{f:cZ}{i:Nat}{pl:List cZ}(y:vR w h a es ep t f i pl):pl.length=es.size:=by
 rw[y.perm.length_eq,lM1,aI]
section
variable{P:c5}{w:c7}{A:c6}{E:cZ->c3->Prop}{s:c3}{it a:c4}{f:cZ}{i ep:Nat}{es:Array (Int×cZ)}{t:SetTable}{pl:List cZ}
theorem sC{Q:Bool->c3->Prop}(q:Q (byT w) s):db (model P w) A setsByText Q E s:=by unfold setsByText;exact wB1 (wpAny_askSetting (wP1 q))
theorem A2{sl:Nat}{Q:Option (cZ×Nat)->c3->Prop}(b:byT w=M)(ho:s.heap.get? a=Z (stO es ep t))(hf:t.fits es.size=M)(q:Q (((pickOrder (w.params.setOrder a ep) es)[i]?).map λe=>(e.2,sl)) s):db (model P w) A (setNext a sl i ep) Q E s:=by
 unfold setNext;refine wB1 (wpAny_setState_of ho O hf (wB1 (sC ?_)));rw[b,ak O,aj (by simp)];refine wB1 ?_;unfold setWalk;refine wB1 (wpAny_setState_of ho O hf (wB1 (sC ?_)));rw[b,ak O];exact wB1 (wpAny_askSetting (wP1 (wP1 q)))
theorem FK(a:xt t.place)(hi:i<=t.place.size):SetTable.below t.place (mw t i)=i:=by
 cases i with
 |zero=>exact Da a
 |succ j=>
  have b:j<t.place.size:=hi;show SetTable.below t.place (t.place.getD j 0+1)=j+1;rw[show t.place.getD j 0=t.place[j]from by simp[Array.getD,b]];exact FJ a b
theorem A4{Q:Option (cZ×Nat)->c3->Prop}(b:byT w=J)(d:(!t.plain&&decide (es.size>1))=J)(h:t.led=M)(j:xt t.place)(ho:s.heap.get? a=Z (stO es ep t))(hf:t.fits es.size=M)(hi:i<=es.size)(q:Q ((es[i]?).map λe=>(e.2,mw t (i+1))) s):db (model P w) A (setNext a (mw t i) i ep) Q E s:=by
 have k:t.place.size=es.size:=by
  unfold SetTable.fits at hf;rw[bA1,beq_iff_eq]at hf;exact hf.1
 unfold setNext;refine wB1 (wpAny_setState_of ho O hf (wB1 (sC ?_)));rw[b,aj (by decide)];rw[aj (λz=>by have f:(!t.plain&&decide (es.size>1))=M:=z;rw[d]at f;cases f)];refine wB1 ?_;show db _ _ (if(!t.led && !es.isEmpty)=M then _ else _) _ _ _;rw[aj (by rw[h];simp)];refine wP1 ?_;dsimp only;rw[FK j (by omega)];by_cases c:i<es.size
 ·rw [aG1 c] at q ⊢;rw [aG1 (show i<t.place.size by omega)];have g:mw t (i+1)=t.place[i]+1:=by
   show t.place.getD i 0+1=_;rw[show t.place.getD i 0=t.place[i]from by simp[Array.getD,show i<t.place.size by omega]]
  rw[g]at q;exact wP1 q
 ·rw[cu (by omega)]at q ⊢;exact wP1 q
theorem Dw{Q:Option cZ->c3->Prop}(k:JD s.heap it a f i es.size ep)(ho:s.heap.get? a=Z (stO es ep t))(hf:t.fits es.size=M)(y:vR w s.heap a es ep t f i pl){x:cZ}(hx:pl[i]? = Z x)(S:∀ g,f = .ref g->g≠it)(q:∀h' h,JD h' it a h (i+1) es.size ep->(∀c o,c≠it->s.heap.get? c=Z o->h'.get? c=Z o)->vR w h' a es ep t h (i+1) pl->(∀g,h = .ref g->f = .ref g)->Q (Z x) {s with heap:=h'}):db (model P w) A (pyNext (.ref it)) Q E s:=by
 have G:s.TypeIs (.ref it) "set_iterator":=⟨_,k,O⟩;unfold pyNext;refine wB1 (wpAny_attempt (wpAny_callSpecial?_slot (name:=Str.ofString "__next__") G jV (wE1 jV G sb ?_ (vO _))));refine wB1 (wP1 (wB1 (wpAny_fieldsOf k O ?_)));dsimp only;refine wB1 (wpAny_setEntries_of ho O hf ?_);rw[aj (by simp)];have R:i<es.size:=by have:=(gE1.mp hx).1;rw[y.len]at this;exact this
 have m:∀ (h:cZ),(∀ g,h = .ref g->f = .ref g)->(∀ h',(∀ c o,c≠it->s.heap.get? c=some o->h'.get? c=some o)->vR w h' a es ep t h (i+1) pl) ->
   db (model P w) A.in1 (setField (.ref it) 0 h >>= fun _=>setField (.ref it) 1 (rawInt ((i:Int)+1)) >>= fun _=>ret x) (fun r s'=>∃ v,r=Fin.done (Flow.ret v)/\db (model P w) A (pure (some v)) Q E s') (fun e s'=>db (model P w) A (do
     let y<-isInstance e (.type "StopIteration")
     if y=M then pure Y else throw e) Q E s') s:=λh ao au=>by
  refine wB1 (wS1 k (by simp) λh1 N C=>wB1 (wS1 (s:={s with heap:=h1}) N (by simp) λh2 B l=>wP1 ⟨_,O,wP1 ?_⟩));have p:∀c o,c≠it->s.heap.get? c=Z o->h2.get? c=Z o:=λc o hc e=>l.extBut c o hc (C.extBut c o hc e);refine q h2 h ?_ p (au h2 p) ao;have e:((i+1:Nat):Int)=(i:Int)+1:=by lia
  unfold JD;rw[e];simpa[rawInt]using B
 cases y with
 |txt b _ u=>
  refine wB1 (A2 (i:=i) (sl:=u) (ep:=ep) b ho hf ?_);rw[gP1,aT1]at hx;obtain⟨e,D,rfl⟩:=oM1.mp hx;rw[D];exact m (.int u 0) (λg z=>by cases z) λh' _=>.txt b _ u
 |plc b d H am _=>
  refine wB1 (A4 (i:=i) b d H am ho hf (by lia) ?_);rw[gP1,aT1]at hx;obtain⟨e,D,rfl⟩:=oM1.mp hx;rw[D];exact m (.int (mw t (i+1)) 0) (λg z=>by cases z) λh' _=>.plc b d H am _
 |drw b d _ g ps e K=>
  rw[gP1]at hx;obtain⟨j,I,rfl⟩:=oM1.mp hx;have n:j<es.size:=by have:=K.mem_iff.mp (gM1 I);simpa using this
  refine wB1 (wpAny_seqItems e O ?_);have F:((ps.map λj=>Value.int (j:Nat) 0).toArray)[((i:Int)).toNat]?=Z (.int (j:Nat) 0):=by
   rw[Int.toNat_natCast,cv,gP1,I];rfl
  dsimp only;rw[F];dsimp only;refine wB1 ?_;unfold setNextDrawn;refine wB1 (wpAny_setState_of ho O hf ?_);dsimp only;rw[aj (by simp),Int.toNat_natCast,aG1 n];refine wP1 (wB1 (wS1 k (by simp) λh2 B l=>wP1 ⟨_,O,wP1 ?_⟩));have p:∀c o,c≠it->s.heap.get? c=Z o->h2.get? c=Z o:=λc o hc e=>l.extBut c o hc e;have L:=q h2 (.ref g) ?_ p (.drw b d _ g ps (p g _ (S g O) e) K) λ_ z=>z
  ·rw[aG1 n]at L;exact L
  ·have e:((i+1:Nat):Int)=(i:Int)+1:=by lia
   unfold JD;rw[e];simpa[rawInt]using B
theorem wm{Q:Option cZ->c3->Prop}{G:Fin->c3->Prop}(d:A.handled=none)(q:∀ h',(∀ c o,s.heap.get? c=some o->h'.get? c=some o)->Q none {s with heap:=h'}):
  db (model P w) A.in1 (newExc (.type "StopIteration") [] >>= fun e=>raiseNew e) G (fun e s'=>db (model P w) A (do
     let y<-isInstance e (.type "StopIteration")
     if y=M then pure Y else throw e) Q E s') s:=by
 refine wB1 ?_;simp only[newExc,newTuple];refine wB1 (wO1 ?_ (by size_fits));refine wB1 (m:=firstArgMember _ _) (wpAny_of_eq (a:=Value.none) (by first|rfl|(simp only[firstArgMember];rfl)) ?_);refine wO1 ?_ (by size_fits);simp only[raiseNew];refine wB1 (wpAny_handled ?_);rw[show A.in1.handled=Y from d];refine wB1 (wP1 (wpAny_throw (?_:_)));refine wB1 (wpAny_isInstance (b:=M) (T:="StopIteration") ⟨_,hS1 _ O,O⟩ isSubtype_stop (?_:_));exact wP1 (q _ λb o e=>hP1 _ (hP1 _ e))
theorem GG{Q:Option cZ->c3->Prop}(r:A.handled=Y)(g:JD s.heap it a f es.size es.size ep)(ho:s.heap.get? a=Z (stO es ep t))(hf:t.fits es.size=M)(y:vR w s.heap a es ep t f es.size pl)(q:∀h',(∀c o,c≠it->s.heap.get? c=Z o->h'.get? c=Z o)->Q Y {s with heap:=h'}):db (model P w) A (pyNext (.ref it)) Q E s:=by
 have u:s.TypeIs (.ref it) "set_iterator":=⟨_,g,O⟩;unfold pyNext;refine wB1 (wpAny_attempt (wpAny_callSpecial?_slot (name:=Str.ofString "__next__") u jV (wE1 jV u sb ?_ (vO _))));refine wB1 (wP1 (wB1 (wpAny_fieldsOf g O ?_)));dsimp only;refine wB1 (wpAny_setEntries_of ho O hf ?_);rw[aj (by simp)];have l:=y.len;cases y with
 |txt b _ x=>
  refine wB1 (A2 (i:=es.size) (sl:=x) (ep:=ep) b ho hf ?_);rw[cu (by rw[lM1,aI]at l;lia)];refine wB1 (wS1 g (by simp) λh1 n h=>?_);exact wm (s:={s with heap:=h1}) r λh' k=>q h' λc o hc e=>k c o (h.extBut c o hc e)
 |plc b d v z _=>
  refine wB1 (A4 (i:=es.size) (ep:=ep) b d v z ho hf (nR1 _) ?_);rw[cu (nR1 _)];refine wB1 (wS1 g (by simp) λh1 n h=>?_);exact wm (s:={s with heap:=h1}) r λh' k=>q h' λc o hc e=>k c o (h.extBut c o hc e)
 |drw b d _ C ps e D=>
  refine wB1 (wpAny_seqItems e O ?_);have p:((ps.map λj=>Value.int (j:Nat) 0).toArray)[((es.size:Int)).toNat]?=Y:=by
   rw[Int.toNat_natCast,cv,b5 (by rw[lM1]at l ⊢;lia)]
  dsimp only;rw[p];dsimp only;refine wB1 (wS1 g (by simp) λh1 n h=>?_);refine wB1 (wS1 (s:={s with heap:=h1}) n (by simp) λh2 B m=>?_);exact wm (s:={s with heap:=h2}) r λh' k=>q h' λc o hc e=>k c o (m.extBut c o hc (h.extBut c o hc e))
theorem C6{a:Source}{n:Nat}{Q:Nat->c3->Prop}(hn:n≠0)(q:∀i c,i<n->Q i {s with drawn:=c}):db (model P w) A (choose a n) Q E s:=fun Γ p b=>by
 unfold choose;rw[Sem.wp_choose];refine⟨hn,?_⟩;exact wP1 (A:=A) (E:=E) (q _ _ (Nat.mod_lt _ (Nat.pos_of_ne_zero hn))) Γ p b
theorem draw_W{α:Type}:∀(n:Nat) (xs:List α) (s:c3) (Q:List α->c3->Prop),xs.length=n->(∀ys b,ys.Perm xs->Q ys {s with drawn:=b})->db (model P w) A (drawOrder n xs) Q E s
 |0,xs,s,Q,h,q=>by
  have:=ca.mp h;subst this;exact wP1 (q [] s.drawn (.refl _))
 |n+1,[],s,Q,h,q=>by simp at h
 |n+1,x::xs,s,Q,h,q=>by
  rw[drawOrder];refine wB1 (C6 (by simp) λi b hi=>?_);rw[gG1 hi];dsimp only;refine wB1 (draw_W n _ _ _ (by rw[cp hi];lia) λys a d=>wP1 (q _ a ?_));refine(d.cons _).trans ?_;have c:x::xs=(x::xs).take i++(x::xs)[i]::(x::xs).drop (i+1):=by rw[List.getElem_cons_drop,List.take_append_drop]
  rw[List.eraseIdx_eq_take_drop_succ];refine List.Perm.trans ?_ (List.Perm.of_eq c.symm);exact cq.symm
  all_goals simp
theorem Dy{l:Bool}{Q:cZ->c3->Prop}(ho:s.heap.get? a=some (stO es ep t))(hf:t.fits es.size=true)(hz:es.size<scanBound)(y:TS l t)(G:byT w=false->l=true)(q:∀it h' n f pl,(∀c o,s.heap.get? c=some o->h'.get? c=some o)->s.heap.objs.size<=it->JD h' it a f 0 es.size ep->vR w h' a es ep t f 0 pl->(∀b,f = .ref b->b≠it/\s.heap.objs.size<=b)->Q (.ref it) {s with heap:=h',drawn:=n}):
  db (model P w) A (pyIter (.ref a)) Q E s:=by
 have D:s.TypeIs (.ref a) "set":=⟨_,ho,rfl⟩;refine wpAny_pyIter_slot D PySem.F.slot_set_iter (wE1 PySem.F.slot_set_iter D vx ?_ (PySem.F.args_set_iter_1 _));unfold Builtin.«frozenset.__iter__»;refine wB1 (m:=Builtin.Frozenset.slot0 _ _) (wP1 ?_);unfold Builtin.Frozenset.sizeOf;refine wB1 (wB1 (wpAny_setEntries_of ho rfl hf (wP1 ?_)));unfold setDrawn;refine wB1 (wB1 (wpAny_setState_of ho rfl hf (wB1 (sC (wP1 ?_)))));show db _ _ (if (!byT w&&(!t.plain&&decide (es.size>1)))=true then _ else _) _ _ _;have d:∀ (h1:df) (n:Drawn) (f:cZ) (pl:List cZ),(∀ c o,s.heap.get? c=some o->h1.get? c=some o)->s.heap.objs.size<=h1.objs.size->(∀ b,f = .ref b->b<h1.objs.size/\s.heap.objs.size<=b)->(∀ h',(∀ c o,h1.get? c=some o->h'.get? c=some o)->vR w h' a es ep t f 0 pl) ->
   db (model P w) A.in1 (setEpoch a >>= λe=>newFields "set_iterator" [f,rawInt 0,.ref a,rawInt es.size,rawInt e] >>= λr=>ret r) (λd s'=>∃r,d=Fin.done (Flow.ret r) /\ ∃T g,s'.TypeIs r T/\typeLookup (.type T) "__next__"=pure (Z g)/\Q r s') E {s with heap:=h1,drawn:=n}:=by
  intro h1 n f pl B x u F;refine wB1 (wpAny_setEpoch_of (B a _ ho) O hf (wB1 (wO1 (wP1 ⟨_,O,"set_iterator",_,⟨_,hS1 _ O,O⟩,jV.lookup,?_⟩) (by size_fits))));refine q h1.objs.size _ n f pl (λc o e=>hP1 _ (B c o e)) x ?_ (F _ λc o e=>hP1 _ e) λb e=>⟨nN1 (u b e).1,(u b e).2⟩;have:=hS1 h1 (o:={cls:=.type "set_iterator",data:=.fields #[f,.int 0 0,.ref a,.int es.size 0,.int ep 0]}) O;exact this
 by_cases h:byT w=M
 ·rw[aj (by rw[h];simp)];refine wB1 (wP1 ?_);exact d s.heap s.drawn _ _ (λ_ _ e=>e) (nR1 _) (λb z=>by cases z) λh' _=>.txt h 0 0
 ·have h:byT w=J:=by simpa using h
  by_cases p:(!t.plain&&decide (es.size>1))=M
  ·rw[ak (by rw[h,p];rfl)];refine wB1 (draw_W es.size (af es.size) s _ (by simp) λys n C=>?_);refine wB1 (m:=newTuple _) (wO1 (s:={s with drawn:=n}) ?_ ?_)
   ·refine d (s.heap.push {cls:=.type "tuple",data:=.seq (ys.map λ(i:Nat)=>rawInt i).toArray}) n (.ref s.heap.objs.size) (ys.map λj=>(es[j]?.map (·.2)).getD .none) (λc o e=>hP1 _ e) (by rw[hZ1];exact bc _) (λb z=>by cases z;exact⟨by rw[hZ1];exact bI _,nR1 _⟩) λh' k=>?_;exact .drw h p 0 _ ys (k _ _ (hS1 _ O)) C
   ·have:=C.length_eq;have v:=fits_of_scanBound hz;simp[sizeOk,this,v]
  ·have p:(!t.plain&&decide (es.size>1))=J:=by simpa using p
   rw[aj (by rw[p];simp)];refine wB1 (wP1 ?_);exact d s.heap s.drawn _ _ (λ_ _ e=>e) (nR1 _) (λb z=>by cases z) λh' _=>.plc h p (by rw[y.ld];exact G h) y.up 0
end
theorem vR.keep{w:c7}{h h':df}{a:c4}{es:Array (Int×cZ)}{ep:Nat}{t:SetTable}{f:cZ}{i:Nat}{pl:List cZ}(y:vR w h a es ep t f i pl)(k:∀c o,f = .ref c->h.get? c=Z o->h'.get? c=Z o):vR w h' a es ep t f i pl:=by
 cases y with
 |txt b _ l=>exact .txt b _ l
 |drw b d _ c ps e g=>exact .drw b d _ c ps (k c _ O e) g
 |plc b d j m _=>exact .plc b d j m _
section
variable{P:c5}{w:c7}{A:c6}{E:cZ->c3->Prop}
theorem Dx{it a S:c4}{ep:Nat}{es:Array (Int×cZ)}{t:SetTable}{pl:List cZ}{p:cZ}{R:Result->c3->Prop}(T:A.handled=none)(hf:t.fits es.size=true)(h1:it≠a)(h2:S≠a)(G:S≠it)(hn:es.size<=da):
  ∀(k i:Nat) (s:c3) (f:cZ) (acc:Array cZ) (c:Nat),es.size-i=k->i<=es.size->JD s.heap it a f i es.size ep->s.heap.get? a=Z (stO es ep t)->vR w s.heap a es ep t f i pl->(∀g,f = .ref g->g≠it/\g≠S) ->
  s.heap.get? S=Z {cls:=.type "list",dict:=Y,data:=.seq acc c,slots:= #[]}->acc.toList=pl.take i ->
  (∀h' d H,(∀b u,b≠it->b≠S->s.heap.get? b=Z u->h'.get? b=Z u)->h'.get? S=Z {cls:=.type "list",dict:=Y,data:=.seq d H,slots:= #[]}->d.toList=pl->R (.ok (.ret p)) {s with heap:=h'}) ->
  de (model P w) A (.builtin "list.extend.loop" ⟨[.ref S,.ref it,p],[]⟩) R s:=by
 intro k
 induction k with
 |zero=>
  intro i s f acc c Q hi m D y E K C F;have e:i=es.size:=by lia
  subst e;have j:=y.len;refine wD1 PySem.F.entry_extend_loop (?_:_);rw[Around.under_plainId PySem.F.plain_extend_loop _];show db _ A.in1 (pyNext (.ref it) >>= _) _ _ s;refine wB1 (GG T m D hf y λh' keep=>wP1 ?_);exact F h' acc c (λb u n _ e=>keep b u n e) (keep S _ G K) (by rw[C,<- j,b0])
 |succ k ih=>
  intro i s f acc c Q hi m D y E K C F;have I:i<es.size:=by lia
  have j:=y.len;obtain⟨x,au⟩:∃x,pl[i]?=some x:=⟨_,gG1 (by lia)⟩;have z:acc.size=i:=by rw[<- aI,C,aR];lia
  refine wD1 PySem.F.entry_extend_loop (?_:_);rw[Around.under_plainId PySem.F.plain_extend_loop _];show db _ A.in1 (pyNext (.ref it) >>= _) _ _ s;refine wB1 (Dw m D hf y au (λg e=>(E g e).1) λh' V B keep U N=>?_);have v:=keep S _ G K;show db _ A.in1 (updateSeq S (·.push x) >>= _) _ _ _;refine wB1 (wpAny_updateSeq (s:={s with heap:=h'}) v O ?_ (by rw[z];lia) (by show(acc.push _).size<=da+1;rw[Array.size_push,z];lia));have h:∀b u,b≠S->h'.get? b=Z u->(h'.update S (Obj.mapSeq (·.push x))).get? b=Z u:=λb u n e=>by rw[hU1 _ _ _ _ n];exact e
  refine wP1 ⟨plainId_quiet PySem.F.plain_extend_loop _,ih (i+1) {s with heap:=h'.update S (Obj.mapSeq (·.push x))} V (acc.push x) _ (by lia) I (h it _ (Ne.symm G) B) (h a _ (Ne.symm h2) (keep a _ (Ne.symm h1) D)) (U.keep λg o e q=>h g o (E g (N g e)).2 q) (λg e=>E g (N g e)) (hW1 _ v O) ?_ ?_⟩
  ·rw[cc,C,cj,au];rfl
  ·intro am d H l ao L;exact F am d H (λb u n r e=>l b u n r (h b u r (keep b u n e))) ao L
theorem A9:typeLookup (.type "set") "__len__"=pure (Z (.builtin "set.__len__")):=by rw[typeLookup_type,builtinLookup_eq_fast];kernel_rfl
theorem Dz {s:c3}{v:c4}{Q:Bool->c3->Prop}(c:s.TypeIs (.ref v) "set")(q:Q J s):db (model P w) A (Builtin.List.listLengthHint (.ref v)) Q E s:=by
 unfold Builtin.List.listLengthHint;refine wB1 (wpAny_specialOf c A9 (?_:_));generalize a:("set.__len__":String)=id0
 wp_delta
 rw[show splitId id0=Z ("set","__len__")from by subst a;decide+kernel];subst a;refine wB1 (wpAny_isInstance (b:=M) c (by rw[isSubtype_type];kernel_rfl) (?_:_));rw[aj (by decide)];dsimp only;rw[ak (by decide+kernel)];exact wB1 (wpAny_typeOf c (wP1 q))
theorem v8{s:c3}{a:c4}{ns:List Int}{Q:List cZ->c3->Prop}(X:A.handled=Y)(hx:kk (byT w) a ns s.heap)(q:∀h' p vs ao,(∀b u,s.heap.get? b=Z u->h'.get? b=Z u)->s.heap.objs.size<=h'.objs.size->IntsAre vs ao->ao.Perm ns->Q vs {s with heap:=h',drawn:=p}):db (model P w) A (collect (.ref a)) Q E s:=by
 obtain⟨es,ep,t,l,D,N,R,S,V,wq⟩:=hx;have n:a<s.heap.objs.size:=hL1 D;unfold collect;refine wB1 (wpAny_runValue (wD1 PySem.F.entry_proto_collect (?_:_)));rw[Around.under_plainId PySem.F.plain_proto_collect _];show db _ A.in1 (newList [] >>= λl=>again (.builtin "list.__iadd__" ⟨[l,.ref a],[]⟩)) _ _ s;refine wB1 (wO1 (?_:_));refine wP1 ⟨plainId_quiet PySem.F.plain_list_iadd _,wD1 PySem.F.entry_list_iadd (?_:_)⟩;rw[Around.under_plainId PySem.F.plain_list_iadd _];have z:(s.heap.push {cls:=.type "list",data:=.seq ([]:List cZ).toArray}).get? s.heap.objs.size=Z {cls:=.type "list",data:=.seq ([]:List cZ).toArray}:=hS1 _ O;have h:∀b u,s.heap.get? b=Z u->(s.heap.push {cls:=.type "list",data:=.seq ([]:List cZ).toArray}).get? b=Z u:=λb u e=>hP1 _ e;have r:(s.heap.push {cls:=.type "list",data:=.seq ([]:List cZ).toArray}).objs.size=s.heap.objs.size+1:=by rw[hZ1]
 have K:s.heap.objs.size≠a:=nG1 n;have h1:Builtin.List.listSameRef (.ref s.heap.objs.size) (.ref a)=J:=by simp[Builtin.List.listSameRef,K]
 show db _ A.in1 (Builtin.List.listExtendWith (.ref s.heap.objs.size) (.ref a) (.ref s.heap.objs.size)) _ _ {s with heap:=s.heap.push {cls:=.type "list",data:=.seq ([]:List cZ).toArray}};generalize s.heap.push {cls:=.type "list",data:=.seq ([]:List cZ).toArray}=h₁ at *
 unfold Builtin.List.listExtendWith;refine wB1 (wpAny_typeOf (T:="set") ⟨_,h a _ D,O⟩ ?_);rw[aj (by rw[h1];decide)];refine wB1 (Dy (s:={s with heap:=h₁}) (h a _ D) S R V wq λit c p f pl g d L y H=>?_);dsimp only at g d H;have j:=g _ _ z;have B:Shared.TypeIs {s with heap:=c,drawn:=p} (.ref a) "set":=⟨_,g _ _ (h a _ D),O⟩;refine wB1 (wpAny_holding (Dz B ?_));rw[ak (by decide+kernel)];refine wB1 (wpAny_rule (wB1 ?_));show db _ A.in1 (updateSeq s.heap.objs.size (·.push .none) >>= λ_=>updateSeq s.heap.objs.size (·.pop)) _ _ _;refine wB1 (wpAny_updateSeq (s:={s with heap:=c,drawn:=p}) j O ?_);have i:=hW1 (Obj.mapSeq (·.push Value.none)) j O;refine wpAny_updateSeq (s:={s with heap:=c.update s.heap.objs.size (Obj.mapSeq (·.push Value.none)),drawn:=p}) i O ?_;have x:=hW1 (Obj.mapSeq (·.pop)) i O;have m:∀b u,b≠s.heap.objs.size->c.get? b=Z u->((c.update s.heap.objs.size (Obj.mapSeq (·.push Value.none))).update s.heap.objs.size (Obj.mapSeq (·.pop))).get? b=Z u:=λb u C e=>by
  rw[hU1 _ _ _ _ C,hU1 _ _ _ _ C];exact e
 rw[r]at d H;have au:=y.perm;refine wP1 ⟨plainId_quiet PySem.F.plain_extend_loop _,Dx (it:=it) (pl:=pl) X S (nG1 (bq n d)) (nG1 n) (nN1 d) (fits_of_scanBound R) es.size 0
  {s with heap:=(c.update s.heap.objs.size (Obj.mapSeq (·.push Value.none))).update s.heap.objs.size (Obj.mapSeq (·.pop)),drawn:=p} f _ _ O (br _) (m _ _ (nG1 d) L) (m a _ (nN1 n) (g _ _ (h a _ D))) (y.keep λG o e q=>m G o (nG1 (H G e).2) q) (λG e=>⟨(H G e).1,nG1 (H G e).2⟩) x O λh' I c' keep F W=>?_⟩
 show db _ A (load s.heap.objs.size >>= _) _ _ {s with heap:=h',drawn:=p};refine wB1 (wpAny_load F ?_);have U:∀v∈pl,∃k t,v=Value.int k t:=λv am=>by
  obtain⟨e,he,rfl⟩:=ci.mp (au.mem_iff.mp am);obtain⟨k,t,rfl⟩:=N.el e he;exact⟨k,t,O⟩
 have all:∀vs:List cZ,(∀v∈vs,∃k t,v=Value.int k t)->IntsAre vs (vs.map λv=>MX (0,v)):=by
  intro vs
  induction vs with
  |nil=>intro _;exact .nil
  |cons v vs ih=>
   intro am;obtain⟨k,t,rfl⟩:=am v mS1;exact .cons k t (ih λu aq=>am u (mC1 _ aq))
 refine wP1 (q h' p I.toList (pl.map λv=>MX (0,v)) (λb u e=>?_) (Nat.le_of_lt (hL1 F)) (by rw[W];exact all pl U) ?_)
 ·have C:=hL1 e;exact keep b u (nN1 (bq C d)) (nN1 C) (m b u (nN1 C) (g _ _ (h b u e)))
 ·refine(au.map _).trans ?_;rw[bD];exact N.pm
theorem uy {s:c3}{a:c4}{ns:List Int}{Q:cZ->c3->Prop}(r:A.handled=none)(hx:kk (byT w) a ns s.heap)(g:ns.length<64)
  (q:∀h' f L n out,(∀b u,s.heap.get? b=Z u->h'.get? b=Z u)->s.heap.objs.size<=L->h'.get? L=Z (seqObj "list" out n)->IntsAre out.toList (i3 ns)->Q (.ref L) {s with heap:=h',drawn:=f}):
  db (model P w) A (call (.builtin "sorted") [.ref a]) Q E s:=by
 refine Calls.call_function_entry kind_sorted plain_sorted entry_sorted (args_sorted1 _) (?_:_);unfold Builtin.«sorted»;refine wB1 (m:=checkCount "sorted" 1 1 _) (wP1 (wB1 (v8 r hx λh' f vs t keep o k l=>?_)));have d:vs.length<64:=by rw[k.length,l.length_eq];exact g
 refine wB1 (wpAny_newList (hsz:=by rw[sizeLine_eq];lia) ?_);have c:(h'.push (seqObj "list" vs.toArray 0)).get? h'.objs.size=Z (seqObj "list" vs.toArray 0):=hS1 _ O;show db _ _ _ _ _ {s with heap:=h'.push (seqObj "list" vs.toArray 0),drawn:=f};refine wB1 (wpAny_holding (wE1 slot_list_sort ⟨_,c,O⟩ entry_list_sort (list_sort_tree (s:={s with heap:=h'.push (seqObj "list" vs.toArray 0),drawn:=f}) c k d λout j a1 a2 a3=>⟨_,O,?_⟩) (args_list_sort _)));have p:j=i3 ns:=og (a2.trans (l.trans (fJ ns).symm)) a3 (lM ns);subst p;obtain⟨n,h⟩:=sortedHeap_at (out:=out) c;refine wP1 ⟨_,O,q _ f h'.objs.size n out (λb u e=>?_) o h a1⟩;have i:=keep b u e;show(sortedHeap (h'.push (seqObj "list" vs.toArray 0)) h'.objs.size vs out).get? b=Z u;rw[sortedHeap_old (nN1 (hL1 i)) (by rw[hZ1];exact Nat.lt_succ_of_lt (hL1 i))];exact hP1 _ i
end
def j8:G1:=λd S=>match dQ S d with
 |some (M,xs)=>(mM xs).bind λns=>if ns.length<64 then Z (.ref S.length,S++[.lst ((i3 (ddI ns)).map D.int)])else Y
 |_=>Y
section
variable{X:Cx}
def Ko(X:Cx)(vs:List V)(H:Hp)(Q:VK):Prop:=∃a xs ns,vs=[.ref a]/\mY X.K H a xs/\(∀us,d5 xs us->IntsAre us ns)/\ns.length+1<scanBound /\ ∀p,H p=Y->Q (.ref p) (upd H p (.ext (kk (byT X.w) p (ddI ns))))
def Ha(X:Cx)(vs:List V)(H:Hp)(Q:VK):Prop:=∃a ns,vs=[.ref a]/\H a=Z (.ext (kk (byT X.w) a ns))/\ns.length<64 /\ ∀p,H p=Y->Q (.ref p) (upd H p (.lst ((i3 ns).map V.int)))
theorem zF{ag:List (c4×Obj)}{σ:L2.St}{H:Hp}{s:c3}(I:Inv X ag σ H s)(d:Drawn):Inv X ag σ H {s with drawn:=d}:=⟨I.ok,I.os,I.bare,I.base,I.loc,I.cell,I.free,I.freeC,I.pin,I.hok,I.len⟩
theorem Jn(hc:X.calm=M):eN X (.type "set") (Ko X):=by
 intro ag s σ H xs n Q I r h;obtain⟨a,vs,ns,rfl,j,hi,g,q⟩:=h;obtain⟨u,rfl,r2⟩:=im r;cases r2;obtain⟨b,i,p,m⟩:=I.list j;have f:=hi b i;refine Ad (I.ok.hd hc) p.isList (by simpa using f) g λh' tk keep d=>?_;have c:=I.hok.fresh (nR1 s.heap.objs.size);refine⟨.ref s.heap.objs.size,_,I.laid (t':=tk) (o:=.ext (kk (byT X.w) s.heap.objs.size (ddI ns))) keep (nR1 _) ⟨d,?_,λh1 h2 x k=>x.old k⟩,O,q _ c⟩;obtain⟨es,ep,t,l,e,_⟩:=d;exact⟨_,e⟩
theorem FC(hc:X.calm=M):eN X (.builtin "sorted") (Ha X):=by
 intro ag s σ H xs k Q I r h;obtain⟨a,ns,rfl,g,i,q⟩:=h;obtain⟨u,rfl,r2⟩:=im r;cases r2;obtain⟨e,_⟩:=(show eM X.prog X.w H s.heap a (.ext (kk (byT X.w) a ns))from I.hok a _ g);refine uy (I.ok.hd hc) e i λh' j L n out keep d b f=>?_;have c:=I.hok.fresh d;refine⟨.ref L,_,zF (I.laid (t':=s.toks) (o:=.lst ((i3 ns).map V.int)) keep d ⟨?_,out.toList,n,rR f,by rw[Array.toArray_toList];exact b⟩) j,O,q _ c⟩;rw[lM1,(fJ ns).length_eq,sizeLine_eq];lia
theorem Lu(ns:List Int):(ddI ns).length<=ns.length:=by
 have:=pM ns [];unfold ddI;simpa using this
theorem yX (hc:X.calm=true){o:Expr}{m:FE}{p p2 pos b:Pos}(hg:Gl X "sorted")(hm:X.mg "sorted"=none)(hg2:Gl X "set")(hm2:X.mg "set"=none)(ho:XE X o m)
  (he:c9 [.Call (.Name "set" p2) [o] [] b] X.env=[(J,eval (.Call (.Name "set" p2) [o] [] b) X.env)]:=by rfl) (c:c9 [o] X.env=[(J,eval o X.env)]:=by rfl):XE X (.Call (.Name "sorted" p) [.Call (.Name "set" p2) [o] [] b] [] pos) (mN (b1 j8) (dn m dq)):=
 ⟨eP (pc (FC hc) hg hm (by decide+kernel) (kC (mD (Jn hc) hg2 hm2 (by decide+kernel) (kC ho.h ph c) (he:=c)) ph he) (he:=he)) <| by
  rintro σ H Q ⟨r,mu,S,d,D,he,n,hm,g⟩;obtain⟨⟨ds,F⟩,f,hm⟩:=oB1.mp hm;obtain⟨⟨s,C⟩,y,f⟩:=oB1.mp f;cases f;dsimp only[b1,j8]at hm;split at hm
  ·rename_i xs w;obtain⟨ns,A,hm⟩:=oB1.mp hm;split at hm
   ·rename_i k;cases hm;refine⟨r,mu,S,s,_,he,n,y,λv H1 mu1 z l i=>?_⟩;obtain⟨a,vs,rfl,q,t⟩:=dJ l i w;refine⟨a,vs,ns,O,q,λE x=>(zG t x A).1,bq (Nat.succ_lt_succ k) (by decide),λp h=>?_⟩;refine⟨p,ddI ns,O,d9,bK (Lu ns) k,λp2 e=>?_⟩;have B:Ext mu1 mu1 H1 (upd H1 p (.ext (kk (byT X.w) p (ddI ns)))):=Ext.fresh h;have j:=i.fresh (u:=.ext (kk (byT X.w) p (ddI ns))) h;exact g _ _ (mu1++[p2]) (z.trans (B.trans (Ext.new_ e))) (.ref (gi j.len _)) (j.newL (kB _) e)
   ·cases hm
  ·cases hm⟩
end
section
variable{X:Cx}{ag:List (c4×Obj)}{σ:L2.St}{H:Hp}{s:c3}{a:c4}{kvs:List (Key×V)}{k:Key}{v:V}{u r:cZ}{A:c6}{E:cZ->c3->Prop}
end
section
variable{X:Cx}
end
open AutoSeq1 (wpAny_loadPart')
section
variable{prog:c5}{w:c7}{A:c6}{E:cZ->c3->Prop}{s:c3}
end
section
variable{X:Cx}
end
section
variable{P:c5}{w:c7}{A:c6}{E:cZ->c3->Prop}{s:c3}
end
section
variable{X:Cx}
end
section
variable{X:Cx}{a b:Expr}{rest:List Expr}{pos:Pos}{ta tb:TE}{f g:FE}
end
section
variable{X:Cx}
theorem KR.len{K:Fg1}{H:Hp}{mu:List c4}{ks:List (Key×D)}{ws:List (Key×V)}(h:KR K H mu ks ws):ws.length=ks.length:=by
 induction h with
 |nil=>rfl
 |cons _ _ ih=>rw[lC1,lC1,ih]
def pI:G1:=λd S=>match d with
 | .ref n=>match S[n]? with
  |some (.dct kvs)=>Z (.int kvs.length,S)
  |_=>eB d S
 |_=>eB d S
theorem Jo:eN X (.builtin "len") (rN X.K (b1 pI)):=by
 intro ag s σ H xs j Q I r h;obtain⟨x,mu,S,d,i,g,c,f,b,a,hc⟩:=zi h;have p:=a;unfold pI at a;split at a
 ·rename_i n;split at a
  ·rename_i ys e;cases a;subst c;cases f with
   |ref o=>
    obtain⟨ws,m,q⟩:=b.dct e o;cases r with
    |cons l rt=>
     cases rt;cases l;refine Lv I (Rd.of m) λt s' k=>⟨.int ws.length,H,k,⟨_,O⟩,?_⟩;rw[q.len];exact hc.now (.int _) b
  ·exact eT ag s σ H xs j Q I r (by subst c;exact⟨mu,S,[_],i,g,.cons f .nil,b,(show b1 eB [_] S=_ from a),hc⟩)
 ·exact eT ag s σ H xs j Q I r (by subst c;exact⟨mu,S,[_],i,g,.cons f .nil,b,(show b1 eB [_] S=_ from a),hc⟩)
end
section
variable{P:c5}{w:c7}{A:c6}{E:cZ->c3->Prop}{b:Bool}
end
section
variable{X:Cx}
end
theorem wW:∀{b:List cZ} {ns:List Int},IntsAre b ns -> ∃xs:Array (Int×Tok),b.toArray=intItems xs/\xs.toList.map (·.1)=ns:=by
 intro b ns h
 induction h with
 |nil=>exact⟨#[],by simp[intItems],O⟩
 |cons n t _ ih=>
  obtain⟨xs,c,d⟩:=ih;refine⟨((n,t)::xs.toList).toArray,?_,by rw[mP1,d]⟩;have a:=congrArg Array.toList c;unfold intItems at a ⊢;rw[Array.toList_map]at a;rw[List.map_toArray,mP1]
  congr 1
  rw[<- a]
section
variable{X:Cx}
end
section
variable{prog:c5}{w:c7}{A:c6}{E:cZ->c3->Prop}{s:c3}
end
section
variable{X:Cx}{ag:List (c4×Obj)}{σ:L2.St}{H:Hp}{s:c3}{mu:List c4}
end
section
variable{X:Cx}
end
section
variable{X:Cx}{f:c4}{fd:dg}{ps:List Str}{k n:Nat}{sp:Sp}{dvs:List V}{ds:List cZ}{CX:Av}{E:XK}{t:TA}{e:Expr}{es:List Expr}{p pos:Pos}{i:Nat}{v x:Str}
end
section
variable{prog:c5}{w:c7}{K:Type} [DecidableEq K] {knd:HeapKind prog w K}{A:c6}{E:cZ->c3->Prop}{s:c3}
end
section
variable{X:Cx}
def NI:G1:=λd S=>match d with
 | .ref n=>match S[n]? with
  |some (.dcT kvs)=>Z (.int kvs.length,S)
  |_=>pI d S
 |_=>pI d S
def Ma:G2:=λd e S=>match e with
 | .ref n=>match S[n]? with
  |some (.dct [])=>match keyT d with
   |some _=>Z (.bl M,S)
   |none=>gY d e S
  |_=>gY d e S
 |_=>gY d e S
def zO:G2:=λd e S=>match e with
 | .ref n=>match S[n]? with
  |some (.dct [])=>match keyT d with
   |some _=>Z (.bl J,S)
   |none=>fZ d e S
  |_=>fZ d e S
 |_=>fZ d e S
theorem KM(j:X.A.units+64<cLine):fQ X (compareOp .In) (r2 X.K (b2 zO)):=by
 intro ag s σ H x y u w Q I p o h;obtain⟨mu,S,d,e,r,m,l,c,f,a,hc⟩:=qp h;have back:fZ d e S=Z (r,m)->db (model X.prog X.w) X.A (compareOp .In u w) (EP X ag σ Q) X.xe s:=λa=>j2 j ag s σ H x y u w Q I p o ⟨mu,S,[d,e],r,m,.cons l (.cons c .nil),f,a,hc⟩;unfold zO at a;split at a
 ·rename_i n;split at a
  ·rename_i B;split at a
   ·rename_i k t;cases a;cases c with
    |ref v=>
     cases o;obtain⟨ws,D,C⟩:=f.dct B v;cases C;obtain⟨z,A,vs,i,q⟩:=yA I.hok D;cases i;obtain⟨b,rfl,rfl,rk,E,hi⟩:=j7 I l p t;have g:s.heap.DictOfH (fY X.prog X.w) _ []:=vy q;refine wpAny_in_heap (jA j) hi A g ?_;exact⟨.bl J,H,I.tok _,O,hc.now (.bl _) f⟩
   ·exact back a
  ·exact back a
 ·exact back a
end
theorem MB.fits{es:Array (Int×cZ)}{t:SetTable}(h:MB es t):t.fits es.size=M:=by
 unfold SetTable.fits SetTable.fill;rw[h.du,h.sz];have:=h.fl;simp;exact this
def L1(h:df)(k:TK)(e:Int×cZ):Prop:=∃a,e=(k.hash,.ref a)/\gy h k (.ref a)/\k.dep<=8
section
variable{prog:c5}{w:c7}{A:c6}{E:cZ->c3->Prop}{s:c3}
end
theorem gy.keepsS{h h':df}{p:c4}{es:Array (Int×cZ)}{ep:Nat}{t:SetTable}(ho:h.get? p=some (stO es ep t))(hs:∀ a o,a≠p->h.get? a=some o->h'.get? a=some o):∀ {k:TK} {v:cZ},gy h k v->gy h' k v:=fun e=>e.rec (motive_1:=fun k v _=>gy h' k v) (motive_2:=fun k v _=>iu h' k v) .non .int
  (λ{a} _ _ _ _ c c1 d _ ih=>.tup (hs a _ (λz=>by subst z;rw[c]at ho;cases ho;cases d) c) c1 d ih) .nil (λ_ _ a b=>.cons a b)
theorem gy.grows{h h':df}(hs:∀ a o,h.get? a=some o->h'.get? a=some o):∀ {k:TK} {v:cZ},gy h k v->gy h' k v:=fun d=>d.rec (motive_1:=fun k v _=>gy h' k v) (motive_2:=fun k v _=>iu h' k v) .non .int
  (λ{a} _ _ _ _ c c1 e _ ih=>.tup (hs a _ c) c1 e ih) .nil (λ_ _ a b=>.cons a b)
theorem L1.keep{h h':df}{p:c4}{es:Array (Int×cZ)}{ep:Nat}{t:SetTable}(ho:h.get? p=Z (stO es ep t))(hs:∀a o,a≠p->h.get? a=Z o->h'.get? a=Z o){k:TK}{e:Int×cZ}(x:L1 h k e):L1 h' k e:=by
 obtain⟨a,b,d,c⟩:=x;exact⟨a,b,d.keepsS ho hs,c⟩
def LS(h:df)(xs:List (TK×c4×cZ)):Prop:=∀z∈xs,gy h z.1 (.ref z.2.1)/\z.1.dep<=8
theorem LS.el{h:df}{xs:List (TK×c4×cZ)}{es:Array (Int×cZ)}(b:LS h xs)(a:∀e∈es.toList,∃z∈xs,e=(z.1.hash,.ref z.2.1)):∀e∈es.toList,∃f,L1 h f e:=λe d=>by
 obtain⟨z,c,rfl⟩:=a e d;exact⟨z.1,z.2.1,O,(b z c).1,(b z c).2⟩
section
variable{P:c5}{w:c7}{A:c6}{E:cZ->c3->Prop}{s:c3}{p:c4}{xs:List (TK×c4×cZ)}
end
section
variable{P:c5}{w:c7}{A:c6}{E:cZ->c3->Prop}
end
section
variable{X:Cx}
end
section
variable{X:Cx}{pos:Pos}
theorem ce{op:CmpOp}{x y:Expr}{f:FN}{a b:FE}(ho:fQ X (compareOp op) (r2 X.K f))(hx:XE X x a)(hy:XE X y b)(hm:behindInMarks op y=J:=by exact BU _):XE X (.Compare x [op] [y] pos) (m2 f a b):=Dv ho hx hy hm
theorem ct{op:CmpOp}{x y:Expr}{f:FN}{a b:FE}(ho:fQ X (compareOp op) (r2 X.K f))(hx:XE X x a)(hy:XE X y b)(hm:behindInMarks op y=J:=by exact BU _):XT X (.Compare x [op] [y] pos) (mB (m2 f a b)):=qX ho hx hy hm
theorem kc{a:dj}{i:Nat}{l:List Nat}(x:Str)(r:∀i∈l,∃x,X.N[i]?=Z x/\a.names.lookup x=Z .free/\(X.env.kindOf x=Z .cell\/X.env.kindOf x=Z .free)/\(x,NameKind.cell)∉a.names)(h1:X.N[i]?=Z x:=by rfl)(h2:a.names.lookup x=Z .free:=by rfl)(c:X.env.kindOf x=Z .cell\/X.env.kindOf x=Z .free:=by first|exact Or.inl rfl|exact Or.inr rfl)(b:(x,NameKind.cell)∉a.names:=by decide+kernel):∀j∈i::l,∃x,X.N[j]?=Z x/\a.names.lookup x=Z .free/\(X.env.kindOf x=Z .cell\/X.env.kindOf x=Z .free)/\(x,NameKind.cell)∉a.names:=List.forall_mem_cons.mpr ⟨⟨x,h1,h2,c,b⟩,r⟩
end
structure dY (K:Fg1)(x:Str)(st:di)(f:c4):Prop where
 ns:wN1 K c8 x=some (some (.ref f))
 fn:∃fd,yV K x x st f fd
theorem Li{K:Fg1}{x:Str}{st:di}{f:c4}{j:cZ}{g i:Option c4}{e:Array (Option cZ)}{kV d h b ct:cZ}(a:wN1 K c8 x=Z (Z (.ref f)))(l:K.lookup f=Z ⟨j,g,.func (wF1 x x (i8 st) (fB st) (dX st) .none kV d h i b ct),e⟩)(c:wC1 K b x=M)(k:wK1 K (.ref f)=M):dY K x st f:=⟨a,_,CL l c k⟩
theorem xo{P:c5}{w:c7}{K:Fg1}{mg:Str->Option cZ}{base h:df}{x:Str}{st:di}{f:c4}{N ps:List Str}{k n:Nat}{b:FS}(X:K.In h)(G:h.Ns c8 mg)(F:dY K x st f)(S:g9 N ps (dX st))(hb:∀(kV e j:cZ) (l:Option c4) (a ct:cZ) (g:List cZ),g.length=ps.length->bindArgs (wF1 x x (i8 st) (fB st) (dX st) .none kV e j l a ct) ⟨g,[]⟩=pure (ps.zip g))(c:∀(f:c4) (a:cZ) (A:c6) (d:List Env) (s:c3) (H:Hp) (E:XK),gf k (A.deeper (envOfC x (dX st) s.heap.objs.size f a)) ->
   xl (nV vT P w K mg base N x (dX st) f a A d s H E).nox (fB st) b)(hn:ps.length=n:=by rfl):Own P w K mg base (k+1) x n (gG N.length b):=by
 obtain⟨fd,i⟩:=F.fn;exact xB i (i.binds hb) (wM1 X G F.ns) S hn (c f)
section
variable{X:Cx}{ag:List (c4×Obj)}{σ:L2.St}{H:Hp}{s:c3}{mu:List c4}
end
section
variable{P:c5}{w:c7}{A:c6}{E:cZ->c3->Prop}{s:c3}{a x:c4}{xs:List (TK×c4×cZ)}{k:TK}
end
section
variable{X:Cx}
end
section
variable{X:Cx}{o e:Expr}{es:List Expr}{to:TE}{t:TA}{name:Str}{apos cpos:Pos}{id:String}{r:V->List V->Hp->VK->Prop}
end
section
variable{X:Cx}
end
section
variable{X:Cx}{x y z u:Expr}{pos:Pos}{f g k:FN}{a b c d:FE}{op op' op'':CmpOp}{ta tb tc td:TE}
end
structure Blt (L:List Str)(mg:Str->Option cZ):Prop where
 h:∀x∈L,mg x=none
theorem bz{L:List Str}{mg:Str->Option cZ}{x:Str}(B:Blt L mg)(h:x∈L:=by decide):mg x=Y:=B.h x h
theorem sk{N P:List Str}{sc:dj}(h1:sc.kind = .function:=by rfl)(h2:sc.isCoroutine=J:=by rfl)(a:sc.isGenerator=J:=by rfl)(d:N.Nodup:=by decide+kernel)(c:N.take P.length=P:=by rfl)(e:∀x∈P,sc.names.lookup x=Z .local\/sc.names.lookup x=Z .cell:=by decide+kernel)(b:∀y∈sc.names,y.2 ≠ .free:=by decide+kernel):g9 N P sc:=⟨h1,h2,a,d,c,e,b⟩
def LQ(K:Fg1):List Str->Prop
 |[]=>True
 |x::l=>wN1 K c8 x=Z Y/\LQ K l
theorem LQ.blt{K:Fg1}{mg:Str->Option cZ}{h:df}(X:K.In h)(G:h.Ns c8 mg):∀{L:List Str},LQ K L->Blt L mg
 |[],_=>⟨λ_ m=>nomatch m⟩
 |_::_,z=>⟨λ_ m=>match m with
  | .head _=>PySem.W.mg_none_of X G z.1
  | .tail _ m=>(LQ.blt X G z.2).h _ m⟩
def L4:List Str->Bool
 |[]=>M
 |x::l=> !l.contains x&&L4 l
theorem gH:∀{l:List Str},L4 l=M->l.Nodup
 |[],_=>bA
 |x::l,h=>by
  obtain⟨a,b⟩:=(bA1 _ _).mp h;exact aO.mpr ⟨λm=>(by rw[cw.mpr m]at a;cases a),gH b⟩
section
variable{X:Cx}{pos:Pos}{k:Nat}{x:Str}{i:Nat}{e y:Expr}{es:List Expr}{m b:FE}{a:FA}{p:Pos}
theorem xv (hN:X.N[i]?=Z x:=by rfl)(hv:Vis X.env.scope x:=by first|exact Or.inl rfl|exact Or.inr (Or.inl rfl)|exact Or.inr (Or.inr rfl))(hd:(x == ("__debug__":Str))=J:=by decide)(hcd:(x == ("__classdict__":Str))=J:=by decide):XE X (.Name x pos) (mV i):=NT i hN hv hd hcd
theorem gq(hN:L4 X.N=M:=by rfl)(hi:X.N[i]?=Z x:=by rfl)(hx:xy X.env.scope x:=by first|exact Or.inl rfl|exact Or.inr rfl)(hf:X.fn x=M\/X.env.scope.names.lookup x=Z .local:=by first|exact .inl rfl|exact .inr rfl|assumption):XG X (.Name x pos) (gN i):=qO i (gH hN) hi hx hf
theorem sq(he:XE X e m)(hN:L4 X.N=M:=by rfl)(hi:X.N[i]?=Z x:=by rfl)(hx:xy X.env.scope x:=by first|exact Or.inl rfl|exact Or.inr rfl)(hs:swapsWith e (Z (.Name x p)) pos.line X.env=pure J:=by rfl)(hf:X.fn x=M\/X.env.scope.names.lookup x=Z .local:=by first|exact .inl rfl|exact .inr rfl|assumption):XS X (.Assign [.Name x p] e pos) (dH m (gN i)):=qY i (gH hN) hi hx he hs hf
theorem jq(hx:XE X e m)(hy:XE X y b)(hr:gf k X.A:=by assumption)(hs:oz y:=by intro _ _;rfl):XE X (.Subscript e y pos) (m2 (b2 dz) m b):=qJ (qP hr.units) hx hy hs
theorem oq{au:Prop}(o:X.A.units+64<cLine->au)(hr:gf k X.A:=by assumption):au:=o hr.units
theorem wn {k' n:Nat}{f:FN}(h:Own X.prog X.w X.K X.mg X.base k x n f)(ha:XA X (e::es) a)(hr:gf k' X.A:=by assumption)(hk:k<=k':=by first|decide|omega)(hg:Gl X x:=by rfl)(hdb:(x == ("__debug__":Str))=J:=by decide)(he:c9 (e::es) X.env=(J,eval e X.env)::c9 es X.env:=by rfl)(hpl:(backTo pos (c9 es X.env)).any (·.1)=J:=by rfl):XE X (.Call (.Name x p) (e::es) [] pos) (mN (dv n f) a):=qH h hr hk hg ha hdb he hpl
theorem cn {id:String}{f:FN}(hc:eN X (.builtin id) (rN X.K f))(ha:XA X (e::es) a)(hm:X.mg x=Y:=by exact bz (by assumption))(hg:Gl X x:=by rfl)(hv:bootBuiltins x=Z (.builtin id):=by decide+kernel)(hn:x≠"__name__":=by decide)(hdb:(x == ("__debug__":Str))=J:=by decide)(he:c9 (e::es) X.env=(J,eval e X.env)::c9 es X.env:=by rfl)(hpl:(backTo pos (c9 es X.env)).any (·.1)=J:=by rfl):XE X (.Call (.Name x p) (e::es) [] pos) (mN f a):=qD hc hg hm hv ha hn hdb he hpl
theorem cz {T:String}{f:FN}(hc:eN X (.type T) (rN X.K f))(ha:XA X (e::es) a)(hm:X.mg x=Y:=by exact bz (by assumption))(hg:Gl X x:=by rfl)(hv:bootBuiltins x=Z (.type T):=by decide+kernel)(hn:x≠"__name__":=by decide)(hdb:(x == ("__debug__":Str))=J:=by decide)(he:c9 (e::es) X.env=(J,eval e X.env)::c9 es X.env:=by rfl)(hpl:(backTo pos (c9 es X.env)).any (·.1)=J:=by rfl):XE X (.Call (.Name x p) (e::es) [] pos) (mN f a):=qE hc hg hm hv ha hn hdb he hpl
theorem a1(h:XE X e m)(hs:c9 [e] X.env=(J,eval e X.env)::c9 [] X.env:=by rfl):XA X [e] (dn m dq):=qA h qN hs
theorem a2(h:XE X e m)(g:XE X y b)(hs:c9 [e,y] X.env=(J,eval e X.env)::c9 [y] X.env:=by rfl)(hs2:c9 [y] X.env=(J,eval y X.env)::c9 [] X.env:=by rfl):XA X [e,y] (dn m (dn b dq)):=qA h (a1 g hs2) hs
theorem a3{z:Expr}{c:FE}(h:XE X e m)(g:XE X y b)(l:XE X z c)(hs:c9 [e,y,z] X.env=(J,eval e X.env)::c9 [y,z] X.env:=by rfl)(hs2:c9 [y,z] X.env=(J,eval y X.env)::c9 [z] X.env:=by rfl)(a:c9 [z] X.env=(J,eval z X.env)::c9 [] X.env:=by rfl):XA X [e,y,z] (dn m (dn b (dn c dq))):=qA h (a2 g l hs2 a) hs
theorem ir (ha:XA X [e] a)(hm:X.mg "range"=Y:=by exact bz (by assumption))(hg:Gl X "range":=by rfl)(hs:c9 [e] X.env=[(J,eval e X.env)]:=by rfl):XI X y (.Call (.Name "range" p) [e] [] pos) (nS a):=v6 hg hm ha hs
theorem ie {elts:List Expr}{b:Nat}{tpos:Pos}(ha:XA X [e] a)(hm:X.mg "enumerate"=Y:=by exact bz (by assumption))(hg:Gl X "enumerate":=by rfl)(hs:c9 [e] X.env=[(J,eval e X.env)]:=by rfl):XI X (.Tuple elts b tpos) (.Call (.Name "enumerate" p) [e] [] pos) (Aq a):=Az hg hm ha hs
theorem ii {T:Ty}{p2:Pos}(h:XE X e m)(hm:X.mg "isinstance"=Y:=by exact bz (by assumption))(hm2:X.mg x=Y:=by exact bz (by assumption))(hg:Gl X "isinstance":=by rfl)(hg2:Gl X x:=by rfl)(hv2:bootBuiltins x=Z (.type T.nm):=by decide+kernel)(hn:x≠"__name__":=by decide)(hd:(x == ("__debug__":Str))=J:=by decide)(hs1:c9 [e,.Name x p2] X.env=(J,eval e X.env)::c9 [.Name x p2] X.env:=by rfl)(hs2:c9 [.Name x p2] X.env=(J,eval (.Name x p2) X.env)::c9 [] X.env:=by rfl)(hpl:(backTo pos (c9 [.Name x p2] X.env)).any (·.1)=J:=by rfl):XE X (.Call (.Name "isinstance" p) [e,.Name x p2] [] pos) (gx T m):=v7 T hg hm hg2 hm2 hv2 h hn hd hs1 hs2 hpl
structure Lm (X:Cx)(name:Str)(id:String)(f:FN):Prop where
 s:Slot "list" name id
 t:typeOf (.builtin id)=pure (.type "method_descriptor")
 m:JH X id (λx xs H Q=>rN X.K f (x::xs) H Q)
theorem ap:Lm X "append" "list.append" (b2 kW):=⟨PySem.F.slot_list_append,PySem.F.type_list_append,JZ⟩
theorem lq{f:FN}{name:Str}{apos:Pos}{id:String}(s:Lm X name id f)(ho:XE X y m)(ha:XA X (e::es) a)(hbase:attributeBase y name X.env (eval y X.env)=eval y X.env:=by rfl)(hfew:((backTo pos (c9 (e::es) X.env)).all (λx=> !x.1)&&(backToKw pos (keywordEach [] X.env)).all (λx=>x.1.isSome)&&decide ((e::es).length+([]:List Keyword).length+(if([]:List Keyword).isEmpty then 0 else 1)<30))=M:=by rfl)(hline:(apos.endLine == pos.line)=M:=by rfl)(hs:c9 (e::es) X.env=(J,eval e X.env)::c9 es X.env:=by rfl)(hplain:(backTo pos (c9 es X.env)).any (·.1)=J:=by rfl):XS X (.Expr (.Call (.Attribute y name apos) (e::es) [] pos) p) (fm (ug f m a)):=oB (qe s.s s.t s.m ho ha hbase hfew hline hs hplain)
theorem fo{tg iter:Expr}{a:List di}{m:FI}{g:FG}{b:FS}(hi:XI X tg iter m)(hg:XG X tg g)(hb:xl X a b)(hp:PassesOwn (model X.prog X.w) X.A X.env X.xe:=by exact PassesOwn.never)(hc:X.calm=M:=by rfl)(hs:∀x,foldedSetIterable iter X.env x=pure x:=by intro _;rfl):XS X (.For tg iter a [] pos) (fD m g b):=qW hp hc hi hg hb hs
theorem tg2{d:Expr}{g h:FG}{a:Nat}(h1:XG X e g)(h2:XG X d h)(hc:X.calm=M:=by rfl)(hs:(assignEach [e,d] X.env).map (·.2)=assign e X.env::(assignEach [d] X.env).map (·.2):=by rfl)(hs2:(assignEach [d] X.env).map (·.2)=assign d X.env::(assignEach [] X.env).map (·.2):=by rfl)(hn:(assignEach [e,d] X.env).length=2:=by rfl)(hst:(assignEach [e,d] X.env).findIdx? (·.1)=Y:=by rfl):XG X (.Tuple [e,d] a pos) (gT 2 (eU g (eU h i7))):=gU hc (dP h1 (dP h2 f0 hs2) hs) hn hst
def L5(x:Str):List (Str×NameKind)->Bool
 |[]=>M
 |(y,.cell)::l=> !(y == x)&&L5 x l
 |_::l=>L5 x l
omit k i in
theorem BY:∀{l:List (Str×NameKind)},L5 x l=M->(x,NameKind.cell)∉l
 |[],_,m=>nomatch m
 |(y,c)::l,h,m=>by
  rcases aE.mp m with e|a
  ·cases e;have h:=((bA1 _ _).mp h).1;rw[beq_self_eq_true]at h;cases h
  ·cases c with
   |cell=>exact BY ((bA1 _ _).mp h).2 a
   |_=>exact BY (l:=l) h a
theorem kz{a:dj}{l:List Nat}(r:∀i∈l,∃x,X.N[i]?=Z x/\a.names.lookup x=Z .free/\(X.env.kindOf x=Z .cell\/X.env.kindOf x=Z .free)/\(x,NameKind.cell)∉a.names)(h1:X.N[i]?=Z x:=by rfl)(h2:a.names.lookup x=Z .free:=by rfl)(c:X.env.kindOf x=Z .cell\/X.env.kindOf x=Z .free:=by first|exact Or.inl rfl|exact Or.inr rfl)(b:L5 x a.names=M:=by rfl):∀j∈i::l,∃x,X.N[j]?=Z x/\a.names.lookup x=Z .free/\(X.env.kindOf x=Z .cell\/X.env.kindOf x=Z .free)/\(x,NameKind.cell)∉a.names:=kc x r h1 h2 c (BY b)
def NN(X:Cx)(sc:dj):List (Str×c4):=(kX X.env.cells sc.names []).getD []
theorem fk{elt tg iter:Expr}{ifs:List Expr}{scope:dj}(T:List Str){keep:List Nat}{m:FI}{g:FG}{t:FT}{e:FE}(hi:XI X tg iter m)(hb:∀ {s H d},Ni (cxC X scope (NN X scope) T keep s H d) X.K tg ifs elt g t e)(free:∀i∈keep,∃x,X.N[i]?=Z x/\scope.names.lookup x=Z .free/\(X.env.kindOf x=Z .cell\/X.env.kindOf x=Z .free)/\(x,NameKind.cell)∉scope.names:=by first|exact cy _|exact kz (cy _)|exact kz (kz (cy _))|exact kz (kz (kz (cy _)))|exact kz (kz (kz (kz (cy _)))))(hc:X.calm=M:=by rfl)(b:scope.kind = .function:=by rfl)(a:∀x∈scope.names,x.2 = .local->scope.names.lookup x.1=Z .local:=by decide+kernel)(c:kX X.env.cells scope.names []=Z (NN X scope):=by rfl)(hs:∀x,foldedSetIterable iter X.env x=pure x:=by intro _;rfl):XE X (.ListComp elt [⟨tg,iter,ifs,0⟩] scope pos) (d6 T.length keep m g t (dU e)):=qZ hc ⟨b,a,free⟩ c hi (λ_ _ _=>hb) hs
end
theorem xq{P:c5}{w:c7}{K:Fg1}{mg:Str->Option cZ}{base h:df}{x:Str}{st:di}{f:c4}{k n:Nat}{b:FS}(N:List Str)(X:K.In h)(G:h.Ns c8 mg)(F:dY K x st f)(c:∀{f:c4} {a:cZ} {A:c6} {d:List Env} {s:c3} {H:Hp} {E:XK},gf k (A.deeper (envOfC x (dX st) s.heap.objs.size f a)) ->
   xl (nV vT P w K mg base N x (dX st) f a A d s H E).nox (fB st) b)(S:g9 N (N.take n) (dX st):=by exact sk)(hb:∀(kV i j:cZ) (m:Option c4) (a ct:cZ) (e:List cZ),e.length=(N.take n).length->bindArgs (wF1 x x (i8 st) (fB st) (dX st) .none kV i j m a ct) ⟨e,[]⟩=pure ((N.take n).zip e):=by
   intro _ _ _ _ _ _ e g;first|exact NF g λ_=>rfl|exact NE g λ_ _=>rfl|exact MU g λ_ _ _=>rfl|exact ND g λ_ _ _ _=>rfl)(hn:(N.take n).length=n:=by rfl):Own P w K mg base (k+1) x n (gG N.length b):=xo X G F S hb (λ_ _ _ _ _ _ _ l=>c l) hn
open AutoSeq1 (wpAny_loadPart')
section
variable{X:Cx}
end
mutual
def pl:D->Bool
 | .non=>M
 | .bl _=>M
 | .int _=>M
 | .str _=>M
 | .tup xs=>Nz xs
 |_=>J
def Nz:List D->Bool
 |[]=>M
 |x::xs=>pl x&&Nz xs
end
section
variable{X:Cx}{ag:List (c4×Obj)}{σ:L2.St}{H:Hp}{s:c3}{mu:List c4}{S:dr}
end
section
variable{prog:c5}{w:c7}{A:c6}{E:cZ->c3->Prop}{s:c3}
end
section
variable{X:Cx}{ag:List (c4×Obj)}{σ:L2.St}{H:Hp}{s:c3}{mu:List c4}{S:dr}
end
section
variable{prog:c5}{w:c7}{A:c6}{E:cZ->c3->Prop}{s:c3}
end
section
variable{X:Cx}
end
abbrev rk(ws:List cZ)(p:Keyed):Nat:=Ny ws p.1
section
variable{prog:c5}{w:c7}{A:c6}{E:cZ->c3->Prop}{s:c3}{κ:SortKind}{ws:List cZ}{a₀:Array Keyed}
end
structure Sm (st st':SortSt):Prop where
 k:kindOf st'=kindOf st
 a:arrOf st'=arrOf st
 p:pendingOf st'=pendingOf st
 f:failedOf st'=failedOf st
theorem Sm.rfl{st:SortSt}:Sm st st:=⟨_root_.rfl,_root_.rfl,_root_.rfl,_root_.rfl⟩
theorem Sm.g{st st':SortSt}(h:Sm st st')(g:Nat):Sm st (SortSt.mk' (kindOf st') (arrOf st') (pendingOf st') g (failedOf st')):=⟨h.k,h.a,h.p,h.f⟩
def Dq(ws:List cZ)(xs:List Keyed):Prop:=xs.Pairwise λp q=>rk ws p<rk ws q
def Ap(ws:List cZ)(xs ys:List Keyed):Prop:=∀x∈xs,∀y∈ys,rk ws x<rk ws y
section
variable{ws:List cZ}{a b out xs ys zs:List Keyed}{i j k:Nat}
theorem Dq.app(h1:Dq ws xs)(h2:Dq ws ys)(h:Ap ws xs ys):Dq ws (xs++ys):=List.pairwise_append.mpr ⟨h1,h2,h⟩
theorem Ap.app(h1:Ap ws xs zs)(h2:Ap ws ys zs):Ap ws (xs++ys) zs:=λx b y a=>(aF.mp b).elim (λh=>h1 x h y a) λh=>h2 x h y a
def Oz(ws:List cZ)(a b r:List Keyed):Prop:=r.Perm (a++b)/\Dq ws r
end
section
variable{prog:c5}{w:c7}{A:c6}{E:cZ->c3->Prop}{s:c3}{κ:SortKind}{ws:List cZ}{a₀:Array Keyed}
end
section
variable{ws:List cZ}{a b out xs ys zs:List Keyed}{i j k t:Nat}
theorem Ap.to(h1:Ap ws xs ys)(h2:Ap ws xs zs):Ap ws xs (ys++zs):=λx a y b=>(aF.mp b).elim (λh=>h1 x a y h) λh=>h2 x a y h
structure K0 (ws:List cZ)(a b out:List Keyed)(i j:Nat):Prop where
 la:i<=a.length
 lb:j<=b.length
 len:out.length+(i+j)=a.length+b.length
 pm:(a.take i++b.take j++out.reverse).Perm (a++b)
 so:Dq ws out.reverse
 ba:Ap ws (a.take i) out
 bb:Ap ws (b.take j) out
theorem K0.fs(h:K0 ws a b out i j)(e:Dq ws a)(f:Dq ws b)(hb:Ap ws (b.take j) (a.take i)):Oz ws a b (b.take j++a.take i++out.reverse):=by
 refine⟨(List.perm_append_comm.append_right _).trans h.pm,?_⟩;exact(Dq.app (f.sublist (aU _ _)) (e.sublist (aU _ _)) hb).app h.so (Ap.app (λx d y c=>h.bb x d y (List.mem_reverse.mp c)) λx d y c=>h.ba x d y (List.mem_reverse.mp c))
end
section
variable{prog:c5}{w:c7}{A:c6}{E:cZ->c3->Prop}{s:c3}{κ:SortKind}{ws:List cZ}{a₀:Array Keyed}
end
def Bx:Nat->List (List Keyed)->List (Nat×Nat×Nat)->Prop
 |_,[],[]=>True
 |s,r::rs,(t,n,_)::p=>t=s/\n=r.length/\Bx (s+r.length) rs p
 |_,_,_=>False
structure SR (ws:List cZ)(κ:SortKind)(a₀:Array Keyed)(rs:List (List Keyed))(rest:List Keyed)(st:SortSt):Prop where
 k:kindOf st=κ
 f:failedOf st=none
 pm:(arrOf st).Perm a₀
 ar:(arrOf st).toList=rs.flatten++rest
 so:∀r∈rs,Dq ws r/\r≠[]
 pe:Bx 0 rs (pendingOf st).toList
section
variable{prog:c5}{w:c7}{A:c6}{E:cZ->c3->Prop}{s:c3}{κ:SortKind}{ws:List cZ}{a₀:Array Keyed}
end
section
variable{prog:c5}{w:c7}{A:c6}{E:cZ->c3->Prop}{s:c3}{κ:SortKind}{ws:List cZ}{a₀:Array Keyed}{lo:Nat}{st0:SortSt}
end
section
variable{prog:c5}{w:c7}{A:c6}{E:cZ->c3->Prop}{s:c3}{κ:SortKind}{ws:List cZ}{a₀:Array Keyed}{rs:List (List Keyed)}{rest:List Keyed}{st st':SortSt}
theorem SR.size(h:SR ws κ a₀ rs rest st):rs.flatten.length+rest.length=a₀.size:=by
 have:=congrArg List.length h.ar;rw[aI,h.pm.size_eq,lA1]at this;exact this.symm
end
section
variable{prog:c5}{w:c7}{A:c6}{E:cZ->c3->Prop}{s:c3}
end
section
variable{X:Cx}
end
theorem kM:entryFor table "dict.update.loop"=Z Builtin.«dict.update.loop» :=entryFor_of_tree (by kernel_rfl)
theorem gL:plainId "dict.update.loop"=M:=by decide+kernel
theorem zr:typeLookup (.type "list") (Str.ofString "keys")=pure Y:=by rw[typeLookup_type,builtinLookup_eq_fast];kernel_rfl
section
variable{P:c5}{w:c7}{A:c6}{E:cZ->c3->Prop}{s:c3}
theorem Ah {a:c4}{xs:Array cZ}{k:Nat}{sl:Array (Option cZ)}{Q:Option cZ->c3->Prop}(hx:s.heap.get? a=some {cls:=.type "list",dict:=none,data:=.seq xs k,slots:=sl})(l:A.handled=none)
  (h:∀h' tk,(∀b o,s.heap.get? b=Z o->h'.get? b=Z o)->Q Y {s with heap:=h',toks:=tk}):db (model P w) A (getAttr? (.ref a) (Str.ofString "keys")) Q E s:=by
 obtain⟨j,g,d,tk,m⟩:=s;have i:∀c,(⟨j,g,d,c,m⟩:c3).TypeIs (.ref a) "list":=λ_=>⟨_,hx,O⟩;have u:=sub_AttributeError;have q:=PySem.F.slot_list_getattribute.lookup;have r:=PySem.F.slot_list_getattribute.bind (.ref a);have v:=am_list_getattr_none;unfold getAttr? getAttrBy? getAttrBy
 repeat(any_goals (first|assumption|exact i _|((with_reducible show db _ _ (call (Value.builtin "list.__getattribute__") _ _) _ _ _);refine call_meets PySem.F.slot_list_getattribute (i _) am_entry_list_getattribute (PySem.F.args_list_getattribute_2 _ _) (meets_getattribute_miss_list a xs k sl _ _ zr (by decide) (by decide)) ⟨hx,l,λh' c e f=>?_⟩)|wp_step))
 obtain⟨n,t,p⟩:=f.there;show db _ _ (getattributeRaised _ _ _ _ _ _ _) _ _ _;unfold getattributeRaised
 repeat(any_goals (first|assumption|wp_step))
 exact h _ _ f.keeps
variable{K:Type} [DecidableEq K] {knd:HeapKind P w K}
abbrev vX(K:Type):=K×c4×cZ
def ip(ps:List (vX K)):List (vX K):=ps.foldl (λa q=>storedH a q.1 q.2.1 q.2.2) []
theorem uv(xs:List (vX K))(k:K)(a:c4)(v:cZ):(storedH xs k a v).length<=xs.length+1:=by
 unfold storedH;split
 ·rw[lM1];exact bc _
 ·rw[lA1];exact nR1 _
theorem rZ:∀(ps acc:List (vX K)),(ps.foldl (λa q=>storedH a q.1 q.2.1 q.2.2) acc).length<=acc.length+ps.length
 |[],acc=>nR1 _
 |p::ps,acc=>by
  rw[bg,lC1];have h1:=rZ ps (storedH acc p.1 p.2.1 p.2.2);have h2:=uv acc p.1 p.2.1 p.2.2;lia
theorem w6{ps:List (vX K)}{i:Nat}{q:vX K}(h:ps[i]?=Z q):ip (ps.take (i+1))=storedH (ip (ps.take i)) q.1 q.2.1 q.2.2:=by
 unfold ip;rw[cj,h,cm];rfl
theorem vo{F:vX K->Prop}(d:∀(k:K) (a:c4) (v e:cZ),F (k,a,v)->F (k,a,e)):∀(ps acc:List (vX K)),(∀x∈ps,F x)->(∀x∈acc,F x) -> ∀x∈ps.foldl (λa q=>storedH a q.1 q.2.1 q.2.2) acc,F x
 |[],acc,_,h=>h
 |p::ps,acc,hp,h=>by
  rw[bg];refine vo d ps _ (λx b=>hp x (mC1 _ b)) λx b=>?_;unfold storedH at b;split at b
  ·obtain⟨y,c,rfl⟩:=ci.mp b;unfold putAt;split
   ·exact d _ _ y.2.2 _ (h y c)
   ·exact h y c
  ·rcases aF.mp b with z|z
   ·exact h x z
   ·simp at z;subst z;exact hp p mS1
theorem CM{h:df}{ps:List (vX K)}(hp:∀x∈ps,knd.is h x.1 x.2.1):∀x∈ip ps,knd.is h x.1 x.2.1:=
 vo (F:=λx=>knd.is h x.1 x.2.1) (λ_ _ _ _ z=>z) ps [] hp λx a=>by cases a
theorem zW{d l it:c4}{h0:df}{its:Array cZ}{ps:List (vX K)}{R:Result->c3->Prop}(hh:A.handled=none)(hu:knd.room A.in1)(u:its.size=ps.length)(hps:ps.length<=da)(V:h0.IsList l its)(nd:h0.get? d=none)(ni:h0.get? it=none)(m:d≠it)(f:∀(h:df) (k:K) (a:c4),(∀c o,h0.get? c=some o->h.get? c=some o)->knd.is h0 k a->knd.is h k a)(S:∀(i:Nat) (q:vX K),ps[i]?=some q -> ∃C:c4,its[i]?=some (Value.ref C)/\h0.IsTuple C #[Value.ref q.2.1,q.2.2]/\knd.is h0 q.1 q.2.1):
  ∀(n i:Nat) (s:c3),its.size-i=n->i<=its.size->(∀c o,h0.get? c=Z o->s.heap.get? c=Z o)->s.heap.IsListIter it l i->s.heap.DictOfH knd d (ip (ps.take i)) ->
  (∀h' tk,(∀c o,h0.get? c=Z o->h'.get? c=Z o)->h'.DictOfH knd d (ip ps)->R (.ok (.ret .none)) {s with heap:=h',toks:=tk})->de (model P w) A (.builtin "dict.update.loop" ⟨[.ref d,.ref it,.int i 0,.none],[]⟩) R s:=by
 have D:∀{c:c4} {o:Obj},h0.get? c=Z o->c≠d/\c≠it:=λ{c o} e=>⟨λz=>(by rw[z,nd]at e;cases e),λz=>(by rw[z,ni]at e;cases e)⟩;have t:∀i,∀x∈ip (ps.take i),knd.is h0 x.1 x.2.1:=λi=>CM λx p=>by
  obtain⟨j,hj⟩:=bB (cA p);obtain⟨_,_,_,h⟩:=S j x hj;exact h
 intro n
 induction n with
 |zero=>
  intro i s wq hi keep st N q;have e:i=its.size:=by lia
  subst e;have g:s.heap.IsList l its:=by obtain⟨o,e,r⟩:=V;exact⟨o,keep _ _ e,r⟩
  refine wD1 kM (?_:_);rw[Around.under_plainId gL _];show db _ A.in1 (pyNext (.ref it) >>= _) _ _ s;refine wB1 (wpAny_pyNext_list_end (by simpa using hh) st g (by simp) λh' E=>?_);refine wB1 (wP1 (wP1 ?_));refine q h' s.toks (λc o e=>E c o (D e).2 (keep c o e)) ?_;have v:h'.DictOfH knd d (ip (ps.take its.size)):=by
   obtain⟨o,es,ep,H,I,au,G,g5,Q⟩:=N;have k2:∀x∈ip (ps.take its.size),knd.is h' x.1 x.2.1:=λx p=>f _ _ _ (λc o e=>E c o (D e).2 (keep c o e)) (t _ x p);exact⟨o,es,ep,E d o m H,I,au,G,k2,Q⟩
  rw[u,b0]at v;exact v
 |succ n ih=>
  intro i s wq hi keep st N q;have am:i<its.size:=by lia
  have g:s.heap.IsList l its:=by obtain⟨o,e,r⟩:=V;exact⟨o,keep _ _ e,r⟩
  obtain⟨pr,y⟩:∃pr,ps[i]?=some pr:=⟨_,gG1 (by lia)⟩;obtain⟨C,p,⟨op,W,hc,np,hd⟩,L⟩:=S i pr y;refine wD1 kM (?_:_);rw[Around.under_plainId gL _];show db _ A.in1 (pyNext (.ref it) >>= _) _ _ s;refine wB1 (wpAny_pyNext_list_item st g p λh' st' U=>?_);have b:∀c o,h0.get? c=Z o->h'.get? c=Z o:=λc o e=>by rw[U.2 c (D e).2];exact keep c o e
  have ao:h'.DictOfH knd d (ip (ps.take i)):=by
   obtain⟨o,es,ep,H,I,au,G,g5,Q⟩:=N;exact⟨o,es,ep,by rw[U.2 d m];exact H,I,au,G,λx p=>f _ _ _ b (t _ x p),Q⟩
  show db _ A.in1 (holding [Value.ref C] _ >>= _) _ _ _;refine wB1 (wpAny_holding (wB1 (wpAny_tryCatch ?_)));unfold Builtin.Dict.pairItems;refine wB1 (wpAny_typeOf (T:="tuple") ⟨op,b _ _ W,hc⟩ ?_);rw[ak (by decide)];refine wB1 (wpAny_seqItems (b _ _ W) hd (wP1 ?_));dsimp only[cB];refine wpAny_holding (wpAny_dictSet_heap (s:={s with heap:=h'}) hu (f _ _ _ b L) ao (λh2 F B=>?_) ?_)
  ·refine wP1 ⟨plainId_quiet gL _,?_⟩;have hq:=ih (i+1) {s with heap:=h2,toks:=s.toks+knd.draws pr.1} (by lia) am (fun c o e=>by rw [B.2 c (D e).1];exact b c o e) (by
    obtain⟨o,X,e2⟩:=st';exact⟨o,by rw[B.2 it (Ne.symm m)];exact X,e2⟩) (by rw[w6 y];exact F) λaq tk k3 x3=>q aq tk k3 x3
   exact hq
  ·have:=rZ (ps.take i) [];unfold ip;rw[aR]at this;simp at this;lia
theorem pX {l:c4}{xs:Array cZ}{m:Nat}{sl:Array (Option cZ)}{Q:cZ->c3->Prop}(r:A.handled=none)(hx:s.heap.get? l=some {cls:=.type "list",dict:=none,data:=.seq xs m,slots:=sl})
  (j:∀(i:c6) (h1:df) (tk:Nat) (it:c4),i.handled=Y->i.units<=A.units+2->(∀b o,s.heap.get? b=Z o->h1.get? b=Z o)->s.heap.get? it=Y->s.heap.objs.size≠it->h1.IsListIter it l 0->h1.DictOfH knd s.heap.objs.size [] ->
   ∀R:Result->c3->Prop,(∀s',Q (.ref s.heap.objs.size) s'->R (.ok (.ret .none)) s')->de (model P w) i (.builtin "dict.update.loop" ⟨[.ref s.heap.objs.size,.ref it,.int 0 0,.none],[]⟩) R {s with heap:=h1,toks:=tk}):
  db (model P w) A (call (.type "dict") [.ref l]) Q E s:=by
 refine callType_codes (Q₁:=λh d=>h = .ref s.heap.objs.size/\d={s with heap:=s.heap.push {cls:=.type "dict",data:=.dict #[]}}) PySem.F.kt_called_dict (PySem.F.kt_typeCall_dict_1 _) PySem.F.entry_dict_init (kt_code_dict_new _ ⟨O,O⟩) ?_;rintro h d ⟨rfl,rfl⟩;have c:(s.heap.push {cls:=.type "dict",data:=.dict #[]}).DictOfH knd s.heap.objs.size []:=Heap.DictOfH.new s.heap;have n:Shared.TypeIs {s with heap:=s.heap.push {cls:=.type "dict",data:=.dict #[]}} (.ref s.heap.objs.size) "dict":=c.typeIs;have g:(s.heap.push {cls:=.type "dict",data:=.dict #[]}).get? l=Z {cls:=.type "list",dict:=Y,data:=.seq xs m,slots:=sl}:=hP1 _ hx;refine⟨n,PySem.F.args_dict_init_2 _ _,?_⟩;unfold Builtin.«dict.__init__»;refine wB1 ?_;unfold Builtin.Dict.selfAndRest;refine wB1 (wpAny_notOrdered_dict n ?_);show db _ _ (pure (s.heap.objs.size,[Value.ref l])) _ _ _;refine wP1 ?_;show db _ _ (Builtin.Dict.updateFrom "dict.__init__" s.heap.objs.size (.ref l) [] .none) _ _ _;unfold Builtin.Dict.updateFrom;refine wB1 (wpAny_typeOf (T:="list") ⟨_,g,O⟩ ?_);rw[ak (by decide)];refine wB1 (Ah (s:={s with heap:=s.heap.push {cls:=.type "dict",data:=.dict #[]}}) g (by simpa using r) λh1 tk keep=>?_);rw[ak (show(Y:Option cZ).isNone=M from rfl)];have a:∀b o,s.heap.get? b=Z o->h1.get? b=Z o:=λb o e=>keep b o (hP1 _ e);have z:h1.IsList l xs:=⟨_,a _ _ hx,O,m,O⟩;refine wB1 (wpAny_rule (wB1 (wpAny_pyIter_list (s:={s with heap:=h1,toks:=tk}) z ?_)));obtain⟨t,es,ep,v,y,B,u,D,C⟩:=c;have p:=keep _ _ v;have k:=hL1 p;have f:h1.get? h1.objs.size=Y:=Heap.get?_none_of_le (nR1 _);refine wB1 (wP1 (wP1 ⟨plainId_quiet gL _,?_⟩));refine j A.in1 _ tk h1.objs.size (by simpa using r) (bc _) (λb o e=>hP1 _ (a b o e)) ?_ (nN1 k) ?_ ?_ _ λs' q=>⟨O,q⟩
 ·cases e:s.heap.get? h1.objs.size with
  |none=>rfl
  |some o=>rw[a _ _ e]at f;cases f
 ·exact⟨_,hS1 _ O,O,O⟩
 ·exact⟨t,es,ep,hP1 _ p,y,B,u,(λx hx=>by cases hx),C⟩
end
def NM(F:List (TK×D)):Ob:=match F with
 |[]=>.dct []
 |_=>.dcT F
def xY:D->Option (TK×D)
 | .tup [k,v]=>(keyT k).map λk=>(k,v)
 |_=>Y
def jY:List D->Option (List (TK×D))
 |[]=>Z []
 |x::xs=>(xY x).bind λp=>(jY xs).map (p :: ·)
def nw(ps:List (TK×D)):List (TK×D):=ps.foldl (λF p=>eY F p.1 p.2) []
def pL:G1:=λd S=>match dQ S d with
 |some (M,xs)=>(jY xs).bind λps=>if xs.length<=100000 then Z (.ref S.length,S++[NM (nw ps)])else Y
 |_=>Y
section
variable{X:Cx}{ag:List (c4×Obj)}{σ:L2.St}{H:Hp}{s:c3}{mu:List c4}
theorem BD(I:Inv X ag σ H s){d:D}{v:V}{u:cZ}{p:TK×D}(r:eQ X.K H mu d v)(q:dS v u)(h:xY d=some p):
  ∃w:vX TK,(p.1=w.1/\p.1.dep<=8/\eQ X.K H mu (tkD p.1) (.ref w.2.1) /\ ∃v,dS v w.2.2/\eQ X.K H mu p.2 v) /\ ∃g:c4,u = .ref g/\s.heap.IsTuple g #[Value.ref w.2.1,w.2.2]/\(fY X.prog X.w).is s.heap w.1 w.2.1:=by
 unfold xY at h;split at h
 ·rename_i k x;obtain⟨z,n,e⟩:=oM1.mp h;subst e;cases r with
  | @tup _ a vs h1 h2=>
   cases q;obtain⟨j,y,m,_⟩:=I.tuple h1;cases h2 with
   |cons o c=>cases c with
    |cons r2 f=>
     cases f;cases y with
     |cons l c=>cases c with
      |cons i f=>
       cases f;obtain⟨b,rfl,rfl,rk,t,hi⟩:=j7 I o l n;exact⟨(z,b,_),⟨O,t,rk,_,i,r2⟩,_,O,m,hi⟩
 ·cases h
theorem rr(I:Inv X ag σ H s):∀ {ds:List D} {vs:List V} {b:List cZ} {ps:List (TK×D)},dI X.K H mu ds vs->d5 vs b->jY ds=some ps ->
  ∃ws:List (vX TK),KT X.K H mu ps ws/\ws.length=b.length /\ ∀(i:Nat) (q:vX TK),ws[i]?=Z q -> ∃a:c4,b[i]?=Z (Value.ref a)/\s.heap.IsTuple a #[Value.ref q.2.1,q.2.2]/\(fY X.prog X.w).is s.heap q.1 q.2.1
 |[],_,_,ps,.nil,.nil,h=>by cases h;exact⟨[],.nil,O,λi q h=>by simp at h⟩
 |d::ds,_,_,ps,.cons r t,.cons q c,h=>by
  rw[jY]at h;obtain⟨p,g,h⟩:=oB1.mp h;obtain⟨m,e,h⟩:=oM1.mp h;subst h;obtain⟨w,j,a,f,k,l⟩:=BD I r q g;obtain⟨ws,h1,h2,n⟩:=rr I t c e;refine⟨w::ws,.cons j h1,by rw[lC1,lC1,h2],λi q h=>?_⟩;cases i with
  |zero=>simp at h;subst h;exact⟨a,by rw[f];rfl,k,l⟩
  |succ i=>exact n i q (by simpa using h)
theorem KT.fold{K:Fg1}:∀{ps:List (TK×D)} {ws:List (vX TK)} {as:List (TK×D)} {bs:List (vX TK)},KT K H mu ps ws->KT K H mu as bs->KT K H mu (ps.foldl (λF p=>eY F p.1 p.2) as) (ws.foldl (λa q=>storedH a q.1 q.2.1 q.2.2) bs):=by
 intro ps ws as bs h
 induction h generalizing as bs with
 |nil=>exact λg=>g
 | @cons p q ps ws r t ih=>
  intro g;obtain⟨e,c,rk,v,b,r2⟩:=r;rw[bg,bg,<- e];exact ih (g.put c rk b r2)
theorem zQ(ps:List (TK×D)):(nw ps).length<=ps.length:=by
 have:∀(ps a:List (TK×D)),(ps.foldl (λF p=>eY F p.1 p.2) a).length<=a.length+ps.length:=by
  intro ps
  induction ps with
  |nil=>intro a;exact nR1 _
  |cons p ps ih=>
   intro a;rw[bg,lC1];have h1:=ih (eY a p.1 p.2);have h2:=nv a p.1 p.2;lia
 have:=this ps [];simpa[nw]using this
theorem pf:∀{ds:List D} {ps:List (TK×D)},jY ds=Z ps->ps.length=ds.length
 |[],ps,h=>by cases h;rfl
 |d::ds,ps,h=>by
  rw[jY]at h;obtain⟨p,c,h⟩:=oB1.mp h;obtain⟨a,b,h⟩:=oM1.mp h;subst h;rw[lC1,lC1,pf b]
theorem FH{k:Nat}(hr:gf k X.A):eN X (.type "dict") (rN X.K (b1 pL)):=by
 intro ag s σ H xs us Q I r h;obtain⟨x,mu,S,d,r',S',rfl,r1,y,c,hc⟩:=zi h;unfold pL at c;split at c
 ·rename_i ds en;obtain⟨ps,ep,c⟩:=oB1.mp c;split at c
  ·rename_i hl;cases c;obtain⟨a,vs,rfl,q,t⟩:=dJ r1 y en;obtain⟨u,rfl,r2⟩:=im r;cases r2;obtain⟨v,ao,ht,hz⟩:=I.list q;obtain⟨ws,kt,m,T⟩:=rr I t ao ep;have w:v.length=ds.length:=by rw[<- ao.length,<- t.length]
   obtain⟨aq,n,N,l,A,f⟩:=ht;obtain⟨oc,od,oa,os⟩:=aq;dsimp only at l A f
   subst l A f
   have hu:=hr.un;refine pX (knd:=fY X.prog X.w) hr.hd N λW h1 tk it am hAu keep ni ne st hD R P=>?_;have K:ws.length<=100000:=by rw[m,w];exact hl
   have big:ws.length<=da:=aC K (by decide);refine zW (knd:=fY X.prog X.w) (h0:=s.heap) (its:=v.toArray) (ps:=ws) am (by show W.units+1+8<cLine;lia) (by rw[sT1];exact m.symm) big ⟨_,N,O,n,O⟩ (Heap.get?_none_of_le (nR1 _)) ni ne
    (λh k a e z=>⟨z.1.grows e,z.2⟩) (λi q e=>?_) _ 0 _ O (br _) keep st (by simpa[ip]using hD) λh' B b g=>P _ ?_
   ·obtain⟨wq,au,e2,e3⟩:=T i q e;exact⟨wq,by rw[cv];exact au,e2,e3⟩
   ·have C:H s.heap.objs.size=none:=I.fresh;have j:KT X.K H mu (nw ps) (ip ws):=KT.fold kt .nil;have D:(s.heap.objs.size == sysModules)=false:=beq_eq_false_iff_ne.mpr (Ne.symm (nN1 I.big));have E:(ip ws).length<=da:=by
     rw[<- j.length];have h1:=zQ ps;have h2:=pf ep;exact aC (by lia:(nw ps).length<=100000) (by decide)
    cases ef:nw ps with
    |nil=>
     rw[ef]at j hc;generalize ip ws=fw at j g E;cases j;obtain⟨o,es,G,V,g2,g3,U,g5,g6⟩:=g;have L:es = #[]:=Array.toList_inj.mp (by simpa using U);subst L;refine⟨.ref s.heap.objs.size,upd H s.heap.objs.size (.dK []),I.laid (t':=B) (o:=.dK []) b (nR1 _) ⟨br _,D,[],.nil,o,#[],G,V,g2,g3,?_,?_,bA⟩,O,hc _ _ (mu++[s.heap.objs.size]) (Ext.new_ C) (.ref (gi y.len _)) (y.new C ⟨[],d9,.nil⟩)⟩
     ·intro e L;simp at L
     ·exact .nil
    |cons p F=>
     rw[ef]at j hc;refine⟨.ref s.heap.objs.size,upd H s.heap.objs.size (.ext (iW s.heap.objs.size (ip ws))),I.laid (t':=B) b (nR1 _) (tP D g),O,hc _ _ (mu++[s.heap.objs.size]) (Ext.new_ C) (.ref (gi y.len _)) (y.new C ⟨_,d9,j.ext (Ext.new_ C),E⟩)⟩
  ·cases c
 ·cases c
end
section
variable{K:Fg1}{H:Hp}{mu nu:List c4}{a:c4}{h:Nat}
end
def CG:G2:=λd e S=>match d,e with
 | .int i,.int j=>if 0<=j/\j<=1000000/\i.natAbs<2^64 then Z (.int (i*2^j.toNat),S)else Y
 |_,_=>Y
def CF:G2:=λd e S=>match d,e with
 | .int i,.int j=>if 0<=j then Z (.int (i/2^j.toNat),S)else Y
 |_,_=>Y
def yw:G2:=λd e S=>match d,e with
 | .int i,.int j=>Z (.int (Builtin.bitAnd i j),S)
 |_,_=>Y
def pJ:G2:=λd e S=>match d,e with
 | .int i,.int j=>if 0<j/\j<2^64 then Z (.int (i/j),S)else Y
 |_,_=>Y
def vm:G1:=λd S=>match dQ S d with
 |some (M,xs)=>(lZ xs).bind λns=>Z (.int ns.sum,S)
 |_=>Y
theorem D6:∀(l:List (Int×Tok)),preSum (numAt l.toArray) l.length=(l.map (·.1)).sum:=by
 intro l;have h:∀k,k<=l.length->preSum (numAt l.toArray) k=((l.map (·.1)).take k).sum:=by
  intro k
  induction k with
  |zero=>intro _;rfl
  |succ k ih=>
   intro a;rw[preSum,ih (by lia),List.take_add_one,List.sum_append,numAt_eq]
   congr 1
   have:k<(l.map (·.1)).length:=by rw[lM1];lia
   rw[bM,gG1 this];simp
 rw[h _ (nR1 _),b7 (by simp)]
section
variable{X:Cx}
theorem KI:fQ X (binaryOp .LShift) (r2 X.K (b2 CG)):=jE (c:=F4) (v:=λi j=>.int (i*2^j.toNat)) (λd e S r a h=>by
 unfold CG at h;split at h
 ·split at h
  ·rename_i q;cases h;exact⟨_,_,O,O,q,O,O⟩
  ·cases h
 ·cases h) (λ_ _ _ _ _=>.int _) HI
theorem KH:fQ X (binaryOp .RShift) (r2 X.K (b2 CF)):=jE (c:=λ_ j=>0<=j) (v:=λi j=>.int (i/2^j.toNat)) (λd e S r a h=>by
 unfold CF at h;split at h
 ·split at h
  ·rename_i q;cases h;exact⟨_,_,O,O,q,O,O⟩
  ·cases h
 ·cases h) (λ_ _ _ _ _=>.int _) HH
theorem H7:fQ X (binaryOp .BitAnd) (r2 X.K (b2 yw)):=j0 (v:=λi j=>.int (Builtin.bitAnd i j)) (λd e S r a h=>by
 unfold yw at h;split at h
 ·cases h;exact⟨_,_,O,O,O,O⟩
 ·cases h) (λ_ _ _ _ _=>.int _) HP
theorem wJ:fQ X (binaryOp .FloorDiv) (r2 X.K (b2 pJ)):=jE (c:=λ_ j=>0<j/\j<2^64) (v:=λi j=>.int (i/j)) (λd e S r b h=>by
 unfold pJ at h;split at h
 ·split at h
  ·rename_i q;cases h;exact⟨_,_,O,O,q,O,O⟩
  ·cases h
 ·cases h) (λ_ _ _ _ _=>.int _) (opI λi j _ _ _ _ _ hc q=>by
  have h1:(0:Int)<j:=hc.1;refine floordiv_int (by lia) (by rw[Int.fdiv_eq_ediv_of_nonneg i (by lia)];exact q) (.inl (PyProof.noPylong_of_log2 ?_));have h2:j.natAbs<2^64:=by have:=hc.2;lia
  have a:j.natAbs≠0:=by lia
  have:=(Nat.log2_lt a).mpr h2;lia)
theorem Jm(c:X.calm=M):eN X (.builtin "sum") (rN X.K (b1 vm)):=by
 intro ag s σ H xs A Q I r h;obtain⟨x,mu,S,d,z,w,rfl,l,e,b,hc⟩:=zi h;unfold vm at b;split at b
 ·rename_i ds p;obtain⟨ns,k,b⟩:=oB1.mp b;cases b;obtain⟨a,vs,rfl,q,t⟩:=dJ l e p;obtain⟨u,rfl,r2⟩:=im r;cases r2;obtain⟨f,m,j,y⟩:=I.list q;have i:=rP t m k;obtain⟨xs,n,g⟩:=wW i;refine sum_intListG (I.ok.hd c) (by rw[<- n];exact j.isList) λh' tk v keep=>?_;have o:preSum (numAt xs) xs.size=ns.sum:=by rw[<- g];exact D6 xs.toList
  rw[o];exact⟨.int ns.sum,H,I.kept keep,⟨_,O⟩,hc.now (.int _) e⟩
 ·cases b
end
section
variable{X:Cx}{ag:List (c4×Obj)}{σ:L2.St}{H:Hp}{s:c3}{mu:List c4}{S:dr}
end
section
variable{X:Cx}
end
open AutoSeq1 (wpAny_loadPart')
section
variable{X:Cx}
end
section
variable{P:c5}{w:c7}{A:c6}{E:cZ->c3->Prop}{s:c3}
def l9(ps:List (Key×cZ)):List (Key×cZ):=ps.foldl (λa q=>stored a q.1 q.2) []
theorem w5{ps:List (Key×cZ)}{i:Nat}{q:Key×cZ}(h:ps[i]?=Z q):l9 (ps.take (i+1))=stored (l9 (ps.take i)) q.1 q.2:=by
 unfold l9;rw[cj,h,cm];rfl
theorem mR:∀(ps acc:List (Key×cZ)),(ps.foldl (λa q=>stored a q.1 q.2) acc).length<=acc.length+ps.length
 |[],acc=>nR1 _
 |p::ps,acc=>by
  rw[bg,lC1];have h1:=mR ps (stored acc p.1 p.2);have h2:=stored_length_le acc p.1 p.2;lia
theorem xb{d l it:c4}{h0:df}{its:Array cZ}{ps:List (Key×cZ)}{R:Result->c3->Prop}(K:A.handled=none)(g:its.size=ps.length)(Q:ps.length<=da)(E:h0.IsList l its)(nd:h0.get? d=none)(N:h0.get? it=none)(f:d≠it)(H:∀(i:Nat) (q:Key×cZ),ps[i]?=some q -> ∃(m:c4) (B:cZ),its[i]?=some (Value.ref m)/\h0.IsTuple m #[B,q.2]/\(eF P w).is q.1 B=true):
  ∀(n i:Nat) (s:c3),its.size-i=n->i<=its.size->(∀c o,h0.get? c=Z o->s.heap.get? c=Z o)->s.heap.IsListIter it l i->s.heap.DictOf (eF P w) d (l9 (ps.take i)) ->
  (∀h' tk,(∀c o,h0.get? c=Z o->h'.get? c=Z o)->h'.DictOf (eF P w) d (l9 ps)->R (.ok (.ret .none)) {s with heap:=h',toks:=tk})->de (model P w) A (.builtin "dict.update.loop" ⟨[.ref d,.ref it,.int i 0,.none],[]⟩) R s:=by
 have u:∀{c:c4} {o:Obj},h0.get? c=Z o->c≠d/\c≠it:=λ{c o} e=>⟨λz=>(by rw[z,nd]at e;cases e),λz=>(by rw[z,N]at e;cases e)⟩;intro n
 induction n with
 |zero=>
  intro i s am hi keep st y q;have e:i=its.size:=by lia
  subst e;have b:s.heap.IsList l its:=by obtain⟨o,e,r⟩:=E;exact⟨o,keep _ _ e,r⟩
  refine wD1 kM (?_:_);rw[Around.under_plainId gL _];show db _ A.in1 (pyNext (.ref it) >>= _) _ _ s;refine wB1 (wpAny_pyNext_list_end (by simpa using K) st b (by simp) λh' C=>?_);refine wB1 (wP1 (wP1 ?_));refine q h' s.toks (λc o e=>C c o (u e).2 (keep c o e)) ?_;have h:=y.extBut C f;rw[g,b0]at h;exact h
 |succ n ih=>
  intro i s am hi keep st y q;have t:i<its.size:=by lia
  have b:s.heap.IsList l its:=by obtain⟨o,e,r⟩:=E;exact⟨o,keep _ _ e,r⟩
  obtain⟨pr,j⟩:∃pr,ps[i]?=some pr:=⟨_,gG1 (by lia)⟩;obtain⟨m,B,S,⟨op,F,hc,W,au⟩,v⟩:=H i pr j;refine wD1 kM (?_:_);rw[Around.under_plainId gL _];show db _ A.in1 (pyNext (.ref it) >>= _) _ _ s;refine wB1 (wpAny_pyNext_list_item st b S λh' st' D=>?_);have a:∀c o,h0.get? c=Z o->h'.get? c=Z o:=λc o e=>by rw[D.2 c (u e).2];exact keep c o e
  have x:=y.sameBut D f;show db _ A.in1 (holding [Value.ref m] _ >>= _) _ _ _;refine wB1 (wpAny_holding (wB1 (wpAny_tryCatch ?_)));unfold Builtin.Dict.pairItems;refine wB1 (wpAny_typeOf (T:="tuple") ⟨op,a _ _ F,hc⟩ ?_);rw[ak (by decide)];refine wB1 (wpAny_seqItems (a _ _ F) au (wP1 ?_));dsimp only[cB];refine wpAny_holding (wpAny_dictSet_pairs (s:={s with heap:=h'}) v x (λh2 p k=>?_) ?_)
  ·refine wP1 ⟨plainId_quiet gL _,?_⟩;have L:=ih (i+1) {s with heap:=h2,toks:=s.toks+1} (by lia) t (fun c o e=>by rw [k.2 c (u e).1];exact a c o e) (by
    obtain⟨o,G,U⟩:=st';exact⟨o,by rw[k.2 it (Ne.symm f)];exact G,U⟩) (by rw[w5 j];exact p) λI tk ao V=>q I tk ao V
   exact L
  ·have:=mR (ps.take i) [];unfold l9;rw[aR]at this;simp at this;lia
end
def BF:D->Option (Key×D)
 | .tup [k,v]=>(qy k).map λk=>(k,v)
 |_=>Y
def mE:List D->Option (List (Key×D))
 |[]=>Z []
 |x::xs=>(BF x).bind λp=>(mE xs).map (p :: ·)
def vq(ps:List (Key×D)):List (Key×D):=ps.foldl (λF p=>eY F p.1 p.2) []
def pK:G1:=λd S=>match dQ S d with
 |some (M,xs)=>(mE xs).bind λps=>if xs.length<=100000 then Z (.ref S.length,S++[.dct (vq ps)])else Y
 |_=>Y
section
variable{X:Cx}{ag:List (c4×Obj)}{σ:L2.St}{H:Hp}{s:c3}{mu:List c4}
theorem BE(I:Inv X ag σ H s){d:D}{v:V}{u:cZ}{p:Key×D}(r:eQ X.K H mu d v)(q:dS v u)(h:BF d=some p):
  ∃(y:V) (g i:cZ) (f:c4),eQ X.K H mu p.2 y/\dS y i/\dS (kV p.1) g/\u = .ref f/\s.heap.IsTuple f #[g,i]:=by
 unfold BF at h;split at h
 ·rename_i k x;obtain⟨z,o,e⟩:=oM1.mp h;subst e;cases r with
  | @tup _ a vs h1 h2=>
   cases q;obtain⟨l,w,n,_⟩:=I.tuple h1;cases h2 with
   |cons t b=>cases b with
    |cons r2 c=>
     cases c;cases w with
     |cons m b=>cases b with
      |cons j c=>
       cases c;have:=kI t o;subst this;exact⟨_,_,_,_,r2,j,m,O,n⟩
 ·cases h
theorem rz(I:Inv X ag σ H s):∀ {ds:List D} {vs:List V} {c:List cZ} {ps:List (Key×D)},dI X.K H mu ds vs->d5 vs c->mE ds=some ps ->
  ∃(ys:List (Key×V)) (ws:List (Key×cZ)),KR X.K H mu ps ys/\KV ys ws/\ws.length=c.length /\ ∀(i:Nat) (q:Key×cZ),ws[i]?=Z q -> ∃(a:c4) (b:cZ),c[i]?=Z (Value.ref a)/\s.heap.IsTuple a #[b,q.2]/\(eF X.prog X.w).is q.1 b=M
 |[],_,_,ps,.nil,.nil,h=>by cases h;exact⟨[],[],.nil,.nil,O,λi q h=>by simp at h⟩
 |d::ds,_,_,ps,.cons r t,.cons q e,h=>by
  rw[mE]at h;obtain⟨p,g,h⟩:=oB1.mp h;obtain⟨w,f,h⟩:=oM1.mp h;subst h;obtain⟨y,b,z,a,k,j,o,u,x⟩:=BE I r q g;obtain⟨ys,ws,n,l,v,m⟩:=rz I t e f;refine⟨(p.1,y)::ys,(p.1,z)::ws,.cons ⟨O,k⟩ n,.cons ⟨O,j⟩ l,by rw[lC1,lC1,v],λi q h=>?_⟩;cases i with
  |zero=>simp at h;subst h;exact⟨a,b,by rw[u];rfl,x,pB o⟩
  |succ i=>exact m i q (by simpa using h)
theorem KR.fold{K:Fg1}:∀{ps as:List (Key×D)} {ys bs:List (Key×V)},KR K H mu ps ys->KR K H mu as bs->KR K H mu (ps.foldl (λF p=>eY F p.1 p.2) as) (ys.foldl (λa q=>ij a q.1 q.2) bs):=by
 intro ps as ys bs h
 induction h generalizing as bs with
 |nil=>exact λg=>g
 | @cons p q ps ws r t ih=>
  intro g;obtain⟨e,r2⟩:=r;rw[bg,bg,<- e];exact ih (g.put r2)
theorem KV.fold:∀{ys bs:List (Key×V)} {ws cs:List (Key×cZ)},KV ys ws->KV bs cs->KV (ys.foldl (λa q=>ij a q.1 q.2) bs) (ws.foldl (λa q=>stored a q.1 q.2) cs):=by
 intro ys bs ws cs h
 induction h generalizing bs cs with
 |nil=>exact λg=>g
 | @cons p q ps ws r t ih=>
  intro g;obtain⟨e,r2⟩:=r;rw[bg,bg,<- e];exact ih (L2.KV.put g p.1 r2)
theorem FF{k:Nat}(hr:gf k X.A):eN X (.type "dict") (rN X.K (b1 pK)):=by
 intro ag s σ H xs us Q I r h;obtain⟨x,mu,S,d,r',S',rfl,wq,A,b,hc⟩:=zi h;unfold pK at b;split at b
 ·rename_i ds en;obtain⟨ps,ep,b⟩:=oB1.mp b;split at b
  ·rename_i hl;cases b;obtain⟨a,vs,rfl,q,t⟩:=dJ wq A en;obtain⟨u,rfl,r2⟩:=im r;cases r2;obtain⟨l,L,aq,hz⟩:=I.list q;obtain⟨ys,ws,kr,kv,j,P⟩:=rz I t L ep;have m:l.length=ds.length:=by rw[<- L.length,<- t.length]
   obtain⟨V,n,ao,g,p,c⟩:=aq;obtain⟨oc,od,oa,os⟩:=V;dsimp only at g p c
   subst g p c
   refine pX (knd:=fY X.prog X.w) hr.hd ao λA' h1 tk it w hAu keep ni ne st hD R au=>?_;have B:ws.length<=100000:=by rw[j,m];exact hl
   have big:ws.length<=da:=aC B (by decide);have D:h1.DictOf (eF X.prog X.w) s.heap.objs.size []:=by
    obtain⟨o,es,v,U,g2,g3,T,g5,g6⟩:=hD;have E:es = #[]:=Array.toList_inj.mp (by simpa using T);subst E;exact⟨o,#[],v,U,g2,g3,λ_ E=>by simp at E,Pairs.nil,bA⟩
   refine xb (h0:=s.heap) (its:=l.toArray) (ps:=ws) w (by rw[sT1];exact j.symm) big ⟨_,ao,O,n,O⟩ (Heap.get?_none_of_le (nR1 _)) ni ne
    (λi q e=>?_) _ 0 _ O (br _) keep st (by simpa[l9]using D) λh' C f y=>au _ ?_
   ·obtain⟨W,uk,N,e2,e3⟩:=P i q e;exact⟨W,uk,by rw[cv];exact N,e2,e3⟩
   ·have F:H s.heap.objs.size=none:=I.fresh;have K:KR X.K H mu (vq ps) (ys.foldl (fun a q=>ij a q.1 q.2) []):=KR.fold kr .nil;have z:KV (ys.foldl (fun a q=>ij a q.1 q.2) []) (l9 ws):=KV.fold kv .nil;have G:(s.heap.objs.size == sysModules)=false:=beq_eq_false_iff_ne.mpr (Ne.symm (nN1 I.big));generalize ys.foldl (fun a q=>ij a q.1 q.2) []=yf at K z;have am:yf.length<=da:=by
     rw[z.length];have h1:=mR ws [];unfold l9;simp at h1;exact aC h1 big
    exact⟨.ref s.heap.objs.size,upd H s.heap.objs.size (.dK yf),I.laid (t':=C) (o:=.dK yf) f (nR1 _) ⟨am,G,_,z,y⟩,O,hc _ _ (mu++[s.heap.objs.size]) (Ext.new_ F) (.ref (gi A.len _)) (A.new F ⟨yf,d9,KR.ext (Ext.new_ F) K⟩)⟩
  ·cases b
 ·cases b
end
theorem He{kvs:List (Key×D)}{k:Key}{d:D}:kvs.length<=(eY kvs k d).length:=by
 unfold eY;split
 ·rw[lM1];exact nR1 _
 ·rw[lA1];exact bC _ _
theorem vp:∀(ps acc:List (Key×D)),acc.length<=(ps.foldl (λF p=>eY F p.1 p.2) acc).length
 |[],_=>nR1 _
 |p::ps,acc=>aC He (vp ps _)
theorem zP{α:Type}[DecidableEq α]{f:α->Key}(hf:∀x y,f x=f y->x=y){d:D}(x:α)(l:List α):((vq ((x::l).map λy=>(f y,d))).length == 1)=l.all λy=>decide (y=x):=by
 have a:∀l:List α,(((l.map λy=>(f y,d)).foldl (λF p=>eY F p.1 p.2) [(f x,d)]).length == 1)=l.all λy=>decide (y=x):=by
  intro l
  induction l with
  |nil=>rfl
  |cons y l ih=>
   rw[mP1,bg,bS];by_cases h:y=x
   ·subst h;have e:eY [(f y,d)] (f y) d=[(f y,d)]:=by simp[eY]
    rw[ah O,cC,<- ih];dsimp only;rw[e]
   ·have e:eY [(f x,d)] (f y) d=[(f x,d),(f y,d)]:=by
     have:¬ f x=f y:=λz=>h (hf _ _ z).symm;simp[eY,this]
    rw[ai h,aL];dsimp only;rw[e];have:=vp (l.map λy=>(f y,d)) [(f x,d),(f y,d)];simp only[lC1,bo]at this;rw[beq_eq_false_iff_ne];lia
 exact a l
def W{α:Type}(o:Option α)(Q:α->Prop):Prop:=∃x,o=Z x/\Q x
section
variable{α β:Type}{Q:α->Prop}
theorem dA{x:α}:W (Z x) Q↔Q x:=⟨λ⟨_,e,h⟩=>(by cases e;exact h),λh=>⟨x,O,h⟩⟩
theorem lH:W (Y:Option α) Q↔False:=⟨λ⟨_,e,_⟩=>(by cases e),False.elim⟩
theorem dw{o:Option β}{f:β->Option α}:W (o.bind f) Q↔W o λx=>W (f x) Q:=by
 cases o with
 |none=>exact⟨λ⟨_,e,_⟩=>(by cases e),λ⟨_,e,_⟩=>(by cases e)⟩
 |some x=>exact⟨λh=>⟨x,O,h⟩,λ⟨_,e,h⟩=>by cases e;exact h⟩
theorem lp{o:Option β}{f:β->α}:W (o.map f) Q↔W o λx=>Q (f x):=by
 cases o with
 |none=>exact⟨λ⟨_,e,_⟩=>(by cases e),λ⟨_,e,_⟩=>(by cases e)⟩
 |some x=>exact⟨λ⟨_,e,h⟩=>(by cases e;exact⟨x,O,h⟩),λ⟨_,e,h⟩=>(by cases e;exact⟨_,O,h⟩)⟩
theorem vS{c:Prop}[Decidable c]{a b:Option α}:W (if c then a else b) Q↔if c then W a Q else W b Q:=by split<;>exact Iff.rfl
theorem W.mono{o:Option α}{Q':α->Prop}(h:W o Q)(k:∀x,Q x->Q' x):W o Q':=let ⟨x,e,q⟩:=h;⟨x,e,k x q⟩
theorem W.of{o:Option α}{x:α}(e:o=Z x)(h:Q x):W o Q:=⟨x,e,h⟩
end
theorem d4{a b:FS}{r:Ev}{S:dr}{Q:Fl×Ev×dr->Prop}(R:Ev->dr->Prop)(h1:W (a r S) λp=>p.1 = .nx/\R p.2.1 p.2.2)(h2:∀r S,R r S->W (b r S) Q):W (dG a b r S) Q:=by
 obtain⟨⟨f,g,h⟩,e,c,d⟩:=h1;dsimp only at c d;subst c;unfold dG;rw[e];exact h2 g h d
theorem jf{n:Nat}{b:FS}{ds:List D}{S:dr}{Q:D×dr->Prop}(h:W (b (fI n ds) S) fun p=>match p.1 with
  | .rt d=>Q (d,p.2.2)
  | .nx=>Q (.non,p.2.2)
  |_=>False):W (gG n b ds S) Q:=by
 obtain⟨⟨f,a,c⟩,e,q⟩:=h;unfold gG;rw[e];cases f with
 |rt d=>exact⟨_,O,q⟩
 |nx=>exact⟨_,O,q⟩
 |bk=>exact q.elim
 |ct=>exact q.elim
theorem jP{n:Nat}{f:FN}{ds:List D}{S:dr}{Q:D×dr->Prop}(hn:ds.length=n)(a:D.unds 0 ds=J)(h:W (f ds S) λp=>Q (gc S.length p)):W (dv n f ds S) Q:=by
 obtain⟨⟨d,b⟩,e,q⟩:=h;exact⟨_,sf e hn a,q⟩
theorem jw{n:Nat}{f:FN}{ds:List D}{S:dr}{Q:D×dr->Prop}(hn:ds.length=n)(c:D.unds 0 ds=M)(h:W (f ds []) λp=>p.1.und 0=M/\Q (p.1,S)):W (dv n f ds S) Q:=by
 obtain⟨⟨d,g⟩,e,b,a⟩:=h;exact⟨_,Ab e hn c b,a⟩
mutual
theorem e9{n:Nat}:∀{d:D},d.und 0=M->d.und n=M
 | .non,_=>rfl
 | .bl _,_=>rfl
 | .int _,_=>rfl
 | .str _,_=>rfl
 | .tup xs,h=>by rw[D.und]at h ⊢;exact fq h
 | .rol xs,h=>by rw[D.und]at h ⊢;exact fq h
 | .fn _,_=>rfl
 | .ref k,h=>by simp[D.und]at h
theorem fq{n:Nat}:∀{ds:List D},D.unds 0 ds=M->D.unds n ds=M
 |[],_=>rfl
 |d::ds,h=>by
  rw[D.unds,bA1]at h ⊢;exact⟨e9 h.1,fq h.2⟩
end
theorem fA{c:List (Nat×List D)}{g:FG}{b:FS}{Q:Fl×Ev×dr->Prop}(I:Nat->Ev->dr->Prop):∀ (items:List D) (k:Nat) (r:Ev) (S:dr),I k r S ->
  (∀i r S,I i r S->qx S c=M) ->
  (∀i d,items[i]?=Z d -> ∀r S,I (k+i) r S->W (g d r S) λp=>W (b p.1 p.2) λq=>q.1 = .nx/\I (k+i+1) q.2.1 q.2.2) ->
  (∀r S,I (k+items.length) r S->Q (.nx,r,S))->W (jO c g b items r S) Q
 |[],k,r,S,hi,hok,_,hq=>by rw[jO];dsimp only;rw[ak (hok _ _ _ hi),dA];exact hq r S (by simpa using hi)
 |d::ds,k,r,S,hi,hok,hs,hq=>by
  rw[jO];dsimp only;rw[ak (hok _ _ _ hi),dw];obtain⟨p,j,h1⟩:=hs 0 d O r S (by simpa using hi);refine⟨p,j,?_⟩;dsimp only;rw[dw];obtain⟨⟨f,l,o⟩,h,h2,e⟩:=h1;refine⟨_,h,?_⟩;dsimp only at h2 e ⊢;subst h2;refine fA I ds (k+1) l o (by simpa using e) hok (λi m n r S a=>?_) λr S a=>hq r S (by rw[lC1,show k+(ds.length+1)=k+1+ds.length by lia];exact a);have:=hs (i+1) m (by simpa using n) r S (by rw[show k+(i+1)=k+1+i by lia];exact a);rw[show k+(i+1)+1=k+1+i+1 by lia]at this;exact this
theorem iA{c:List (Nat×List D)}{g:FG}{t:FT}{e:FE}{Q:List D×Ev×dr->Prop}(I:Nat->List D->Ev->dr->Prop):∀ (items:List D) (k:Nat) (acc:List D) (r:Ev) (S:dr),I k acc r S ->
  (∀i acc r S,I i acc r S->qx S c=M) ->
  (∀i d,items[i]?=Z d -> ∀acc r S,I (k+i) acc r S->W (g d r S) λp=>W (t p.1 p.2) λb=>if b.1=M then W (e p.1 b.2) λx=>I (k+i+1) (acc++[x.1]) p.1 x.2 else I (k+i+1) acc p.1 b.2) ->
  (∀xs r S,I (k+items.length) (acc++xs) r S->Q (xs,r,S))->W (fW c g t (dU e) items r S) Q
 |[],k,acc,r,S,hi,hok,_,hq=>by rw[fW];dsimp only;rw[ak (hok _ _ _ _ hi),dA];exact hq [] r S (by simpa using hi)
 |d::ds,k,acc,r,S,hi,hok,hs,hq=>by
  rw[fW];dsimp only;rw[ak (hok _ _ _ _ hi),dw];obtain⟨p,n,h1⟩:=hs 0 d O acc r S (by simpa using hi);refine⟨p,n,?_⟩;dsimp only;rw[dw];obtain⟨⟨b,q⟩,m,h2⟩:=h1;refine⟨_,m,?_⟩;have step:∀i f,ds[i]?=Z f -> ∀acc r S,I (k+1+i) acc r S->W (g f r S) λp=>W (t p.1 p.2) λb=>if b.1=M then W (e p.1 b.2) λx=>I (k+1+i+1) (acc++[x.1]) p.1 x.2 else I (k+1+i+1) acc p.1 b.2:=λi f o acc r S a=>by
   have:=hs (i+1) f (by simpa using o) acc r S (by rw[show k+(i+1)=k+1+i by lia];exact a);rw[show k+(i+1)+1=k+1+i+1 by lia]at this;exact this
  dsimp only at h2 ⊢;cases b with
  |true=>
   rw[ak O]at h2 ⊢;rw[dw,dU,lp];obtain⟨⟨x,l⟩,j,h⟩:=h2;refine⟨_,j,?_⟩;dsimp only at h ⊢;rw[lp];refine iA I ds (k+1) (acc++[x]) p.1 l (by simpa using h) hok step λxs r S a=>?_;refine hq _ r S ?_;rw[lC1,show k+(ds.length+1)=k+1+ds.length by lia];simpa using a
  |false=>
   rw[aj (by decide)]at h2 ⊢;refine iA I ds (k+1) acc p.1 q (by simpa using h2) hok step λxs r S a=>?_;refine hq _ r S ?_;rw[lC1,show k+(ds.length+1)=k+1+ds.length by lia];exact a
theorem ms{S:dr}{b:Bool}:wj S (.bl b)=Z b:=rfl
theorem LX{S:dr}:wj S .non=Z J:=rfl
theorem LY{S:dr}{i:Int}:wj S (.int i)=Z (i != 0):=rfl
theorem Fn{x y:Int}{S:dr}:gEq (.int x) (.int y) S=Z (.bl (x == y),S):=rfl
theorem Fh{x y:Int}{S:dr}:zN (.int x) (.int y) S=Z (.bl (!(x == y)),S):=rfl
theorem Fj{x y:Int}{S:dr}:w1 (.int x) (.int y) S=Z (.bl (decide (x<y)),S):=rfl
theorem yv{x y:Str}{S:dr}:gEq (.str x) (.str y) S=Z (.bl (x == y),S):=rfl
theorem Mb{x y:Str}{S:dr}:zN (.str x) (.str y) S=Z (.bl (!(x == y)),S):=rfl
theorem ite_and'{c p:Prop}[Decidable c]:(if c then p else False)↔c/\p:=by split<;>simp[*]
def Ar(j:Int):Bool:=decide (-(2^62)<=j)&&decide (j<2^62)
theorem gF{n:Nat}(h:n<2^60):Ar n=M:=by
 unfold Ar;rw[bA1,al,al];lia
theorem tZ{j:Int}(h: -(2^60)<=j)(h':j<2^60):Ar j=M:=by
 unfold Ar;rw[bA1,al,al];lia
def Bf(p:List D×dr)(Q:An×dr->Prop):Prop:=match p.1 with
 |[.int j]=>Ar j=M/\Q (⟨jn 0 j.toNat,[]⟩,p.2)
 |_=>False
def L3(p:List D×dr)(Q:An×dr->Prop):Prop:=match p.1 with
 |[.int i,.int j]=>Ar i=M/\Ar j=M/\Q (⟨jn i (j-i).toNat,[]⟩,p.2)
 |_=>False
theorem nL{m:FA}{r:Ev}{S:dr}{Q:An×dr->Prop}:W (nS m r S) Q↔W (m r S) λp=>Bf p Q:=by
 unfold nS;rw[dw];constructor
 ·refine λh=>h.mono λp q=>?_;unfold Bf;split at q
  ·rename_i j e
   try rw[e]
   rw[vS]at q;split at q
   ·rename_i hc;exact⟨by unfold Ar;rw[bA1,al,al];exact hc,dA.mp q⟩
   ·exact(lH.mp q).elim
  ·exact(lH.mp q).elim
 ·refine λh=>h.mono λp q=>?_;unfold Bf at q;split at q
  ·rename_i j e;obtain⟨a,b⟩:=q;unfold Ar at a;rw[bA1,al,al]at a
   try rw[e]
   try dsimp only
   rw[ak a];exact dA.mpr b
  ·exact q.elim
theorem LM{m:FA}{r:Ev}{S:dr}{Q:An×dr->Prop}:W (JM m r S) Q↔W (m r S) λp=>L3 p Q:=by
 unfold JM;rw[dw];constructor
 ·refine λh=>h.mono λp q=>?_;unfold L3;split at q
  ·rename_i i j e
   try rw[e]
   rw[vS]at q;split at q
   ·rename_i hc;refine⟨?_,?_,dA.mp q⟩
    ·unfold Ar;rw[bA1,al,al];exact⟨hc.1,hc.2.1⟩
    ·unfold Ar;rw[bA1,al,al];exact hc.2.2
   ·exact(lH.mp q).elim
  ·exact(lH.mp q).elim
 ·refine λh=>h.mono λp q=>?_;unfold L3 at q;split at q
  ·rename_i i j e;obtain⟨a,b,c⟩:=q;unfold Ar at a b;rw[bA1,al,al]at a b
   try rw[e]
   try dsimp only
   rw[ak ⟨a.1,a.2,b⟩];exact dA.mpr c
  ·exact q.elim
def fits(n:Nat):Bool:=decide (n<=da)
theorem dD{n:Nat}(h:n<=100000):fits n=M:=by unfold fits;rw[al];exact aC h (by decide)
theorem vr{n:Nat}:fits n=M↔n<=da:=by unfold fits;rw[al]
theorem NK:fits 0=M:=dD (by decide)
theorem NJ:fits 1=M:=dD (by decide)
theorem M8:fits 2=M:=dD (by decide)
theorem M7:fits 3=M:=dD (by decide)
theorem Ow:fits 4=M:=dD (by decide)
theorem Ov:fits 5=M:=dD (by decide)
theorem OB:fits 6=M:=dD (by decide)
theorem Ou:fits 7=M:=dD (by decide)
theorem Ot:fits 8=M:=dD (by decide)
theorem je{α:Type}{n:Nat}{o:Option α}{Q:α->Prop}:W (if n<=da then o else Y) Q↔fits n=M/\W o Q:=by
 rw[vr,vS];split
 ·rename_i h;exact⟨λq=>⟨h,q⟩,λq=>q.2⟩
 ·rename_i h;exact⟨λq=>(lH.mp q).elim,λq=>absurd q.1 h⟩
theorem ql{a:FA}{r:Ev}{S:dr}{Q:D×dr->Prop}:W (d8 a r S) Q↔W (a r S) λp=>fits p.1.length=M/\Q (.tup p.1,p.2):=by
 unfold d8;rw[dw];exact⟨λh=>h.mono λp q=>(je.mp q).imp_right dA.mp,λh=>h.mono λp q=>je.mpr (q.imp_right dA.mpr)⟩
theorem t8{a:FA}{r:Ev}{S:dr}{Q:D×dr->Prop}:W (eZ a r S) Q↔W (a r S) λp=>fits p.1.length=M/\Q (.ref p.2.length,p.2++[.lst p.1]):=by
 unfold eZ;rw[dw];exact⟨λh=>h.mono λp q=>(je.mp q).imp_right dA.mp,λh=>h.mono λp q=>je.mpr (q.imp_right dA.mpr)⟩
theorem fe{k:Nat}{keep:List Nat}{m:FI}{g:FG}{t:FT}{b:FV}{r:Ev}{S:dr}{Q:D×dr->Prop}:W (d6 k keep m g t b r S) Q↔W (m r S) λp=>W (fW p.1.chk g t b p.1.items (ju k keep r) p.2) λq=>fits q.1.length=M/\Q (.ref q.2.2.length,q.2.2++[.lst q.1]):=by
 unfold d6;rw[dw];refine⟨λh=>h.mono λp q=>?_,λh=>h.mono λp q=>?_⟩
 ·rw[dw]at q;exact q.mono λz w=>(je.mp w).imp_right dA.mp
 ·rw[dw];exact q.mono λz w=>je.mpr (w.imp_right dA.mpr)
theorem JA{xs ys:List D}{S:dr}{Q:D×dr->Prop}:W (eE (.tup xs) (.tup ys) S) Q↔fits (xs.length+ys.length)=M/\Q (.tup (xs++ys),S):=
 ⟨λq=>(je.mp q).imp_right dA.mp,λq=>je.mpr (q.imp_right dA.mpr)⟩
theorem JB{x y:Int}{S:dr}{Q:D×dr->Prop}:W (eE (.int x) (.int y) S) Q↔Q (.int (x+y),S):=dA
theorem xp{a b:Nat}{xs ys:List D}{S:dr}{Q:D×dr->Prop}(h1:S[a]?=Z (.lst xs))(h2:S[b]?=Z (.lst ys)):W (eE (.ref a) (.ref b) S) Q↔fits (xs.length+ys.length)=M/\Q (.ref S.length,S++[.lst (xs++ys)]):=by
 rw[eE];simp only[h1,h2];exact⟨λq=>(je.mp q).imp_right dA.mp,λq=>je.mpr (q.imp_right dA.mpr)⟩
theorem lr{n:Nat}{v:D}{xs:List D}{S:dr}{Q:D×dr->Prop}(h:S[n]?=Z (.lst xs)):W (kW (.ref n) v S) Q↔fits (xs.length+1)=M/\Q (.non,S.set n (.lst (xs++[v]))):=by
 rw[kW];simp only[h];rw[vS,vr];split
 ·rename_i a;exact⟨λq=>⟨a,dA.mp q⟩,λq=>dA.mpr q.2⟩
 ·rename_i a;exact⟨λq=>(lH.mp q).elim,λq=>absurd q.1 a⟩
theorem nK{n:Nat}{i:Nat}{xs:List D}{x:D}{S:dr}{Q:D×dr->Prop}(h:S[n]?=Z (.lst xs))(hx:xs[i]?=Z x)(q:Q (x,S)):W (dz (.ref n) (.int i) S) Q:=by
 refine W.of (x:=(x,S)) ?_ q;have a:=(gE1.mp hx).1;simp only[dz,mQ,CI,h,dQ,vW,wT,oS1,ak (show(0:Int)<=i by lia)];rw[ak (by lia)];simp[hx]
theorem jT{i:Nat}{xs:List D}{x:D}{S:dr}{Q:D×dr->Prop}(hx:xs[i]?=Z x)(q:Q (x,S)):W (dz (.tup xs) (.int i) S) Q:=by
 refine W.of (x:=(x,S)) ?_ q;have a:=(gE1.mp hx).1;simp only[dz,mQ,CI,dQ,vW,wT,oS1,ak (show(0:Int)<=i by lia)];rw[ak (by lia)];simp[hx]
theorem Jw{n:Nat}{i:Nat}{xs:List D}{v:D}{S:dr}{Q:D×dr->Prop}(h:S[n]?=Z (.lst xs))(hx:i<xs.length)(q:Q (.non,S.set n (.lst (xs.set i v)))):W (gI (.ref n) (.int i) v S) Q:=by
 refine W.of (x:=(.non,S.set n (.lst (xs.set i v)))) ?_ q;simp only[gI,l6,j9,h,wT,ak (show(0:Int)<=i by lia)];rw[ak (by lia)];simp
theorem Oj:aP 0 (Y:Option D)=[]:=rfl
theorem Nx:aP 1 (Y:Option D)=[Y]:=rfl
theorem N9:aP 2 (Y:Option D)=[Y,Y]:=rfl
theorem N7:aP 3 (Y:Option D)=[Y,Y,Y]:=rfl
theorem N6:aP 4 (Y:Option D)=[Y,Y,Y,Y]:=rfl
theorem N5:aP 5 (Y:Option D)=[Y,Y,Y,Y,Y]:=rfl
theorem N4:aP 6 (Y:Option D)=[Y,Y,Y,Y,Y,Y]:=rfl
theorem N3:aP 7 (Y:Option D)=[Y,Y,Y,Y,Y,Y,Y]:=rfl
theorem N2:aP 8 (Y:Option D)=[Y,Y,Y,Y,Y,Y,Y,Y]:=rfl
theorem OA:aP 9 (Y:Option D)=[Y,Y,Y,Y,Y,Y,Y,Y,Y]:=rfl
theorem Oi:aP 10 (Y:Option D)=[Y,Y,Y,Y,Y,Y,Y,Y,Y,Y]:=rfl
theorem MF:aP 11 (Y:Option D)=[Y,Y,Y,Y,Y,Y,Y,Y,Y,Y,Y]:=rfl
theorem Oh:aP 12 (Y:Option D)=[Y,Y,Y,Y,Y,Y,Y,Y,Y,Y,Y,Y]:=rfl
theorem Og:aP 13 (Y:Option D)=[Y,Y,Y,Y,Y,Y,Y,Y,Y,Y,Y,Y,Y]:=rfl
theorem Of:aP 14 (Y:Option D)=[Y,Y,Y,Y,Y,Y,Y,Y,Y,Y,Y,Y,Y,Y]:=rfl
theorem MD:aP 15 (Y:Option D)=[Y,Y,Y,Y,Y,Y,Y,Y,Y,Y,Y,Y,Y,Y,Y]:=rfl
theorem Oe:aP 16 (Y:Option D)=[Y,Y,Y,Y,Y,Y,Y,Y,Y,Y,Y,Y,Y,Y,Y,Y]:=rfl
theorem Od:aP 17 (Y:Option D)=[Y,Y,Y,Y,Y,Y,Y,Y,Y,Y,Y,Y,Y,Y,Y,Y,Y]:=rfl
theorem Oc:aP 18 (Y:Option D)=[Y,Y,Y,Y,Y,Y,Y,Y,Y,Y,Y,Y,Y,Y,Y,Y,Y,Y]:=rfl
theorem Oa:aP 19 (Y:Option D)=[Y,Y,Y,Y,Y,Y,Y,Y,Y,Y,Y,Y,Y,Y,Y,Y,Y,Y,Y]:=rfl
theorem N8:aP 20 (Y:Option D)=[Y,Y,Y,Y,Y,Y,Y,Y,Y,Y,Y,Y,Y,Y,Y,Y,Y,Y,Y,Y]:=rfl
theorem gE{α:Type}{T G:List α}{k:Nat}:(T++G)[T.length+k]?=G[k]?:=by rw[gR1 (by lia)];congr 1;lia
theorem dL{α:Type}{T G:List α}:(T++G)[T.length]?=G[0]?:=by rw[gR1 (by lia)];congr 1;lia
theorem yt{S:dr}{i j:Nat}{xs:List D}(h:S[i]?=Z (.lst xs))(h':S[j]?=Z (.lst [])):zN (.ref i) (.ref j) S=Z (.bl (!xs.isEmpty),S):=by
 unfold zN fc;rw[show(60:Nat)=59+1 from rfl,lC];simp only[dQ,h,h'];cases xs with
 |nil=>simp[vV]
 |cons x xs=>simp
theorem tu:∀(n:Nat) (lo:Int),jn lo n=(af n).map λi:Nat=>D.int (lo+i)
 |0,lo=>rfl
 |n+1,lo=>by
  rw[jn,tu n (lo+1),List.range_succ_eq_map,mP1,bD]
  congr 1
  ·simp
  ·apply cD;intro i _;simp only[Function.comp_apply,cE]
   congr 1
   push_cast
   lia
theorem jN(n:Nat):jn 0 n=(af n).map λi:Nat=>D.int i:=by
 rw[tu];apply cD;intro i _;simp
theorem kT{α:Type}{c:List (Nat×List D)}{g:FG}{t:FT}{e:FE}{S:dr}{f:α->D}{Q:List D×Ev×dr->Prop}(F:α->D)(P:Ev->Prop)(d:qx S c=true):∀ (xs:List α) (r:Ev),P r ->
  (∀a∈xs,∀r,P r->W (g (f a) r S) λp=>W (t p.1 p.2) λb=>b.1=M/\W (e p.1 b.2) λx=>x.1=F a/\x.2=S/\P p.1) ->
  (∀i,P i->Q (xs.map F,i,S))->W (fW c g t (dU e) (xs.map f) r S) Q
 |[],r,hr,_,h=>by rw[bj,fW];dsimp only;rw[ak d,dA];exact h r hr
 |a::xs,r,hr,hs,h=>by
  rw[mP1,fW];dsimp only;rw[ak d,dw];obtain⟨p,o,⟨b,m,n,⟨x,k,l,u,q⟩⟩⟩:=hs a mS1 r hr;refine⟨p,o,?_⟩;dsimp only;rw[dw];refine⟨b,m,?_⟩;dsimp only;rw[ak n,dw,dU,lp];refine⟨x,k,?_⟩;dsimp only;rw[u,lp];refine kT F P d xs p.1 q (λa s=>hs a (mC1 _ s)) λi j=>?_;have:=h i j;rw[mP1,<- l]at this;exact this
theorem iB{α:Type}{c:List (Nat×List D)}{g:FG}{t:FT}{e:FE}{S:dr}{f:α->D}{Q:List D×Ev×dr->Prop}(k:α->Bool)(F:α->D)(P:Ev->Prop)(d:qx S c=true):∀ (xs:List α) (r:Ev),P r ->
  (∀a∈xs,∀r,P r->W (g (f a) r S) λp=>W (t p.1 p.2) λb=>b.1=k a/\b.2=S/\P p.1/\(k a=M->W (e p.1 S) λx=>x.1=F a/\x.2=S)) ->
  (∀j,P j->Q ((xs.filter k).map F,j,S))->W (fW c g t (dU e) (xs.map f) r S) Q
 |[],r,hr,_,h=>by rw[bj,fW];dsimp only;rw[ak d,dA];exact h r hr
 |a::xs,r,hr,hs,h=>by
  rw[mP1,fW];dsimp only;rw[ak d,dw];obtain⟨p,w,⟨b,v,o,s,q,l⟩⟩:=hs a mS1 r hr;refine⟨p,w,?_⟩;dsimp only;rw[dw];refine⟨b,v,?_⟩;dsimp only;cases hk:k a with
  |true=>
   rw[o,hk,ak O,dw,dU,lp,s];obtain⟨x,u,l,n⟩:=l hk;refine⟨x,u,?_⟩;dsimp only;rw[n,lp];refine iB k F P d xs p.1 q (λa m=>hs a (mC1 _ m)) λj i=>?_;have:=h j i;rw[cF,hk,ak O,mP1,<- l]at this;exact this
  |false=>
   rw[o,hk,aj (by decide),s];refine iB k F P d xs p.1 q (λa m=>hs a (mC1 _ m)) λj i=>?_;have:=h j i;rw[cF,hk,aj (by decide)]at this;exact this
theorem vQ{α:Type}{f:α->Bool}:∀xs:List α,Mi.Dj (xs.map λx=>D.bl (f x))=Z (xs.all f)
 |[]=>rfl
 |x::xs=>by rw[mP1,Mi.Dj,vQ xs];rfl
mutual
theorem AI{n m:Nat}(h:n<=m):∀{d:D},d.und n=M->d.und m=M
 | .non,_=>rfl
 | .bl _,_=>rfl
 | .int _,_=>rfl
 | .str _,_=>rfl
 | .tup xs,q=>by rw[D.und]at q ⊢;exact i0 h q
 | .rol xs,q=>by rw[D.und]at q ⊢;exact i0 h q
 | .fn _,_=>rfl
 | .ref k,q=>by simp[D.und]at q ⊢;lia
theorem i0{n m:Nat}(h:n<=m):∀{ds:List D},D.unds n ds=M->D.unds m ds=M
 |[],_=>rfl
 |d::ds,q=>by
  rw[D.unds,bA1]at q ⊢;exact⟨AI h q.1,i0 h q.2⟩
end
theorem gB{n m:Nat}(h:n<=m):∀{o:Ob},o.und n=M->o.und m=M
 | .lst xs,q=>by rw[Ob.und]at q ⊢;exact i0 h q
 | .dct xs,q=>by rw[Ob.und]at q ⊢;exact i0 h q
 | .dcT xs,q=>by rw[Ob.und]at q ⊢;exact i0 h q
 | .dcF xs,q=>by rw[Ob.und]at q ⊢;exact i0 h q
 | .iset _,_=>rfl
 | .tst _,_=>rfl
theorem dW{α:Type}{n:Nat}{f:α->D}:∀{xs:List α},(∀x∈xs,(f x).und n=M)->D.unds n (xs.map f)=M
 |[],_=>rfl
 |x::xs,h=>by rw[mP1,D.unds,h x mS1,dW λy a=>h y (mC1 _ a)];rfl
theorem Oy{x:Nat}:x+1+1=x+2:=rfl
theorem OH{x:Nat}:x+2+1=x+3:=rfl
theorem OG{x:Nat}:x+3+1=x+4:=rfl
theorem OF{x:Nat}:x+4+1=x+5:=rfl
theorem OE{x:Nat}:x+5+1=x+6:=rfl
theorem OD{x:Nat}:x+6+1=x+7:=rfl
theorem Ox{x:Nat}:x+1+2=x+3:=rfl
theorem gX{xs:List D}{S:dr}:eB (.tup xs) S=Z (.int xs.length,S):=rfl
theorem L7{xs:List D}{S:dr}:eB (.rol xs) S=Z (.int xs.length,S):=rfl
theorem K4{S:dr}:eB (.str "") S=Z (.int 0,S):=rfl
theorem xN{xs:List D}{S:dr}:dQ S (.tup xs)=Z (J,xs):=rfl
theorem L0{xs:List D}{S:dr}:dQ S (.rol xs)=Z (M,xs):=rfl
theorem yG{xs:List D}{S:dr}:ke S (.tup xs)=[]:=rfl
theorem Md{xs:List D}{S:dr}:ke S (.rol xs)=[]:=rfl
theorem fR{n:Nat}{xs:List D}{S:dr}(h:S[n]?=Z (.lst xs)):dQ S (.ref n)=Z (M,xs):=by simp only[dQ,h]
theorem yH{n:Nat}{xs:List D}{S:dr}(h:S[n]?=Z (.lst xs)):ke S (.ref n)=[(n,xs)]:=by simp only[ke,h]
def sW(S:dr)(d:D)(Q:List D×List (Nat×List D)->Prop):Prop:=W (dQ S d) λq=>Q (q.2,ke S d)
theorem gh{xs:List D}{S:dr}{Q:List D×List (Nat×List D)->Prop}:sW S (.tup xs) Q↔Q (xs,[]):=dA
theorem eh{n:Nat}{xs:List D}{S:dr}{Q:List D×List (Nat×List D)->Prop}(h:S[n]?=Z (.lst xs))(q:Q (xs,[(n,xs)])):sW S (.ref n) Q:=by
 unfold sW;rw[fR h,yH h,dA];exact q
theorem iV{m:FE}{r:Ev}{S:dr}{Q:An×dr->Prop}:W (e6 m r S) Q↔W (m r S) λp=>sW p.2 p.1 λq=>Q (⟨q.1,q.2⟩,p.2):=by
 unfold e6;rw[dw];refine⟨λh=>h.mono λp q=>?_,λh=>h.mono λp q=>?_⟩
 ·rw[dw]at q;exact q.mono λz w=>dA.mp w
 ·rw[dw];exact W.mono (show W (dQ p.2 p.1) _ from q) λz w=>dA.mpr w
theorem qm{d:D}{S:dr}{Q:D×dr->Prop}:W (Mi.gTup d S) Q↔sW S d λq=>Q (.tup q.1,S):=by
 unfold Mi.gTup;rw[lp];exact Iff.rfl
theorem LK{n:Nat}{S:dr}{Q:D×dr->Prop}:W (eB (.ref n) S) Q↔sW S (.ref n) λq=>Q (.int q.1.length,S):=by
 unfold eB sW;rw[lp]
def pD(e:Nat×Nat):D:=.tup [.int e.1,.int e.2]
theorem kj{f:FN}{o:FE}{a:FA}{r:Ev}{S:dr}{Q:D×dr->Prop}(h:W (o r S) λp=>∃n xs,p.1 = .ref n/\p.2[n]?=Z (.lst xs)/\W (a r p.2) λq=>W (f (.ref n::q.1) q.2) Q):W (ug f o a r S) Q:=by
 unfold ug;rw[dw];refine h.mono ?_;rintro⟨d,b⟩ ⟨n,xs,rfl,e,q⟩;dsimp only at e q ⊢;rw[e];dsimp only;rw[dw];exact q
def fr(row:List (Nat×Nat)):Ob:=.lst (row.map pD)
theorem iD{n:Nat}{row:List (Nat×Nat)}:(fr row).und n=M:=by
 unfold fr;rw[Ob.und];exact dW λ_ _=>rfl
structure WS (t m:Nat)(T:dr)(E:List (List (Nat×Nat)))(P:List (Nat×Nat))(U:dr):Prop where
 tl:T.length=t
 low:U.take t=T
 el:E.length=m
 row:∀i row,E[i]?=some row->U[t+i]?=some (fr row)
 ends:U[t+m]?=some (.lst (ja (t+1) m))
 prs:U[t+m+1]?=some (.lst (P.map pD))
theorem WS.app{t m:Nat}{T:dr}{E:List (List (Nat×Nat))}{P:List (Nat×Nat)}{U G:dr}(w:WS t m T E P U):WS t m T E P (U++G):=by
 have b:t+m+1<U.length:=(gE1.mp w.prs).1;refine⟨w.tl,?_,w.el,λi a h=>?_,?_,?_⟩
 ·rw[cG (by omega)];exact w.low
 ·have:=w.row i a h;rw[gL1 (gE1.mp this).1];exact this
 ·rw[gL1 (by omega)];exact w.ends
 ·rw[gL1 (by omega)];exact w.prs
theorem lR:∀{k n i:Nat},i<k->(ja n k)[i]?=Z (.ref (n+i))
 |k+1,n,0,_=>rfl
 |k+1,n,i+1,h=>by rw[ja,gC1,lR (Nat.lt_of_succ_lt_succ h),show n+1+i=n+(i+1) by lia]
theorem jl:∀k n:Nat,(ja n k).length=k
 |0,_=>rfl
 |k+1,n=>by rw[ja,lC1,jl]
def tot(E:List (List (Nat×Nat))):Nat:=(E.map List.length).sum
theorem AO:∀{E:List (List (Nat×Nat))} {k:Nat},k<=E.length->(∀i b,i<k->E[i]?=Z b->4<=b.length)->4*k<=tot E
 |E,0,_,_=>by lia
 |[],k+1,h,_=>by simp at h
 |a::E,k+1,h,q=>by
  have h1:=q 0 a (by lia) O;have h2:=AO (E:=E) (k:=k) (by simpa using h) λi b hi c=>q (i+1) b (by lia) (by simpa using c);simp[tot]at h2 ⊢;lia
def nmD(rs:List Nat):List D:=rs.map λi:Nat=>D.int i
theorem fg(rs:List Nat):(nmD rs).length=rs.length:=by simp[nmD]
theorem fy(rs:List Nat):D.unds 0 (nmD rs)=M:=dW λ_ _=>rfl
abbrev Wk:=Nat×Nat×Nat
def eO(w:Wk):D:=.tup [.int w.1,.int w.2.1,.int w.2.2]
def eg(ws:List Wk):List D:=ws.map eO
theorem n3(ws:List Wk):(eg ws).length=ws.length:=by simp[eg]
theorem xD(ws:List Wk):D.unds 0 (eg ws)=M:=dW λ_ _=>rfl
def dM(ws:List Wk)(cs:List Nat):D:=.tup [.tup (eg ws),.tup (nmD cs)]
theorem gK{ws:List Wk}{cs:List Nat}:(dM ws cs).und 0=M:=by simp[dM,D.und,D.unds,xD,fy]
def fX(a b c d:Bool):List D:=(if a then[.str "came"]else[])++(if b then[.str "chalk"]else[])++(if c then[.str "doors"]else[])++(if d then[.str "others"]else[])
theorem pP(a b c d:Bool):D.unds 0 (fX a b c d)=M:=by cases a<;>cases b<;>cases c<;>cases d<;>rfl
theorem Fe{a b c d:Bool}{S:dr}:fZ (.str "came") (.tup (fX a b c d)) S=Z (.bl a,S):=by cases a<;>cases b<;>cases c<;>cases d<;>rfl
theorem Cv{a b c d:Bool}{S:dr}:fZ (.str "chalk") (.tup (fX a b c d)) S=Z (.bl b,S):=by cases a<;>cases b<;>cases c<;>cases d<;>rfl
theorem Cu{a b c d:Bool}{S:dr}:fZ (.str "doors") (.tup (fX a b c d)) S=Z (.bl c,S):=by cases a<;>cases b<;>cases c<;>cases d<;>rfl
theorem zK{a b c d:Bool}{S:dr}:fZ (.str "others") (.tup (fX a b c d)) S=Z (.bl d,S):=by cases a<;>cases b<;>cases c<;>cases d<;>rfl
theorem tI{S:dr}{n:Nat}{x:Nat}:∀cs:List Nat,Gq (lC S (n+1)) (.int x) (nmD cs)=Z (cs.contains x)
 |[]=>rfl
 |c::cs=>by
  have a:lC S (n+1) (.int c) (.int x)=Z ((c:Int) == (x:Int)):=rfl;have b:((c:Int) == (x:Int))=(x == c):=by
   rw[bT,beq_iff_eq,beq_iff_eq];lia
  have ih:=tI (S:=S) (n:=n) (x:=x) cs;rw[nmD,mP1,Gq,a,b];rw[nmD]at ih;rw[ih,List.contains_cons];rfl
theorem yo{S:dr}{x:Nat}{cs:List Nat}:fZ (.int x) (.tup (nmD cs)) S=Z (.bl (cs.contains x),S):=by
 simp only[fZ,w4,JN,dQ,oS1,fc,show(60:Nat)=59+1 from rfl,tI,oP1]
def wr(a b c d:Bool)(came chalk doors others:Int):D:=.tup [if a then .int came else .non,if b then .int chalk else .non,if c then .int doors else .non,if d then .int others else .non]
theorem rf{a b c d:Bool}{w x y z:Int}:(wr a b c d w x y z).und 0=M:=by cases a<;>cases b<;>cases c<;>cases d<;>rfl
theorem Cj{κ:Type}[DecidableEq κ]{k:κ}:dZ ([]:List (κ×D)) k=Y:=rfl
theorem fU{κ:Type}[DecidableEq κ]{k a:κ}{d:D}{r:List (κ×D)}:dZ ((a,d)::r) k=if a=k then Z d else dZ r k:=by
 unfold dZ;rw[bm];by_cases h:a=k
 ·simp[h]
 ·simp[h]
theorem vb{κ:Type}[DecidableEq κ]{k:κ}{b:List (κ×D)}:∀{a:List (κ×D)},dZ (a++b) k=(dZ a k).or (dZ b k)
 |[]=>rfl
 |(x,d)::a=>by
  rw[bt,fU,fU,vb (a:=a)];split<;>rfl
theorem rJ{κ:Type}[DecidableEq κ]{k:κ}:∀{a:List (κ×D)},(a.any λp=>decide (p.1=k))=J->dZ a k=Y
 |[],_=>rfl
 |(x,d)::a,h=>by
  simp only[bn,Bool.or_eq_false_iff,decide_eq_false_iff_not]at h;rw[fU,aj h.1];exact rJ h.2
theorem mJ{κ:Type}[DecidableEq κ]{k k':κ}{v:D}:∀{a:List (κ×D)},(a.any λp=>decide (p.1=k))=M->dZ (a.map λp=>if p.1=k then(p.1,v)else p) k'=if k'=k then Z v else dZ a k'
 |[],h=>by simp at h
 |(x,d)::a,h=>by
  rw[mP1];by_cases f:x=k
  ·subst f;rw[ak (show(x,d).1=x from rfl)];rw[fU,fU];by_cases c:k'=x
   ·subst c;simp
   ·rw[aj (Ne.symm c),aj (Ne.symm c),aj c];by_cases g:(a.any λp=>decide (p.1=x))=M
    ·rw[mJ g,aj c]
    ·have:(a.map fun p=>if p.1=x then (p.1,v) else p)=a:=by
      have e:(a.any λp=>decide (p.1=x))=J:=Bool.eq_false_iff.mpr g;rw[List.any_eq_false]at e
      conv=>rhs;rw[<- cH a]
      apply cD;intro p i;have:=e p i;simp at this;simp[this]
     rw[this]
  ·simp only[bn,ai f,Bool.false_or]at h;rw[aj (show¬ (x,d).1=k from f)];rw[fU,fU,mJ h];by_cases b:x=k'
   ·subst b;simp[f]
   ·simp[b]
theorem va{κ:Type}[DecidableEq κ]{k k':κ}{v:D}{a:List (κ×D)}:dZ (eY a k v) k'=if k'=k then Z v else dZ a k':=by
 unfold eY;split
 ·rename_i h;exact mJ h
 ·rename_i h;have h':(a.any λp=>decide (p.1=k))=J:=Bool.eq_false_iff.mpr h;rw[vb,fU,Cj];by_cases b:k'=k
  ·subst b;rw[rJ h',ak O];rfl
  ·rw[aj (Ne.symm b),aj b];cases dZ a k'<;>rfl
theorem put_len{κ:Type}[DecidableEq κ]{k:κ}{v:D}{a:List (κ×D)}:(eY a k v).length<=a.length+1:=by
 unfold eY;split
 ·rw[lM1];lia
 ·rw[lA1];simp
theorem Bj{κ:Type}[DecidableEq κ]{k:κ}{v:D}{a:List (κ×D)}:eY a k v≠[]:=by
 unfold eY;split
 ·rename_i h;intro z;cases a with
  |nil=>simp at h
  |cons x xs=>simp at z
 ·simp
def dO(F:List (TK×D)):Ob:=if F=[]then .dct []else .dcT F
theorem Jx{U:dr}{n:Nat}{F:List (TK×D)}{a v:D}{k:TK}{Q:D×dr->Prop}(h:U[n]?=Z (dO F))(hk:keyT a=Z k)(c:F.length<1000)(q:Q (.non,U.set n (dO (eY F k v)))):W (gI (.ref n) a v U) Q:=by
 refine W.of ?_ q;unfold dO at h ⊢;rw[aj Bj];by_cases b:F=[]
 ·subst b;rw[ak O]at h;simp only[gI,h,hk];rfl
 ·rw[aj b]at h;simp only[gI,h,hk,oS1];rw[ak (nL1 c (by decide))]
theorem Jz{U:dr}{n:Nat}{F:List (TK×D)}{a v:D}{k:TK}{Q:D×dr->Prop}(h:U[n]?=Z (dO F))(hk:keyT a=Z k)(hv:dZ F k=Z v)(q:Q (v,U)):W (dz (.ref n) a U) Q:=by
 refine W.of ?_ q;unfold dO at h;by_cases b:F=[]
 ·subst b;cases hv
 ·rw[aj b]at h;simp only[dz,h,hk,oS1,hv,oP1]
def ut(e:Nat×Nat):TK:=.tup [.int e.1,.int e.2]
theorem xK{a b:Nat×Nat}(h:ut a=ut b):a=b:=by
 obtain⟨a1,a2⟩:=a;obtain⟨b1,b2⟩:=b;simp[ut]at h
 ext<;>simp<;>lia
theorem yi{e:Nat×Nat}:keyT (pD e)=Z (ut e):=rfl
theorem Jy{U:dr}{n i:Nat}{xs:List D}{x:D}{Q:D×dr->Prop}(h:U[n]?=Z (.lst xs))(hx:xs[i]?=Z x)(hb:i<1000)(q:Q (x,U.set n (.lst (xs.eraseIdx i)))):W (CH (.ref n) (.int i) U) Q:=by
 have a:=(gE1.mp hx).1;refine W.of ?_ q;simp only[CH,h];rw[ak ⟨by lia,by lia⟩];simp only[wT,ak (show(0:Int)<=i by lia)];rw[ak (by lia)];simp[hx]
theorem pG{d:D}{S G:dr}(hd:d.und 0=M)(a:S.all (Ob.und S.length)=M):gc S.length (d,S++G)=(d,S):=by
 unfold gc;dsimp only;rw[cI,ak (by rw[e9 hd,a];rfl)]
theorem wX{d:D}{S V:dr}(hd:d.und 0=M)(a:S.all (Ob.und S.length)=M)(hp:S <+: V):gc S.length (d,V)=(d,S):=by
 obtain⟨G,rfl⟩:=hp;exact pG hd a
theorem Dk{m:FA}{r:Ev}{S:dr}{xs ys:List D}{n:Nat}{Q:An×dr->Prop}(hm:m r S=Z ([.tup xs,.ref n],S))(hn:S[n]?=Z (.lst ys))(q:Q (⟨ui xs ys,[(n,ys)]⟩,S)):W (Cy m r S) Q:=by
 refine W.of (x:=(⟨ui xs ys,[(n,ys)]⟩,S)) ?_ q;simp only[Cy,hm,oS1,xN,fR hn,yG,yH hn,bi]
theorem v3{α:Type}{f g:α->D}:∀l:List α,ui (l.map f) (l.map g)=l.map λx=>D.tup [f x,g x]
 |[]=>rfl
 |a::l=>by rw[mP1,mP1,ui,v3 l];rfl
theorem Dn{m:FA}{r:Ev}{S:dr}{xs:List D}{Q:An×dr->Prop}(hm:m r S=Z ([.tup xs],S))(q:Q (⟨zU 0 xs,[]⟩,S)):W (Aq m r S) Q:=by
 refine W.of (x:=(⟨zU 0 xs,[]⟩,S)) ?_ q;simp only[Aq,hm,oS1,xN,yG]
theorem tQ{α:Type}{f:α->D}:∀(l:List α) (k:Nat),zU k (l.map f)=(l.zipIdx k).map λp=>D.tup [.int (p.2:Nat),f p.1]
 |[],_=>rfl
 |a::l,k=>by rw[mP1,zU,tQ l (k+1),bN];rfl
theorem kq{α:Type}{l:List α}{p:α×Nat}(h:p∈l.zipIdx):l[p.2]?=Z p.1:=by
 have:=List.mem_zipIdx_iff_getElem?.mp h;exact this
theorem ls{α β:Type}(f:α->β)(l:List α):(l.zipIdx.map λp=>f p.1)=l.map f:=by
 have:(λp:α×Nat=>f p.1)=f∘Prod.fst:=rfl;rw[this,<- bD,List.zipIdx_map_fst]
mutual
theorem wu{n:Nat}:∀{d:D},d.und 0=M->d.sh n=d
 | .non,_=>rfl
 | .bl _,_=>rfl
 | .int _,_=>rfl
 | .str _,_=>rfl
 | .tup xs,h=>by rw[D.und]at h;rw[D.sh,i4 h]
 | .rol xs,h=>by rw[D.und]at h;rw[D.sh,i4 h]
 | .fn _,_=>rfl
 | .ref k,h=>by simp[D.und]at h
theorem i4{n:Nat}:∀{ds:List D},D.unds 0 ds=M->D.shs n ds=ds
 |[],_=>rfl
 |d::ds,h=>by
  rw[D.unds,bA1]at h;rw[D.shs,wu h.1,i4 h.2]
end
theorem Gv{n:Nat}{f:FN}{ds:List D}{S:dr}{Q:D×dr->Prop}(hn:ds.length=n)(c:D.unds 0 ds=M)(h:W (f ds []) λp=>∃xs,p=(.ref 0,[.lst xs])/\D.unds 0 xs=M/\Q (.ref S.length,S++[.lst xs])):W (dv n f ds S) Q:=by
 obtain⟨p,e,xs,rfl,b,q⟩:=h;refine⟨_,kf e hn c O,?_⟩;have a:(D.ref 0).sh S.length = .ref S.length:=rfl;have d:[Ob.lst xs].map (Ob.sh S.length)=[Ob.lst xs]:=by rw[mP1,bj,Ob.sh,i4 b]
 rw[a,d];exact q
theorem Iv{ns:List Int}{k:Int}:k∈ddI ns↔k∈ns:=by
 have b:∀(ns a:List Int),k∈ns.foldl step_dedup a↔k∈a\/k∈ns:=by
  intro ns
  induction ns with
  |nil=>intro a;simp
  |cons n ns ih=>
   intro a;rw[bg,ih];have:k∈step_dedup a n↔k∈a\/k=n:=by
    unfold step_dedup;split
    ·rename_i h;obtain⟨x,c,e⟩:=bU.mp h;have e:=beq_iff_eq.mp e;subst e;constructor
     ·exact .inl
     ·rintro(z|z)
      ·exact z
      ·rw[z];exact c
    ·simp
   rw[this,aE,or_assoc]
 unfold ddI;rw[b];simp
theorem DM{xs:List Nat}{m:Nat}{f:Nat->Bool}(h:∀r,r∈xs↔r<m/\f r=M):i3 (ddI (xs.map λ(r:Nat)=>(r:Int)))=((af m).filter f).map λ(r:Nat)=>(r:Int):=by
 refine og ?_ (lM _) ?_
 ·refine(fJ _).trans ?_;refine(List.perm_ext_iff_of_nodup (vF _ [] bA) ?_).mpr λk=>?_
  ·refine cJ.mpr ((List.nodup_range.filter f).imp λb z=>b (by lia))
  ·show k∈ddI _↔_;rw[Iv,ci,ci];constructor
   ·rintro⟨r,a,rfl⟩;exact⟨r,aA.mpr ⟨aB.mpr ((h r).mp a).1,((h r).mp a).2⟩,O⟩
   ·rintro⟨r,a,rfl⟩;obtain⟨h1,h2⟩:=aA.mp a;exact⟨r,(h r).mpr ⟨aB.mp h1,h2⟩,O⟩
 ·refine cJ.mpr ((List.pairwise_lt_range.sublist List.filter_sublist).imp λc=>by lia)
theorem Fa(xs:List Nat):mM (nmD xs)=Z (xs.map λ(r:Nat)=>(r:Int)):=by
 induction xs with
 |nil=>rfl
 |cons x xs ih=>
  show(mM (nmD xs)).map _=_;rw[ih];rfl
theorem Ak{S:dr}{n:Nat}{xs:List Nat}{m:Nat}{f:Nat->Bool}{Q:D×dr->Prop}(hn:S[n]?=Z (.lst (nmD xs)))(h:∀r,r∈xs↔r<m/\f r=M)(a:xs.length<64)(q:Q (.ref S.length,S++[.lst (nmD ((af m).filter f))])):W (j8 (.ref n) S) Q:=by
 refine W.of (x:=(.ref S.length,S++[.lst (nmD ((af m).filter f))])) ?_ q;simp only[j8,fR hn,Fa,oS1];rw[ak (by rw[lM1];exact a),DM h,bD];rfl
end Mi
end
local macro_rules | `(tactic| walk_at"w") => `(tactic| simp only[Mi.dA, Mi.lH, Mi.ite_and', Mi.dw, Mi.lp, Mi.vS, Mi.dG, Mi.dH, Mi.fh, Mi.ee, Mi.fm, Mi.kH, Mi.mN, Mi.dn, Mi.dq, Mi.m2, Mi.m1, Mi.mV, Mi.mC, Mi.ql, Mi.t8, Mi.mB, Mi.mI, Mi.wP, Mi.iz, Mi.gv, Mi.pv, Mi.u8, Mi.ea, Mi.mTr, Mi.ms, Mi.gN, Mi.gT, Mi.eU, Mi.i7, Mi.gS, Mi.b1, Mi.b2, Mi.b3, Mi.gG, Mi.fI, Mi.fe, Mi.nL, Mi.LM, Mi.Bf, Mi.L3, Mi.fD, Mi.ju, Mi.JA, Mi.JB, Mi.gSub, Mi.gR, Mi.l8, Mi.Fn, Mi.Fh, Mi.Fj, Mi.yv, Mi.NK, Mi.NJ, Mi.M8, Mi.M7, Mi.Ow, Mi.Ov, Mi.Ou, Mi.Ot, true_and, Mi.gE, Mi.dL, bf, lA1, cK, gC1, List.getElem?_nil, List.set_cons_zero, List.set_cons_succ, lC1, bo, mP1, bj, Mi.Oj, Mi.Nx, Mi.N9, Mi.N7, Mi.N6, Mi.N5, Mi.N4, Mi.N3, Mi.N2, Mi.MF, Mi.MD, bi, bt, aN, Nat.reduceAdd, Nat.reduceSub, Option.join_some, Option.join_none, oP1, Option.map_none, oS1, Option.bind_none, if_true, if_false, bF1, b6, Bool.not_false, ite_true, ite_false, reduceIte, decide_true, decide_false, Mi.Oy, Mi.Ox, Mi.gX, Mi.iV, Mi.qm, Mi.LK])
noncomputable section
namespace Law
open PySem PySem.Spec PyProof.Rows L2 Mi
def i9 (i:Nat):di:=PySem.Challenge.pw_ringmeet_k69_rounds_looked_at.main.body.getD i (.Pass ⟨0,0,0,0⟩)
abbrev BL:List Str:=["all","any","bool","dict","enumerate","int","isinstance","len","list","max","min","range","set","sorted","str","sum","tuple","zip"]
def ou:D:=(D.tup [(D.tup [(D.str "came"),(D.int 5)]),(D.tup [(D.str "chalk"),(D.int 2)]),(D.tup [(D.str "doors"),(D.int 5)]),(D.tup [(D.str "others"),(D.int 2)])])
section
variable{P:c5}{w:c7}{K:Fg1}{mg:Str->Option cZ}{base h:df}(X:K.In h) (G:h.Ns c8 mg) (B:Blt BL mg)
include X G B
abbrev oM:di:=i9 1
def p9:FS:=(ee (gv (gx .int (mV 0)) (pv (gx .bool (mV 0)))))
def iL:FN:=gG 1 p9
theorem uM {f:c4}(F:dY K "is_whole" oM f):
  Own P w K mg base 1 "is_whole" 1 iL:=xq ["thing"] X G F λa=>
 (qG (qU (gW (ii xv) (iZ (nZ (ii xv))))))
abbrev m9:di:=i9 3
def nD:FS:=(ee (mN (b1 lB) (dn (d6 1 [0] (nS (dn (m2 (b2 gSub) (mN (b1 eB) (dn (mV 0) dq)) (mC (D.int 1))) dq)) (gN 0) ea (dU (m2 (b2 w1) (m2 (b2 dz) (mV 1) (mV 0)) (m2 (b2 dz) (mV 1) (m2 (b2 eE) (mV 0) (mC (D.int 1))))))) dq)))
def hY:FN:=gG 1 nD
theorem sX {f:c4}(F:dY K "is_rising" m9 f):
  Own P w K mg base 1 "is_rising" 1 hY:=xq ["things"] X G F λa=>
 (qG (qU (cn (p0 O) (a1 (fk ["at"] (ir (a1 (qI nq (cn eT (a1 xv)) qK))) ⟨gq,d7,(ce (oq lf) (jq xv xv) (jq xv (qI ek xv qK)))⟩)))))
abbrev oO:di:=i9 7
def lT:FT:=(mB (m2 (b2 w1) (mV 2) (mV 3)))
def lS:FS:=(dG (dH (m2 (b2 vn) (m2 (b2 eE) (mV 2) (mV 3)) (mC (D.int 2))) (gN 4))
  (fh (mB (m2 (b2 w1) (m2 (b2 dz) (m2 (b2 dz) (m2 (b2 dz) (mV 0) (mV 4)) (mC (D.int 0))) (mC (D.int 0))) (mV 1))) (dH (m2 (b2 eE) (mV 4) (mC (D.int 1))) (gN 2)) (dH (mV 4) (gN 3))))
def qc:FS:=(dG (dH (mC (D.int 0)) (gN 2))
  (dG (dH (mN (b1 eB) (dn (mV 0) dq)) (gN 3))
  (dG (uf lT lS 100000)
  (ee (mV 2)))))
def iN:FN:=gG 5 qc
theorem uO {f:c4}(F:dY K "first_of" oO f):
  Own P w K mg base 1 "first_of" 2 iN:=xq ["rows","mood","low","high","middle"] X G F λa=>
 (qF (sq qK) (qF (sq (cn eT (a1 xv))) (qF (mq 100000 PassesOwn.never (ct (oq lf) xv xv) (qF (sq (qI Gm (qI ek xv xv) qK)) (qG (qV (ct (oq lf) (jq (jq (jq xv xv) qK) qK) xv) (qG (sq (qI ek xv qK))) (qG (sq xv)))))) (qG (qU xv)))))
abbrev xS:di:=i9 9
def yO:FS:=(dG (dH (mV 0) (gT 2 (eU (gN 1) (eU (gN 2) i7))))
  (ee (d8 (dn (mN (b1 gTup) (dn (d6 1 [] (e6 (mV 1)) (gN 0) ea (dU (d8 (dn (mV 0) (dn (mC (D.int 0)) (dn (mC (D.int 0)) dq)))))) dq)) (dn (mV 2) dq)))))
def lY:FN:=gG 3 yO
theorem BM {f:c4}(F:dY K "begun" xS f):
  Own P w K mg base 1 "begun" 1 lY:=xq ["standing","rooms","chalk"] X G F λa=>
 (qF (qR xv (tg2 gq gq)) (qG (qU (dF (a2 (cz eL (a1 (fk ["room"] (qd xv) ⟨gq,d7,(dF (a3 xv qK qK))⟩))) xv)))))
abbrev oK:di:=i9 10
def p8:FS:=(dG (dH (mV 2) (gT 2 (eU (gN 4) (eU (gN 5) i7))))
  (dG (dH (m2 (b2 dz) (mV 4) (mV 3)) (gT 3 (eU (gN 6) (eU (gN 7) (eU (gN 8) i7)))))
  (dG (dH (d6 1 [6] (e6 (mV 4)) (gN 0) (mB (m2 (b2 gEq) (m2 (b2 dz) (mV 0) (mC (D.int 0))) (mV 1))) (dU (mV 0))) (gN 9))
  (dG (dH (py [((mC (D.str "came")),(mV 7)),((mC (D.str "chalk")),(u8 (mB (m2 (b2 fZ) (mV 6) (mV 5))) (mC (D.int 1)) (mC (D.int 0)))),((mC (D.str "doors")),(mN (b1 eB) (dn (m2 (b2 dz) (mV 0) (mV 6)) dq))),((mC (D.str "others")),(u8 (mB (m2 (b2 (gR λi j=>decide (j<i))) (mN (b1 eB) (dn (mV 9) dq)) (mC (D.int 1)))) (mC (D.int 1)) (mC (D.int 0))))]) (gN 10))
  (ee (mN (b1 gTup) (dn (d6 2 [1,10] (e6 (mC ou)) (gT 2 (eU (gN 0) (eU (gN 1) i7))) ea (dU (u8 (mB (m2 (b2 fZ) (mV 0) (mV 2))) (m2 (b2 dz) (mV 3) (mV 0)) (mC D.non)))) dq)))))))
def iK:FN:=gG 11 p8
theorem uL {f:c4}(F:dY K "sight_of" oK f)(a:CGl K mg "PARTS" ou):
  Own P w K mg base 1 "sight_of" 4 iK:=xq ["web","eyes","whole","k","walkers","chalk","room","came","mood","here","parts"] X G F λb=>
 (qF (qR xv (tg2 gq gq)) (qF (qR (jq xv xv) (gU O (dP gq (dP gq (dP gq f0))))) (qF (gJ 9 O (T:=["other"]) (keep:=[6]) ⟨O,by decide+kernel,(kc "room" (cy _))⟩ O (qd xv) (λ_ _ _=>⟨gq,(hE (ct (oq jm) (jq xv qK) xv)),xv⟩) (gH O) O (by first|exact Or.inl rfl|exact Or.inr rfl)) (qF (sq (ul (hC dV xv (hC dV (lx (ct (oq j2) xv xv (by with_unfolding_all rfl)) qK qK) (hC dV (cn eT (a1 (jq xv xv))) (hC dV (lx (ct BR (cn eT (a1 xv)) qK) qK qK) xC)))))) (qG (qU (cz eL (a1 (fk ["eye","many"] (qd (AA a rfl)) ⟨(tg2 gq gq),d7,(lx (ct (oq j2) xv xv (by with_unfolding_all rfl)) (jq xv xv) gA)⟩)))))))))
abbrev rh:di:=i9 13
def sx:FS:=(dG (dH (mV 0) (gT 2 (eU (gN 2) (eU (gN 3) i7))))
  (dG (dH (d6 2 [] (Cy (dn (mV 2) (dn (mV 1) dq))) (gT 2 (eU (gN 0) (eU (gN 1) i7))) (mB (m2 (b2 gEq) (m2 (b2 dz) (mV 1) (mC (D.int 1))) (mC (D.str "mark")))) (dU (m2 (b2 dz) (mV 0) (mC (D.int 0))))) (gN 4))
  (dG (dH (d6 2 [] (Cy (dn (mV 2) (dn (mV 1) dq))) (gT 2 (eU (gN 0) (eU (gN 1) i7))) (mB (m2 (b2 gEq) (m2 (b2 dz) (mV 1) (mC (D.int 1))) (mC (D.str "wipe")))) (dU (m2 (b2 dz) (mV 0) (mC (D.int 0))))) (gN 5))
  (dG (dH (d6 1 [5] (e6 (mV 3)) (gN 0) (mB (m2 (b2 gY) (mV 0) (mV 1))) (dU (mV 0))) (gN 6))
  (ee (mN (b1 gTup) (dn (mN (b1 j8) (dn (m2 (b2 eE) (mV 6) (mV 4)) dq)) dq)))))))
def jp:FN:=gG 7 sx
theorem wG {f:c4}(F:dY K "handled" rh f):
  Own P w K mg base 1 "handled" 2 jp:=xq ["whole","deeds","walkers","chalk","marked","wiped","left"] X G F λa=>
 (qF (qR xv (tg2 gq gq)) (qF (gJ 4 O (T:=["walker","deed"]) (keep:=[]) ⟨O,by decide+kernel,(cy _)⟩ O (nY O (bz B) (a2 xv xv)) (λ_ _ _=>⟨(tg2 gq gq),(hE (ct (oq jm) (jq xv qK) dV)),(jq xv qK)⟩) (gH O) O (by first|exact Or.inl rfl|exact Or.inr rfl)) (qF (sq (fk ["walker","deed"] (nY rfl (bz B) (a2 xv xv)) ⟨(tg2 gq gq),(hE (ct (oq jm) (jq xv qK) dV)),(jq xv qK)⟩)) (qF (gJ 6 rfl (T:=["room"]) (keep:=[5]) ⟨rfl,by decide+kernel,(kc "wiped" (cy _))⟩ rfl (qd xv) (λ_ _ _=>⟨gq,(hE (ct (oq uW) xv xv (by with_unfolding_all rfl))),xv⟩) (gH O) O (by first|exact Or.inl rfl|exact Or.inr rfl)) (qG (qU (cz eL (a1 (yX rfl rfl (bz B) rfl (bz B) (qI ek xv xv))))))))))
abbrev rg:di:=i9 14
def sw:FS:=(dG (dH (mV 1) (gT 3 (eU (gN 3) (eU (gN 4) (eU (gN 5) i7)))))
  (dG (dH (mV 2) (gT 3 (eU (gN 6) (eU (gN 7) (eU (gN 8) i7)))))
  (dG (fh (wP (mB (m2 (b2 Fk) (mV 8) (mC D.non))) (mB (m2 (b2 (gR λi j=>decide (j<=i))) (mV 8) (mN (b1 eB) (dn (m2 (b2 dz) (mV 0) (mV 3)) dq))))) (ee (d8 (dn (mV 3) (dn (mV 4) (dn (mV 6) dq))))) kH)
  (dG (dH (m2 (b2 dz) (m2 (b2 dz) (mV 0) (mV 3)) (mV 8)) (gT 2 (eU (gN 9) (eU (gN 10) i7))))
  (ee (d8 (dn (mV 9) (dn (m2 (b2 eE) (mC (D.int 1)) (mV 10)) (dn (mV 6) dq)))))))))
def jo:FN:=gG 11 sw
theorem wF {f:c4}(F:dY K "stepped" rg f):
  Own P w K mg base 1 "stepped" 3 jo:=xq ["web","walker","deed","room","came","past","mood","hand","step","there","back"] X G F λa=>
 (qF (qR xv (gU O (dP gq (dP gq (dP gq f0))))) (qF (qR xv (gU O (dP gq (dP gq (dP gq f0))))) (qF (qV (iY (lu (ct KJ xv gA) (jy (ct H0 xv (cn eT (a1 (jq xv xv))))))) (qG (qU (dF (a3 xv xv xv)))) qQ) (qF (qR (jq (jq xv xv) xv) (tg2 gq gq)) (qG (qU (dF (a3 xv (qI ek qK xv) xv))))))))
abbrev uB:di:=i9 15
def vN:FS:=(dG (dH (m2 (b2 dz) (m2 (b2 dz) (m2 (b2 dz) (mV 0) (mC (D.int 0))) (mC (D.int 0))) (mC (D.int 0))) (gN 1))
  (ee (mN (b1 lB) (dn (d6 3 [1] (e6 (m2 (b2 dz) (mV 0) (mC (D.int 0)))) (gT 3 (eU (gN 0) (eU (gN 1) (eU (gN 2) i7)))) ea (dU (m2 (b2 gEq) (mV 0) (mV 3)))) dq))))
def iM:FN:=gG 2 vN
theorem zo {f:c4}(F:dY K "is_met" uB f):
  Own P w K mg base 1 "is_met" 1 iM:=xq ["whole","first"] X G F λa=>
 (qF (sq (jq (jq (jq xv qK) qK) qK)) (qG (qU (cn (p0 O) (a1 (fk ["room","came","mood"] (qd (jq xv qK)) ⟨(gU O (dP gq (dP gq (dP gq f0)))),d7,(ce (oq jm) xv xv)⟩))))))
abbrev oV:di:=i9 26
def lF:FS:=(dG (dH (mC (D.int 0)) (gN 2))
  (dG (fh (mB (m2 (b2 w1) (mV 1) (mN (b1 eB) (dn (mV 0) dq)))) (dH (m2 (b2 dz) (mV 0) (mV 1)) (gN 2)) kH)
  (dG (dH (m2 (b2 kb) (m2 (b2 l7) (mV 2) (m2 (b2 kb) (m2 (b2 wY) (mC (D.int 10)) (mC (D.int 45))) (m2 (b2 wY) (mC (D.int 10)) (mC (D.int 45))))) (mN (b1 l8) (dn (m2 (b2 (gR λi j=>decide (j<=i))) (mV 2) (m2 (b2 wY) (mC (D.int 10)) (mC (D.int 18)))) dq))) (gN 3))
  (ee (eZ (dn (mV 3) (dn (m2 (b2 l7) (m2 (b2 eE) (m2 (b2 eE) (m2 (b2 eE) (m2 (b2 l7) (mV 2) (mC (D.int 2305843009213693951))) (m2 (b2 kb) (m2 (b2 kb) (mC (D.int 9973)) (mV 1)) (mV 1))) (m2 (b2 kb) (mC (D.int 17)) (mV 1))) (mC (D.int 5))) (mC (D.int 2305843009213693951))) (dn (mC (D.int 0)) dq))))))))
def gl:FN:=gG 4 lF
theorem uV {f:c4}(F:dY K "_law_box" oV f):
  Own P w K mg base 1 "_law_box" 2 gl:=xq ["_law_script","_law_k","_law_cell","_law_own_here"] X G F λa=>
 (qF (sq qK) (qF (qV (ct (oq lf) xv (cn eT (a1 xv))) (qG (sq (jq xv xv))) qQ) (qF (sq (qI lc (qI nr xv (qI lc (qI BN qK qK) (qI BN qK qK))) (cz sn (a1 (ce H0 xv (qI BN qK qK)))))) (qG (qU (ev (a3 xv (qI nr (qI ek (qI ek (qI ek (qI nr xv qK) (qI lc (qI lc qK xv) xv)) (qI lc qK xv)) qK) qK) qK)))))))
abbrev nh:di:=i9 27
def kh:FS:=(dG (fh (mB (m2 (b2 (gR fun i j=>decide (j<i))) (m2 (b2 dz) (mV 0) (mC (D.int 0))) (mC (D.int 0)))) (dG (dH (m2 (b2 l7) (m2 (b2 dz) (mV 0) (mC (D.int 0))) (mV 1)) (gN 2))
  (dG (dH (m2 (b2 pJ) (m2 (b2 dz) (mV 0) (mC (D.int 0))) (mV 1)) (gS (b3 gI) (mV 0) (mC (D.int 0))))
  (ee (mV 2)))) kH)
  (dG (dH (m2 (b2 eE) (m2 (b2 dz) (mV 0) (mC (D.int 2))) (mC (D.int 1))) (gS (b3 gI) (mV 0) (mC (D.int 2))))
  (dG (dH (m2 (b2 l7) (m2 (b2 eE) (m2 (b2 eE) (m2 (b2 kb) (m2 (b2 dz) (mV 0) (mC (D.int 1))) (mC (D.int 40009))) (m2 (b2 kb) (mC (D.int 7368787)) (m2 (b2 dz) (mV 0) (mC (D.int 2))))) (mC (D.int 12345))) (mC (D.int 2305843009213693951))) (gN 3))
  (dG (dH (m2 (b2 l7) (m2 (b2 eE) (m2 (b2 kb) (mV 3) (m2 (b2 eE) (m2 (b2 l7) (mV 3) (mC (D.int 65537))) (m2 (b2 kb) (mC (D.int 101)) (m2 (b2 dz) (mV 0) (mC (D.int 2)))))) (mC (D.int 9973))) (mC (D.int 2305843009213693921))) (gS (b3 gI) (mV 0) (mC (D.int 1))))
  (ee (m2 (b2 l7) (m2 (b2 eE) (m2 (b2 pJ) (m2 (b2 dz) (mV 0) (mC (D.int 1))) (mC (D.int 4099))) (m2 (b2 pJ) (m2 (b2 dz) (mV 0) (mC (D.int 1))) (mC (D.int 2147483659)))) (mV 1)))))))
def dy:FN:=gG 4 kh
theorem tj {f:c4}(F:dY K "_law_draw" nh f):
  Own P w K mg base 1 "_law_draw" 2 dy:=xq ["_law_box_here","_law_many","_law_drawn","_law_once"] X G F λa=>
 (qF (qV (ct BR (jq xv qK) qK) (qF (sq (qI nr (jq xv qK) xv)) (qF (qR (qI wJ (jq xv qK) xv) (kw xv qK (mz a.units))) (qG (qU xv)))) qQ) (qF (qR (qI ek (jq xv qK) qK) (kw xv qK (mz a.units))) (qF (sq (qI nr (qI ek (qI ek (qI lc (jq xv qK) qK) (qI lc qK (jq xv qK))) qK) qK)) (qF (qR (qI nr (qI ek (qI lc xv (qI ek (qI nr xv qK) (qI lc qK (jq xv qK)))) qK) qK) (kw xv qK (mz a.units))) (qG (qU (qI nr (qI ek (qI wJ (jq xv qK) qK) (qI wJ (jq xv qK) qK)) xv)))))))
abbrev ng:di:=i9 30
def nH:FS:=(dG (dH (m2 (b2 vn) (mN (b1 vm) (dn (d6 1 [] (e6 (mV 0)) (gN 0) ea (dU (mN (b1 eB) (dn (mV 0) dq)))) dq)) (mC (D.int 2))) (gN 3))
  (dG (fm (ug (b2 kW) (m2 (b2 dz) (mV 0) (mV 1)) (dn (d8 (dn (mV 3) (dn (mC (D.int 0)) dq))) dq)))
  (fm (ug (b2 kW) (m2 (b2 dz) (mV 0) (mV 2)) (dn (d8 (dn (mV 3) (dn (mC (D.int 1)) dq))) dq)))))
def gu:FN:=gG 4 nH
theorem tf {f:c4}(F:dY K "_law_join" ng f):
  Own P w K mg base 1 "_law_join" 3 gu:=xq ["_law_ends","_law_one","_law_other","_law_number"] X G F λa=>
 (qF (sq (qI Gm (cn (Jm O) (a1 (fk ["_law_row"] (qd xv) ⟨gq,d7,(cn eT (a1 xv))⟩))) qK)) (qF (lq ap (jq xv xv) (a1 (dF (a2 xv qK)))) (qG (lq ap (jq xv xv) (a1 (dF (a2 xv qK)))))))
abbrev k7:di:=i9 32
def nO:FS:=(dH (m2 (b2 eE) (mV 5) (d6 1 [6] (e6 (mV 4)) (gN 0) ea (dU (m2 (b2 eE) (mV 1) (d8 (dn (mV 0) dq)))))) (gN 5))
def nN:FS:=(dG (dH (u8 (mB (m2 (b2 fZ) (mV 2) (mV 0))) (wQ (dn (m2 (b2 eE) (mV 3) (mC (D.int 1))) dq)) (eZ (dn (mC D.non) dq))) (gN 4))
  (dG (dH (eZ dq) (gN 5))
  (dG (fD (e6 (mV 1)) (gN 6) nO)
  (dH (mV 5) (gN 1)))))
def qM:FS:=(dG (dH (eZ (dn (d8 dq) dq)) (gN 1))
  (dG (fD (e6 (d8 (dn (d8 (dn (mC (D.str "came")) (dn (mC (D.int 4)) dq))) (dn (d8 (dn (mC (D.str "chalk")) (dn (mC (D.int 1)) dq))) (dn (d8 (dn (mC (D.str "doors")) (dn (mC (D.int 4)) dq))) (dn (d8 (dn (mC (D.str "others")) (dn (mC (D.int 1)) dq))) dq)))))) (gT 2 (eU (gN 2) (eU (gN 3) i7))) nN)
  (ee (mV 1))))
def ge:FN:=gG 7 qM
theorem pp {f:c4}(F:dY K "_law_sights" k7 f):
  Own P w K mg base 1 "_law_sights" 1 ge:=xq ["_law_eyes","_law_found","_law_eye","_law_most","_law_parts","_law_longer","_law_one"] X G F λa=>
 (qF (sq (ev (a1 (dF qN)))) (qF (fo (qd (dF (qA (dF (a2 dV qK)) (a3 (dF (a2 dV qK)) (dF (a2 dV qK)) (dF (a2 dV qK)))))) (tg2 gq gq) (qF (sq (lx (ct (oq j2) xv xv (by with_unfolding_all rfl)) (lw O O (bz B) O (bz B) (a1 (qI ek xv qK))) (ev (a1 gA)))) (qF (sq (ev qN)) (qF (fo (qd xv) gq (qG (sq (qI ek xv (fk ["_law_part"] (qd xv) ⟨gq,d7,(qI ek xv (dF (a1 xv)))⟩))))) (qG (sq xv)))))) (qG (qU xv))))
abbrev lP:di:=i9 37
def mi:FS:=(dG (dH (m2 (b2 dz) (m2 (b2 dz) (mV 2) (mC (D.int 0))) (mV 3)) (gT 3 (eU (gN 4) (eU (gN 5) (eU (gN 6) i7)))))
  (dG (dH (d6 2 [3,4] (Aq (dn (m2 (b2 dz) (mV 2) (mC (D.int 0))) dq)) (gT 2 (eU (gN 0) (eU (gN 1) i7))) (mI (mB (m2 (b2 zN) (mV 0) (mV 2))) (mB (m2 (b2 gEq) (m2 (b2 dz) (mV 1) (mC (D.int 0))) (mV 3)))) (dU (mV 1))) (gN 7))
  (dG (dH (py [((mC (D.str "came")),(mV 5)),((mC (D.str "chalk")),(mN (b1 l8) (dn (m2 (b2 fZ) (mV 4) (m2 (b2 dz) (mV 2) (mC (D.int 1)))) dq))),((mC (D.str "doors")),(mN (b1 eB) (dn (m2 (b2 dz) (mV 0) (mV 4)) dq))),((mC (D.str "others")),(mN (b1 l8) (dn (m2 (b2 zN) (mV 7) (eZ dq)) dq)))]) (gN 8))
  (ee (mN (b1 gTup) (dn (d6 1 [1,8] (e6 (d8 (dn (mC (D.str "came")) (dn (mC (D.str "chalk")) (dn (mC (D.str "doors")) (dn (mC (D.str "others")) dq)))))) (gN 0) ea (dU (u8 (mB (m2 (b2 fZ) (mV 0) (mV 1))) (m2 (b2 dz) (mV 2) (mV 0)) (mC D.non)))) dq))))))
def gD:FN:=gG 9 mi
theorem qv {f:c4}(F:dY K "_law_sight" lP f):
  Own P w K mg base 1 "_law_sight" 4 gD:=xq ["_law_web_here","_law_eyes","_law_whole","_law_k","_law_room","_law_came","_law_mood","_law_others","_law_parts"] X G F λa=>
 (qF (qR (jq (jq xv qK) xv) (gU O (dP gq (dP gq (dP gq f0))))) (qF (gJ 7 O (T:=["_law_j","_law_walker"]) (keep:=[3,4]) ⟨O,by decide+kernel,(kc "_law_k" (kc "_law_room" (cy _)))⟩ O (ie (a1 (jq xv qK))) (λ_ _ _=>⟨(tg2 gq gq),(hE (iY (iw (ct (oq BP) xv xv) (iF (ct (oq jm) (jq xv qK) xv))))),xv⟩) (gH O) O (by first|exact Or.inl rfl|exact Or.inr rfl)) (qF (sq (ul (hC dV xv (hC dV (cz sn (a1 (ce (oq j2) xv (jq xv qK) (by with_unfolding_all rfl)))) (hC dV (cn eT (a1 (jq xv xv))) (hC dV (cz sn (a1 (ce (oq BP) xv (ev qN)))) xC)))))) (qG (qU (cz eL (a1 (fk ["_law_eye"] (qd (dF (qA dV (a3 dV dV dV)))) ⟨gq,d7,(lx (ct (oq j2) xv xv (by with_unfolding_all rfl)) (jq xv xv) gA)⟩))))))))
abbrev oR:di:=i9 38
def qh:FS:=(ee (d8 (dn (m2 (b2 dz) (mV 0) (mC (D.int 0))) (dn (mN (b1 pL) (dn (mN (b1 nT) (dn (m2 (b2 dz) (mV 0) (mC (D.int 1))) dq)) dq)) dq))))
def gj:FN:=gG 1 qh
theorem uR {f:c4}(F:dY K "_law_own" oR f):
  Own P w K mg base 1 "_law_own" 1 gj:=xq ["_law_machine_here"] X G F λa=>
 (qG (qU (dF (a2 (jq xv qK) (cz (FH a) (a1 (cz pZ (a1 (jq xv qK)))))))))
abbrev nj:di:=i9 39
def nI:FS:=(ee (wR (m2 (b2 dz) (mV 0) (mC (D.int 1))) (d8 (dn (mV 1) (dn (mV 2) dq))) (d8 (dn (mV 1) (dn (mC (D.str "leave")) (dn (mC D.non) dq))))))
def ib:FN:=gG 3 nI
theorem tm {f:c4}(F:dY K "_law_deed" nj f):
  Own P w K mg base 1 "_law_deed" 3 ib:=xq ["_law_own_here","_law_mood","_law_sight_here"] X G F λa=>
 (qG (qU (yY a.units (jq xv qK) (dF (a2 xv xv)) (dF (a3 xv dV gA)))))
abbrev oT:di:=i9 41
def qj:FS:=(ee (m2 (b2 gEq) (mN (b1 pI) (dn (mN (b1 pK) (dn (d6 1 [] (e6 (m2 (b2 dz) (mV 0) (mC (D.int 0)))) (gN 0) ea (dU (d8 (dn (m2 (b2 dz) (mV 0) (mC (D.int 0))) (dn (mC (D.bl M)) dq))))) dq)) dq)) (mC (D.int 1))))
def gk:FN:=gG 1 qj
theorem uT {f:c4}(F:dY K "_law_met" oT f):
  Own P w K mg base 1 "_law_met" 1 gk:=xq ["_law_whole"] X G F λa=>
 (qG (qU (ce (oq jm) (cn Jo (a1 (cz (FF a) (a1 (fk ["_law_walker"] (qd (jq xv qK)) ⟨gq,d7,(dF (a2 (jq xv qK) gg))⟩))))) qK)))
abbrev lQ:di:=i9 42
def mj:FS:=(ee (d8 (dn (mN (b1 gTup) (dn (d6 1 [] (e6 (m2 (b2 dz) (mV 0) (mC (D.int 0)))) (gN 0) ea (dU (d8 (dn (mV 0) (dn (mC (D.int 0)) (dn (mC (D.int 0)) dq)))))) dq)) (dn (m2 (b2 dz) (mV 0) (mC (D.int 1))) dq))))
def fz:FN:=gG 1 mj
theorem qw {f:c4}(F:dY K "_law_begun" lQ f):
  Own P w K mg base 1 "_law_begun" 1 fz:=xq ["_law_standing_here"] X G F λa=>
 (qG (qU (dF (a2 (cz eL (a1 (fk ["_law_room"] (qd (jq xv qK)) ⟨gq,d7,(dF (a3 xv qK qK))⟩))) (jq xv qK)))))
abbrev io:di:=i9 45
def iq:FS:=(ee (gv (gx .int (mV 0)) (gv (pv (gx .bool (mV 0))) (EL (b2 (gR λi j=>decide (i<=j))) (b2 (gR λi j=>decide (i<=j))) (mV 1) (mV 0) (mV 2)))))
def eA:FN:=gG 3 iq
theorem j1 {f:c4}(F:dY K "_law_whole_number" io f):
  Own P w K mg base 1 "_law_whole_number" 3 eA:=xq ["_law_thing","_law_low","_law_high"] X G F λa=>
 (qG (qU (gW (ii xv) (gW (nZ (ii xv)) (iZ (ra HZ HZ xv xv xv))))))
abbrev oN:di:=i9 2
def qa:FS:=(ee (gv (mN (dv 1 iL) (dn (mV 0) dq)) (EL (b2 (gR λi j=>decide (i<=j))) (b2 w1) (mC (D.int 0)) (mV 0) (mV 1))))
def gP:FN:=gG 2 qa
theorem uN {f:c4}(F:dY K "is_below" oN f)(a:Own P w K mg base 1 "is_whole" 1 iL):
  Own P w K mg base 2 "is_below" 2 gP:=xq ["thing","bound"] X G F λb=>
 (qG (qU (gW (wn a (a1 xv)) (iZ (ra HZ (oq lf) qK xv xv)))))
abbrev ri:di:=i9 6
def no:FT:=(mI (mB (m2 (b2 w1) (mV 4) (mN (b1 eB) (dn (mV 3) dq)))) (mB (m2 (b2 gEq) (m2 (b2 dz) (m2 (b2 dz) (m2 (b2 dz) (mV 3) (mV 4)) (mC (D.int 0))) (mC (D.int 0))) (mV 1))))
def nl:FS:=(dG (fh (mB (m2 (b2 gEq) (m2 (b2 dz) (m2 (b2 dz) (m2 (b2 dz) (mV 3) (mV 4)) (mC (D.int 0))) (mC (D.int 1))) (mV 2))) (ee (m2 (b2 dz) (m2 (b2 dz) (mV 3) (mV 4)) (mC (D.int 1)))) kH)
  (EM 4 (b2 CK) (mC (D.int 1))))
def sy:FS:=(dG (dH (m2 (b2 dz) (mV 0) (mC (D.int 1))) (gN 3))
  (dG (dH (mN (dv 2 iN) (dn (mV 3) (dn (mV 1) dq))) (gN 4))
  (dG (uf no nl 100000)
  (ee (d8 (dn (mV 1) (dn (mC (D.str "leave")) (dn (mC D.non) dq))))))))
def jr:FN:=gG 5 sy
theorem wH {f:c4}(F:dY K "deed_of" ri f)(a:Own P w K mg base 1 "first_of" 2 iN):
  Own P w K mg base 2 "deed_of" 3 jr:=xq ["machine","mood","sight","rows","at"] X G F λb=>
 (qF (sq (jq xv qK)) (qF (sq (wn a (a2 xv xv))) (qF (mq 100000 PassesOwn.never (iY (iw (ct (oq lf) xv (cn eT (a1 xv))) (iF (ct (oq jm) (jq (jq (jq xv xv) qK) qK) xv)))) (qF (qV (ct (oq jm) (jq (jq (jq xv xv) qK) qK) xv) (qG (qU (jq (jq xv xv) qK))) qQ) (qG (Du 4 (gH O) O (by first|exact Or.inl rfl|exact Or.inr rfl) qK E8)))) (qG (qU (dF (a3 xv dV gA)))))))
abbrev xQ:di:=i9 11
def yM:FS:=(ee (d6 2 [0,1,2] (Aq (dn (m2 (b2 dz) (mV 2) (mC (D.int 0))) dq)) (gT 2 (eU (gN 0) (eU (gN 1) i7))) ea (dU (d8 (dn (m2 (b2 dz) (mV 1) (mC (D.int 2))) (dn (mN (dv 4 iK) (dn (mV 2) (dn (mV 3) (dn (mV 4) (dn (mV 0) dq))))) dq))))))
def lW:FN:=gG 3 yM
theorem BI {f:c4}(F:dY K "wants" xQ f)(a:Own P w K mg base 1 "sight_of" 4 iK):
  Own P w K mg base 2 "wants" 3 lW:=xq ["web","eyes","whole"] X G F λb=>
 (qG (qU (fk ["k","walker"] (ie (a1 (jq xv qK))) ⟨(tg2 gq gq),d7,(dF (a2 (jq xv qK) (wn a (qA xv (a3 xv xv xv)))))⟩)))
abbrev xR:di:=i9 12
def yN:FS:=(dG (dH (mV 1) (gT 2 (eU (gN 3) (eU (gN 4) i7))))
  (dG (dH (d6 2 [0] (Cy (dn (mV 3) (dn (mV 2) dq))) (gT 2 (eU (gN 0) (eU (gN 1) i7))) ea (dU (mN (dv 3 jo) (dn (mV 2) (dn (mV 0) (dn (mV 1) dq)))))) (gN 5))
  (ee (d8 (dn (mN (b1 gTup) (dn (mV 5) dq)) (dn (mN (dv 2 jp) (dn (mV 1) (dn (mV 2) dq))) dq))))))
def lX:FN:=gG 6 yN
theorem BK {f:c4}(F:dY K "moved" xR f)(b:Own P w K mg base 1 "handled" 2 jp)(a:Own P w K mg base 1 "stepped" 3 jo):
  Own P w K mg base 2 "moved" 3 lX:=xq ["web","whole","deeds","walkers","chalk","behind"] X G F λc=>
 (qF (qR xv (tg2 gq gq)) (qF (gJ 5 O (T:=["walker","deed"]) (keep:=[0]) ⟨O,by decide+kernel,(kc "web" (cy _))⟩ O (nY O (bz B) (a2 xv xv)) (λ_ _ _=>⟨(tg2 gq gq),d7,(wn a (a3 xv xv xv))⟩) (gH O) O (by first|exact Or.inl rfl|exact Or.inr rfl)) (qG (qU (dF (a2 (cz eL (a1 xv)) (wn b (a2 xv xv))))))))
abbrev rj:di:=i9 28
def mW:FS:=(ee (m2 (b2 dz) (mV 1) (mN (dv 2 dy) (dn (mV 0) (dn (mN (b1 eB) (dn (mV 1) dq)) dq)))))
def ft:FN:=gG 2 mW
theorem wI {f:c4}(F:dY K "_law_of" rj f)(a:Own P w K mg base 1 "_law_draw" 2 dy):
  Own P w K mg base 2 "_law_of" 2 ft:=xq ["_law_box_here","_law_some_here"] X G F λb=>
 (qG (qU (jq xv (wn a (a2 xv (cn eT (a1 xv)))))))
abbrev jM:di:=i9 29
def i6:FT:=(mB (m2 (b2 zN) (mV 2) (eZ dq)))
def i5:FS:=(fm (ug (b2 kW) (mV 3) (dn (ug (b2 CH) (mV 2) (dn (mN (dv 2 dy) (dn (mV 0) (dn (mN (b1 eB) (dn (mV 2) dq)) dq))) dq)) dq)))
def jR:FS:=(dG (dH (d8 (dn (mN (b1 nT) (dn (mV 1) dq)) (dn (eZ dq) dq))) (gT 2 (eU (gN 2) (eU (gN 3) i7))))
  (dG (uf i6 i5 100000)
  (ee (mV 3))))
def ej:FN:=gG 4 jR
theorem mG {f:c4}(F:dY K "_law_shuffled" jM f)(a:Own P w K mg base 1 "_law_draw" 2 dy):
  Own P w K mg base 2 "_law_shuffled" 2 ej:=xq ["_law_box_here","_law_some_here","_law_left","_law_found"] X G F λb=>
 (qF (ku 2 3 O (gH O) O O (by decide) O O (a2 (cz pZ (a1 xv)) (ev qN))) (qF (mq 100000 PassesOwn.never (ct (oq BP) xv (ev qN)) (qG (lq ap xv (a1 (qe PySem.F.slot_list_pop PySem.F.type_list_pop JX xv (a1 (wn a (a2 xv (cn eT (a1 xv)))))))))) (qG (qU xv))))
abbrev k8:di:=i9 36
def ln:FS:=(dG (dH (m2 (b2 eE) (mC (D.int 1)) (mN (dv 2 dy) (dn (mV 0) (dn (m2 (b2 gSub) (m2 (b2 CG) (mC (D.int 1)) (mV 1)) (mC (D.int 1))) dq)))) (gN 2))
  (ee (mN (b1 gTup) (dn (d6 1 [2] (nS (dn (mV 1) dq)) (gN 0) (mB (m2 (b2 gEq) (m2 (b2 yw) (m2 (b2 CF) (mV 1) (mV 0)) (mC (D.int 1))) (mC (D.int 1)))) (dU (mV 0))) dq))))
def eI:FN:=gG 3 ln
theorem pq {f:c4}(F:dY K "_law_choice" k8 f)(a:Own P w K mg base 1 "_law_draw" 2 dy):
  Own P w K mg base 2 "_law_choice" 2 eI:=xq ["_law_box_here","_law_many","_law_bits"] X G F λb=>
 (qF (sq (qI ek qK (wn a (a2 xv (qI nq (qI KI qK xv) qK))))) (qG (qU (cz eL (a1 (fk ["_law_k"] (ir (a1 xv)) ⟨gq,(hE (ct (oq jm) (qI H7 (qI KH xv xv) qK) qK)),xv⟩))))))
abbrev nk:di:=i9 40
def jc:FS:=(dG (dH (m2 (b2 dz) (m2 (b2 dz) (mV 2) (mC (D.int 0))) (mV 7)) (gT 3 (eU (gN 8) (eU (gN 9) (eU (gN 10) i7)))))
  (dG (dH (mN (dv 3 ib) (dn (mV 1) (dn (mV 10) (dn (mN (dv 4 gD) (dn (mV 0) (dn (m2 (b2 dz) (mV 1) (mC (D.int 0))) (dn (mV 2) (dn (mV 7) dq))))) dq)))) (gT 3 (eU (gN 11) (eU (gN 12) (eU (gN 13) i7)))))
  (dG (fh (mB (m2 (b2 gEq) (mV 12) (mC (D.str "mark")))) (fm (ug (b2 kW) (mV 5) (dn (mV 8) dq))) kH)
  (dG (fh (mB (m2 (b2 gEq) (mV 12) (mC (D.str "wipe")))) (fm (ug (b2 kW) (mV 6) (dn (mV 8) dq))) kH)
  (dG (fh (mI (mB (m2 (b2 ol) (mV 13) (mC D.non))) (mB (m2 (b2 w1) (mV 13) (mN (b1 eB) (dn (m2 (b2 dz) (mV 0) (mV 8)) dq))))) (dH (d8 (dn (m2 (b2 dz) (m2 (b2 dz) (m2 (b2 dz) (mV 0) (mV 8)) (mV 13)) (mC (D.int 0))) (dn (m2 (b2 eE) (mC (D.int 1)) (m2 (b2 dz) (m2 (b2 dz) (m2 (b2 dz) (mV 0) (mV 8)) (mV 13)) (mC (D.int 1)))) dq))) (gT 2 (eU (gN 8) (eU (gN 9) i7)))) kH)
  (dH (d8 (dn (mV 8) (dn (mV 9) (dn (mV 11) dq)))) (gS (b3 gI) (mV 4) (mV 7))))))))
def nJ:FS:=(dG (dH (d8 (dn (mN (b1 nT) (dn (m2 (b2 dz) (mV 2) (mC (D.int 0))) dq)) (dn (eZ dq) (dn (eZ dq) dq)))) (gT 3 (eU (gN 4) (eU (gN 5) (eU (gN 6) i7)))))
  (dG (fD (e6 (mV 3)) (gN 7) jc)
  (dG (dH (d6 1 [5,2,6] (nS (dn (mN (b1 eB) (dn (mV 0) dq)) dq)) (gN 0) (wP (mB (m2 (b2 fZ) (mV 0) (mV 1))) (mI (mB (m2 (b2 fZ) (mV 0) (m2 (b2 dz) (mV 2) (mC (D.int 1))))) (mB (m2 (b2 gY) (mV 0) (mV 3))))) (dU (mV 0))) (gN 14))
  (ee (d8 (dn (mN (b1 gTup) (dn (mV 4) dq)) (dn (mN (b1 gTup) (dn (mV 14) dq)) dq)))))))
def fN:FN:=gG 15 nJ
theorem tt {f:c4}(F:dY K "_law_beat" nk f)(c:Own P w K mg base 1 "_law_deed" 3 ib)(a:Own P w K mg base 1 "_law_sight" 4 gD):
  Own P w K mg base 2 "_law_beat" 4 fN:=xq ["_law_web_here","_law_own_here","_law_whole","_law_choice_here","_law_walkers","_law_marked","_law_wiped","_law_k","_law_room","_law_came","_law_mood","_law_later","_law_hand","_law_step","_law_chalk"] X G F λb=>
 (qF (qR (dF (a3 (cz pZ (a1 (jq xv qK))) (ev qN) (ev qN))) (gU O (dP gq (dP gq (dP gq f0))))) (qF (fo (qd xv) gq (qF (qR (jq (jq xv qK) xv) (gU O (dP gq (dP gq (dP gq f0))))) (qF (qR (wn c (a3 xv xv (wn a (qA xv (a3 (jq xv qK) xv xv))))) (gU O (dP gq (dP gq (dP gq f0))))) (qF (qV (ct (oq jm) xv dV) (qG (lq ap xv (a1 xv))) qQ) (qF (qV (ct (oq jm) xv dV) (qG (lq ap xv (a1 xv))) qQ) (qF (qV (iY (iw (ct BQ xv gA) (iF (ct (oq lf) xv (cn eT (a1 (jq xv xv))))))) (qG (ku 8 9 O (gH O) O O (by decide) O O (a2 (jq (jq (jq xv xv) xv) qK) (qI ek qK (jq (jq (jq xv xv) xv) qK))))) qQ) (qG (qR (dF (a3 xv xv xv)) (kw xv xv (mz b.units)))))))))) (qF (gJ 14 O (T:=["_law_room"]) (keep:=[5,2,6]) ⟨O,by decide+kernel,(kc "_law_marked" (kc "_law_whole" (kc "_law_wiped" (cy _))))⟩ O (ir (a1 (cn eT (a1 xv)))) (λ_ _ _=>⟨gq,(hE (iY (lu (ct (oq j2) xv xv (by with_unfolding_all rfl)) (jy (iY (iw (ct (oq j2) xv (jq xv qK) (by with_unfolding_all rfl)) (iF (ct (oq uW) xv xv (by with_unfolding_all rfl))))))))),xv⟩) (gH O) O (by first|exact Or.inl rfl|exact Or.inr rfl)) (qG (qU (dF (a2 (cz eL (a1 xv)) (cz eL (a1 xv)))))))))
abbrev iH:di:=i9 46
def fK:FS:=(dG (fh (wP (iz (mTr (gx .tuple (mV 2)))) (mB (m2 (b2 gEq) (mV 2) (d8 dq)))) (ee (mC (D.bl false))) kH)
  (dG (fh (iz (mTr (mN (b1 lB) (dn (d6 1 [0] (e6 (mV 2)) (gN 0) ea (dU (mN (dv 3 eA) (dn (mV 0) (dn (mC (D.int 0)) (dn (m2 (b2 gSub) (mV 1) (mC (D.int 1))) dq)))))) dq)))) (ee (mC (D.bl J))) kH)
  (fh (mTr (mN (b1 nU) (dn (d6 2 [] (Cy (dn (mV 2) (dn (ic (mV 2) (eW (mC (D.int 1))) fv) dq))) (gT 2 (eU (gN 0) (eU (gN 1) i7))) ea (dU (m2 (b2 (gR λi j=>decide (j<=i))) (mV 0) (mV 1)))) dq))) (ee (mC (D.bl J))) kH)))
def iT:FS:=(dG (fh (iz (mTr (gx .tuple (mV 1)))) (ee (mC (D.bl false))) kH)
  (dG (fD (e6 (mV 1)) (gN 2) fK)
  (ee (mC (D.bl M)))))
def eG:FN:=gG 3 iT
theorem kS {f:c4}(F:dY K "_law_are_choices" iH f)(a:Own P w K mg base 1 "_law_whole_number" 3 eA):
  Own P w K mg base 2 "_law_are_choices" 2 eG:=xq ["_law_many","_law_thing","_law_choice_here"] X G F λb=>
 (qF (qV (gz (fx (ii xv))) (qG (qU gg)) qQ) (qF (fo (qd xv) gq (qF (qV (iY (lu (gz (fx (ii xv))) (jy (ct (oq jm) xv (dF qN))))) (qG (qU gg)) qQ) (qF (qV (gz (fx (cn (p0 O) (a1 (fk ["_law_k"] (qd xv) ⟨gq,d7,(wn a (a3 xv qK (qI nq xv qK)))⟩))))) (qG (qU gg)) qQ) (qG (qV (fx (cn (yJ O) (a1 (fk ["_law_one","_law_other"] (nY O (bz B) (a2 xv (ed xv (eD qK) eJ))) ⟨(tg2 gq gq),d7,(ce H0 xv xv)⟩)))) (qG (qU gg)) qQ))))) (qG (qU gg))))
abbrev oP:di:=i9 18
def qf:FS:=(ee (d6 2 [1] (e6 (mN (dv 3 lW) (dn (mV 0) (dn (m2 (b2 dz) (mV 1) (mC (D.int 0))) (dn (mV 2) dq))))) (gT 2 (eU (gN 0) (eU (gN 1) i7))) ea (dU (mN (dv 3 jr) (dn (mV 2) (dn (mV 0) (dn (mV 1) dq)))))))
def iO:FN:=gG 3 qf
theorem uP {f:c4}(F:dY K "deeds_of" oP f)(b:Own P w K mg base 2 "deed_of" 3 jr)(a:Own P w K mg base 2 "wants" 3 lW):
  Own P w K mg base 3 "deeds_of" 3 iO:=xq ["web","machine","whole"] X G F λc=>
 (qG (qU (fk ["mood","sight"] (qd (wn a (a3 xv (jq xv qK) xv))) ⟨(tg2 gq gq),d7,(wn b (a3 xv xv xv))⟩)))
abbrev lO:di:=i9 19
def jZ:FS:=(fm (ug (b2 kW) (mV 4) (dn (u8 (mB (m2 (b2 fZ) (mV 5) (mV 3))) (m2 (b2 dz) (mV 2) (mV 5)) (d8 (dn (mV 8) (dn (mC (D.str "leave")) (dn (mC D.non) dq))))) dq)))
def mh:FS:=(dG (dH (eZ dq) (gN 4))
  (dG (fD (Aq (dn (m2 (b2 dz) (mV 1) (mC (D.int 0))) dq)) (gT 2 (eU (gN 5) (eU (gT 3 (eU (gN 6) (eU (gN 7) (eU (gN 8) i7)))) i7))) jZ)
  (ee (mN (dv 3 lX) (dn (mV 0) (dn (mV 1) (dn (mV 4) dq)))))))
def gC:FN:=gG 9 mh
theorem qu {f:c4}(F:dY K "moved_some" lO f)(a:Own P w K mg base 2 "moved" 3 lX):
  Own P w K mg base 3 "moved_some" 4 gC:=xq ["web","whole","all_deeds","choice","done","k","room","came","mood"] X G F λb=>
 (qF (sq (ev qN)) (qF (fo (ie (a1 (jq xv qK))) (tg2 gq (gU O (dP gq (dP gq (dP gq f0))))) (qG (lq ap xv (a1 (lx (ct (oq j2) xv xv (by with_unfolding_all rfl)) (jq xv xv) (dF (a3 xv dV gA))))))) (qG (qU (wn a (a3 xv xv xv))))))
abbrev na:di:=i9 24
def nE:FS:=(dG (fh (wP (iz (mTr (gx .tuple (mV 1)))) (mB (m2 (b2 gEq) (mN (b1 eB) (dn (mV 1) dq)) (mC (D.int 0))))) (ee (mC (D.bl false))) kH)
  (ee (gv (mN (b1 lB) (dn (d6 1 [0] (e6 (mV 1)) (gN 0) ea (dU (mN (dv 2 gP) (dn (mV 0) (dn (mV 1) dq))))) dq)) (mN (dv 1 hY) (dn (mV 1) dq)))))
def gt:FN:=gG 2 nE
theorem sY {f:c4}(F:dY K "is_choice" na f)(b:Own P w K mg base 2 "is_below" 2 gP)(a:Own P w K mg base 1 "is_rising" 1 hY):
  Own P w K mg base 3 "is_choice" 2 gt:=xq ["many","thing"] X G F λc=>
 (qF (qV (iY (lu (gz (fx (ii xv))) (jy (ct (oq jm) (cn eT (a1 xv)) qK)))) (qG (qU gg)) qQ) (qG (qU (gW (cn (p0 O) (a1 (fk ["walker"] (qd xv) ⟨gq,d7,(wn b (a2 xv xv))⟩))) (iZ (wn a (a1 xv)))))))
abbrev oQ:di:=i9 31
def iy:FS:=(fm (mN (dv 3 gu) (dn (mV 3) (dn (mN (dv 2 ft) (dn (mV 0) (dn (d6 1 [3] (nS (dn (mV 4) dq)) (gN 0) (mB (m2 (b2 w1) (mN (b1 eB) (dn (m2 (b2 dz) (mV 1) (mV 0)) dq)) (mC (D.int 4)))) (dU (mV 0))) dq))) (dn (mV 4) dq)))))
def ix:FS:=(dG (dH (d8 (dn (mN (dv 2 dy) (dn (mV 0) (dn (mV 2) dq))) (dn (mN (dv 2 dy) (dn (mV 0) (dn (mV 2) dq))) dq))) (gT 2 (eU (gN 6) (eU (gN 7) i7))))
  (fh (mI (mB (m2 (b2 w1) (m2 (b2 eE) (mN (b1 eB) (dn (m2 (b2 dz) (mV 3) (mV 6)) dq)) (mN (b1 l8) (dn (m2 (b2 gEq) (mV 6) (mV 7)) dq))) (mC (D.int 4)))) (mB (m2 (b2 w1) (mN (b1 eB) (dn (m2 (b2 dz) (mV 3) (mV 7)) dq)) (mC (D.int 4))))) (fm (mN (dv 3 gu) (dn (mV 3) (dn (mV 6) (dn (mV 7) dq))))) kH))
def lU:FS:=(dH (d8 (dn (mV 4) (dn (mV 11) dq))) (gS (b3 gI) (mV 9) (mV 12)))
def jB:FS:=(fD (Aq (dn (mV 10) dq)) (gT 2 (eU (gN 11) (eU (gN 12) i7))) lU)
def qg:FS:=(dG (dH (m2 (b2 eE) (mC (D.int 1)) (mN (dv 2 dy) (dn (mV 0) (dn (mV 1) dq)))) (gN 2))
  (dG (dH (d6 1 [] (nS (dn (mV 2) dq)) (gN 0) ea (dU (eZ dq))) (gN 3))
  (dG (fD (JM (dn (mC (D.int 1)) (dn (mV 2) dq))) (gN 4) iy)
  (dG (fD (nS (dn (mN (dv 2 dy) (dn (mV 0) (dn (mC (D.int 4)) dq))) dq)) (gN 5) ix)
  (dG (dH (d6 1 [0] (e6 (mV 3)) (gN 0) ea (dU (mN (dv 2 ej) (dn (mV 1) (dn (mV 0) dq))))) (gN 8))
  (dG (dH px (gN 9))
  (dG (fD (Aq (dn (mV 8) dq)) (gT 2 (eU (gN 4) (eU (gN 10) i7))) jB)
  (ee (mN (b1 gTup) (dn (d6 1 [9] (e6 (mV 8)) (gN 0) ea (dU (mN (b1 gTup) (dn (d6 2 [1] (e6 (mV 0)) (gT 2 (eU (gN 0) (eU (gN 1) i7))) ea (dU (m2 (b2 dz) (mV 2) (d8 (dn (mV 0) (dn (m2 (b2 gSub) (mC (D.int 1)) (mV 1)) dq)))))) dq)))) dq))))))))))
def iP:FN:=gG 13 qg
theorem uQ {f:c4}(F:dY K "_law_web" oQ f)(b:Own P w K mg base 1 "_law_draw" 2 dy)(a:Own P w K mg base 1 "_law_join" 3 gu)(c:Own P w K mg base 2 "_law_of" 2 ft)(d:Own P w K mg base 2 "_law_shuffled" 2 ej):
  Own P w K mg base 3 "_law_web" 2 iP:=xq ["_law_box_here","_law_most","_law_many","_law_ends","_law_room","_law_turn","_law_one","_law_other","_law_rows","_law_places","_law_row","_law_door","_law_end"] X G F λe=>
 (qF (sq (qI ek qK (wn b (a2 xv xv)))) (qF (sq (fk ["_law_room"] (ir (a1 xv)) ⟨gq,d7,(ev qN)⟩)) (qF (fo (v4 O (bz B) (a2 qK xv)) gq (qG (oB (wn a (a3 xv (wn c (a2 xv (fk ["_law_one"] (ir (a1 xv)) ⟨gq,(hE (ct (oq lf) (cn eT (a1 (jq xv xv))) qK)),xv⟩))) xv))))) (qF (fo (ir (a1 (wn b (a2 xv qK)))) gq (qF (ku 6 7 O (gH O) O O (by decide) O O (a2 (wn b (a2 xv xv)) (wn b (a2 xv xv)))) (qG (qV (iY (iw (ct (oq lf) (qI ek (cn eT (a1 (jq xv xv))) (cz sn (a1 (ce (oq jm) xv xv)))) qK) (iF (ct (oq lf) (cn eT (a1 (jq xv xv))) qK)))) (qG (oB (wn a (a3 xv xv xv)))) qQ)))) (qF (gJ 8 O (T:=["_law_row"]) (keep:=[0]) ⟨O,by decide+kernel,(kc "_law_box_here" (cy _))⟩ O (qd xv) (λ_ _ _=>⟨gq,d7,(wn d (a2 xv xv))⟩) (gH O) O (by first|exact Or.inl rfl|exact Or.inr rfl)) (qF (sq oC) (qF (fo (ie (a1 xv)) (tg2 gq gq) (qG (fo (ie (a1 xv)) (tg2 gq gq) (qG (qR (dF (a2 xv xv)) (kw xv xv (mz e.units))))))) (qG (qU (cz eL (a1 (fk ["_law_row"] (qd xv) ⟨gq,d7,(cz eL (a1 (fk ["_law_number","_law_side"] (qd xv) ⟨(tg2 gq gq),d7,(jq xv (dF (a2 xv (qI nq qK xv))))⟩)))⟩))))))))))))
abbrev jW:di:=i9 33
def gO:FS:=(dG (dH (m2 (b2 dz) (eZ (dn (mC (D.str "leave")) (dn (mC (D.str "leave")) (dn (mC (D.str "mark")) (dn (mC (D.str "wipe")) dq))))) (m2 (b2 kb) (mN (dv 2 dy) (dn (mV 0) (dn (mC (D.int 4)) dq))) (mN (b1 l8) (dn (mV 1) dq)))) (gN 7))
  (dG (dH (d8 (dn (mN (dv 2 dy) (dn (mV 0) (dn (mV 3) dq))) (dn (mV 7) (dn (m2 (b2 dz) (eZ (dn (mC D.non) (dn (mC (D.int 0)) (dn (mC (D.int 1)) (dn (mC (D.int 0)) (dn (mC (D.int 2)) (dn (mC (D.int 1)) (dn (mC (D.int 3)) (dn (mC (D.int 0)) dq))))))))) (mN (dv 2 dy) (dn (mV 0) (dn (mC (D.int 8)) dq)))) dq)))) (gN 8))
  (fh (mB (m2 (b2 (gR λi j=>decide (j<i))) (mN (dv 2 dy) (dn (mV 0) (dn (mC (D.int 12)) dq))) (mC (D.int 0)))) (fm (ug (b2 kW) (mV 4) (dn (d8 (dn (d8 (dn (mV 5) (dn (mV 6) dq))) (dn (mV 8) dq))) dq))) kH)))
def gM:FS:=(fD (e6 (mN (dv 1 ge) (dn (mV 2) dq))) (gN 6) gO)
def kg:FS:=(dG (dH (mN (dv 2 ft) (dn (mV 0) (dn (eZ (dn (d8 dq) (dn (d8 (dn (mC (D.str "came")) dq)) (dn (d8 (dn (mC (D.str "doors")) dq)) (dn (d8 (dn (mC (D.str "chalk")) dq)) (dn (d8 (dn (mC (D.str "others")) dq)) (dn (d8 (dn (mC (D.str "chalk")) (dn (mC (D.str "others")) dq))) (dn (d8 (dn (mC (D.str "came")) dq)) dq)))))))) dq))) (gN 2))
  (dG (dH (d8 (dn (m2 (b2 eE) (mC (D.int 1)) (mN (dv 2 dy) (dn (mV 0) (dn (mC (D.int 2)) dq)))) (dn (eZ dq) dq))) (gT 2 (eU (gN 3) (eU (gN 4) i7))))
  (dG (fD (nS (dn (mV 3) dq)) (gN 5) gM)
  (ee (d8 (dn (mV 2) (dn (mN (b1 gTup) (dn (mV 4) dq)) dq)))))))
def fM:FN:=gG 9 kg
theorem nP {f:c4}(F:dY K "_law_machine" jW f)(a:Own P w K mg base 1 "_law_draw" 2 dy)(b:Own P w K mg base 2 "_law_of" 2 ft)(c:Own P w K mg base 1 "_law_sights" 1 ge):
  Own P w K mg base 3 "_law_machine" 2 fM:=xq ["_law_box_here","_law_loud","_law_eyes","_law_moods","_law_rows","_law_mood","_law_sight_here","_law_hand","_law_deed_here"] X G F λd=>
 (qF (sq (wn b (a2 xv (ev (qA (dF qN) (qA (dF (a1 dV)) (qA (dF (a1 dV)) (qA (dF (a1 dV)) (a3 (dF (a1 dV)) (dF (a2 dV dV)) (dF (a1 dV))))))))))) (qF (ku 3 4 O (gH O) O O (by decide) O O (a2 (qI ek qK (wn a (a2 xv qK))) (ev qN))) (qF (fo (ir (a1 xv)) gq (qG (fo (qd (wn c (a1 xv))) gq (qF (sq (jq (ev (qA dV (a3 dV dV dV))) (qI lc (wn a (a2 xv qK)) (cz sn (a1 xv))))) (qF (sq (dF (a3 (wn a (a2 xv xv)) xv (jq (ev (qA gA (qA qK (qA qK (qA qK (qA qK (a3 qK qK qK))))))) (wn a (a2 xv qK)))))) (qG (qV (ct BR (wn a (a2 xv qK)) qK) (qG (lq ap xv (a1 (dF (a2 (dF (a2 xv xv)) xv))))) qQ))))))) (qG (qU (dF (a2 xv (cz eL (a1 xv)))))))))
abbrev nb:di:=i9 34
def nF:FS:=(dG (dH (ic (mN (dv 2 ej) (dn (mV 0) (dn (wQ (dn (mV 1) dq)) dq))) fv (eW (m2 (b2 eE) (mV 2) (mN (dv 2 dy) (dn (mV 0) (dn (m2 (b2 eE) (m2 (b2 gSub) (mV 1) (mV 2)) (mC (D.int 1))) dq)))))) (gN 3))
  (ee (mN (b1 gTup) (dn (mN (b1 kJ) (dn (mV 3) dq)) dq))))
def h9:FN:=gG 4 nF
theorem sZ {f:c4}(F:dY K "_law_some" nb f)(b:Own P w K mg base 1 "_law_draw" 2 dy)(a:Own P w K mg base 2 "_law_shuffled" 2 ej):
  Own P w K mg base 3 "_law_some" 3 h9:=xq ["_law_box_here","_law_many","_law_least","_law_bits"] X G F λc=>
 (qF (sq (ed (wn a (a2 xv (lw O O (bz B) O (bz B) (a1 xv)))) eJ (eD (qI ek xv (wn b (a2 xv (qI ek (qI nq xv xv) qK))))))) (qG (qU (cz eL (a1 (cn vL (a1 xv)))))))
abbrev oS:di:=i9 43
def qi:FS:=(dG (dH (eZ (dn (mC D.non) (dn (mC (D.bl true)) (dn (mC (D.bl false)) (dn (m1 (b1 mP) (mC (D.int 1))) (dn (mC (D.int 0)) (dn (mC (D.int 1)) (dn (mC (D.int 2)) (dn (mC (D.int 3)) (dn (mC (D.int 4)) (dn (mC (D.int 8)) (dn (mC (D.int 4000)) (dn (d8 dq) (dn (mC (D.str "")) (dn (mC (D.str "leave")) (dn (d8 (dn (mC (D.int 0)) dq)) (dn (d8 (dn (mC (D.int 0)) (dn (mC (D.int 0)) (dn (mC (D.int 0)) dq)))) (dn (eZ (dn (mC (D.int 0)) dq)) (dn px (dn (d8 (dn (d8 (dn (mC (D.int 0)) (dn (mC (D.int 0)) (dn (mC (D.int 0)) dq)))) dq)) dq)))))))))))))))))))) (gN 2))
  (dG (fh (mTr (gx .tuple (mV 1))) (dG (dH (mN (dv 2 dy) (dn (mV 0) (dn (m2 (b2 eE) (mN (b1 eB) (dn (mV 1) dq)) (mC (D.int 1))) dq))) (gN 3))
  (dG (dH (eZ (dn (m2 (b2 eE) (ic (mV 1) fv (eW (mV 3))) (ic (mV 1) (eW (m2 (b2 eE) (mV 3) (mC (D.int 1)))) fv)) (dn (m2 (b2 eE) (m2 (b2 eE) (ic (mV 1) fv (eW (mV 3))) (ic (mV 1) (eW (mV 3)) (eW (m2 (b2 eE) (mV 3) (mC (D.int 1)))))) (ic (mV 1) (eW (mV 3)) fv)) (dn (Go (mV 1) (m1 (b1 mP) (mC (D.int 1)))) (dn (mN (b1 nT) (dn (mV 1) dq)) dq))))) (gN 2))
  (dH (m2 (b2 eE) (mV 2) (eZ (dn (m2 (b2 eE) (m2 (b2 eE) (ic (mV 1) fv (eW (mV 3))) (d8 (dn (mC (D.int 0)) dq))) (ic (mV 1) (eW (mV 3)) fv)) (dn (m2 (b2 eE) (ic (mV 1) (eW (mV 3)) fv) (ic (mV 1) fv (eW (mV 3)))) (dn (mC D.non) (dn (d8 dq) (dn (m2 (b2 eE) (mV 1) (d8 (dn (mV 1) dq))) dq))))))) (gN 2)))) kH)
  (dG (fh (mI (mTr (gx .int (mV 1))) (iz (mTr (gx .bool (mV 1))))) (dH (m2 (b2 eE) (mV 2) (eZ (dn (m2 (b2 eE) (mV 1) (mC (D.int 1))) (dn (m2 (b2 gSub) (mV 1) (mC (D.int 1))) (dn (m2 (b2 eE) (mV 1) (mC (D.int 1))) (dn (m2 (b2 gSub) (mV 1) (mC (D.int 1))) (dn (m2 (b2 eE) (mV 1) (mC (D.int 2))) (dn (mN (b1 Fg) (dn (mV 1) dq)) (dn (d8 (dn (mV 1) dq)) (dn (m2 (b2 gEq) (mV 1) (mC (D.int 1))) dq)))))))))) (gN 2)) kH)
  (ee (mN (dv 2 ft) (dn (mV 0) (dn (mV 2) dq)))))))
def gQ:FN:=gG 4 qi
theorem uS {f:c4}(F:dY K "_law_odd" oS f)(b:Own P w K mg base 1 "_law_draw" 2 dy)(a:Own P w K mg base 2 "_law_of" 2 ft):
  Own P w K mg base 3 "_law_odd" 2 gQ:=xq ["_law_box_here","_law_thing","_law_some_here","_law_at"] X G F λc=>
 (qF (sq (ev (qA gA (qA gg (qA gg (qA (lv pu qK) (qA qK (qA qK (qA qK (qA qK (qA qK (qA qK (qA qK (qA (dF qN) (qA dV (qA dV (qA (dF (a1 qK)) (qA (dF (a3 qK qK qK)) (a3 (ev (a1 qK)) oC (dF (a1 (dF (a3 qK qK qK))))))))))))))))))))))) (qF (qV (fx (ii xv)) (qF (sq (wn b (a2 xv (qI ek (cn eT (a1 xv)) qK)))) (qF (sq (ev (qA (qI ek (ed xv eJ (eD xv)) (ed xv (eD (qI ek xv qK)) eJ)) (a3 (qI ek (qI ek (ed xv eJ (eD xv)) (ed xv (eD xv) (eD (qI ek xv qK)))) (ed xv (eD xv) eJ)) (uj xv (lv pu qK)) (cz pZ (a1 xv)))))) (qG (sq (qI ek xv (ev (qA (qI ek (qI ek (ed xv eJ (eD xv)) (dF (a1 qK))) (ed xv (eD xv) eJ)) (qA (qI ek (ed xv (eD xv) eJ) (ed xv eJ (eD xv))) (a3 gA (dF qN) (qI ek xv (dF (a1 xv)))))))))))) qQ) (qF (qV (iY (iw (fx (ii xv)) (iF (gz (fx (ii xv)))))) (qG (sq (qI ek xv (ev (qA (qI ek xv qK) (qA (qI nq xv qK) (qA (qI ek xv qK) (qA (qI nq xv qK) (qA (qI ek xv qK) (a3 (cz LC (a1 xv)) (dF (a1 xv)) (ce (oq jm) xv qK))))))))))) qQ) (qG (qU (wn a (a2 xv xv)))))))
abbrev oU:di:=i9 47
def jD:FS:=(fm (ug (b2 kW) (mV 7) (dn (mN (dv 4 fN) (dn (mV 0) (dn (mV 1) (dn (m2 (b2 dz) (mV 7) (m1 (b1 mP) (mC (D.int 1)))) (dn (mV 8) dq))))) dq)))
def jC:FS:=(fm (ug (b2 CJ) (mV 9) (dn (mN (b1 nT) (dn (mV 8) dq)) dq)))
def qk:FS:=(dG (dH (d8 (dn (mN (b1 eB) (dn (m2 (b2 dz) (mV 2) (mC (D.int 0))) dq)) (dn (mN (dv 1 fz) (dn (mV 2) dq)) dq))) (gT 2 (eU (gN 5) (eU (gN 6) i7))))
  (dG (fh (wP (iz (mTr (mN (dv 2 eG) (dn (mV 5) (dn (mV 3) dq))))) (iz (mTr (mN (dv 2 eG) (dn (mV 5) (dn (mV 4) dq)))))) (ee (mC (D.bl J))) kH)
  (dG (dH (eZ (dn (mV 6) dq)) (gN 7))
  (dG (fD (e6 (m2 (b2 eE) (mV 3) (mV 4))) (gN 8) jD)
  (dG (dH (eZ dq) (gN 9))
  (dG (fD (e6 (mV 4)) (gN 8) jC)
  (dG (dH (m2 (b2 gEq) (m2 (b2 dz) (mV 7) (m1 (b1 mP) (mC (D.int 1)))) (m2 (b2 dz) (mV 7) (mN (b1 eB) (dn (mV 3) dq)))) (gN 10))
  (ee (gv (mV 10) (gv (mN (b1 lB) (dn (d6 1 [9] (nS (dn (mV 5) dq)) (gN 0) ea (dU (m2 (b2 fZ) (mV 0) (mV 1)))) dq)) (pv (mN (b1 nU) (dn (d6 1 [] (e6 (mV 7)) (gN 0) ea (dU (mN (dv 1 gk) (dn (mV 0) dq)))) dq)))))))))))))
def iQ:FN:=gG 11 qk
theorem uU {f:c4}(F:dY K "_law_due" oU f)(a:Own P w K mg base 2 "_law_are_choices" 2 eG)(c:Own P w K mg base 2 "_law_beat" 4 fN)(b:Own P w K mg base 1 "_law_begun" 1 fz)(d:Own P w K mg base 1 "_law_met" 1 gk):
  Own P w K mg base 3 "_law_due" 5 iQ:=xq ["_law_web_here","_law_own_here","_law_standing_here","_law_way","_law_again","_law_many","_law_whole","_law_wholes","_law_choice_here","_law_stood","_law_back"] X G F (hb:=λ_ _ _ _ _ _ h e=>NC e λ_ _ _ _ _=>rfl) λg=>
 (qF (ku 5 6 O (gH O) O O (by decide) O O (a2 (cn eT (a1 (jq xv qK))) (wn b (a1 xv)))) (qF (qV (iY (lu (gz (fx (wn a (a2 xv xv)))) (jy (gz (fx (wn a (a2 xv xv))))))) (qG (qU gg)) qQ) (qF (sq (ev (a1 xv))) (qF (fo (qd (qI ek xv xv)) gq (qG (lq ap xv (a1 (wn c (qA xv (a3 xv (jq xv (lv pu qK)) xv))))))) (qF (sq (ev qN)) (qF (fo (qd xv) gq (qG (lq ⟨PySem.F.slot_list_extend,PySem.F.type_list_extend,JY⟩ xv (a1 (cz pZ (a1 xv)))))) (qF (sq (ce (oq jm) (jq xv (lv pu qK)) (jq xv (cn eT (a1 xv))))) (qG (qU (gW xv (gW (cn (p0 O) (a1 (fk ["_law_k"] (ir (a1 xv)) ⟨gq,d7,(ce (oq j2) xv xv (by with_unfolding_all rfl))⟩))) (iZ (nZ (cn (yJ O) (a1 (fk ["_law_one"] (qd xv) ⟨gq,d7,(wn d (a1 xv))⟩))))))))))))))))
abbrev nf:di:=i9 48
def jb:FS:=(dG (fh (mB (m2 (b2 zO) (mV 4) (mV 6))) (ee (d8 (dn (mN (b1 gTup) (dn (ic (mV 5) fv (eW (m2 (b2 dz) (mV 6) (mV 4)))) dq)) (dn (mN (b1 gTup) (dn (ic (mV 5) (eW (m2 (b2 dz) (mV 6) (mV 4))) fv) dq)) dq)))) kH)
  (dG (dH (mV 7) (gS (b3 gI) (mV 6) (mV 4)))
  (dG (fm (ug (b2 kW) (mV 5) (dn (mN (dv 2 eI) (dn (mV 0) (dn (mN (b1 eB) (dn (m2 (b2 dz) (mV 3) (mC (D.int 0))) dq)) dq))) dq)))
  (dH (mN (dv 4 fN) (dn (mV 1) (dn (mV 2) (dn (mV 4) (dn (m2 (b2 dz) (mV 5) (m1 (b1 mP) (mC (D.int 1)))) dq))))) (gN 4)))))
def nG:FS:=(dG (dH (d8 (dn (mN (dv 1 fz) (dn (mV 3) dq)) (dn (eZ dq) (dn px dq)))) (gT 3 (eU (gN 4) (eU (gN 5) (eU (gN 6) i7)))))
  (dG (fD (nS (dn (mC (D.int 14)) dq)) (gN 7) jb)
  (ee (d8 (dn (mN (b1 gTup) (dn (ic (mV 5) fv (eW (mC (D.int 3)))) dq)) (dn (mN (b1 gTup) (dn (ic (mV 5) (eW (mC (D.int 3))) fv) dq)) dq))))))
def ia:FN:=gG 8 nG
theorem s9 {f:c4}(F:dY K "_law_ring" nf f)(b:Own P w K mg base 2 "_law_beat" 4 fN)(a:Own P w K mg base 1 "_law_begun" 1 fz)(c:Own P w K mg base 2 "_law_choice" 2 eI):
  Own P w K mg base 3 "_law_ring" 4 ia:=xq ["_law_box_here","_law_web_here","_law_own_here","_law_standing_here","_law_whole","_law_picks","_law_met_at","_law_turn"] X G F λd=>
 (qF (Ay 4 5 6 O (gH O) O O O (by decide) (by decide) (by decide) O O O (a3 (wn a (a1 xv)) (ev qN) oC)) (qF (fo (ir (a1 qK)) gq (qF (qV (ct (oq KM) xv xv (by with_unfolding_all rfl)) (qG (qU (dF (a2 (cz eL (a1 (ed xv eJ (eD (jq xv xv))))) (cz eL (a1 (ed xv (eD (jq xv xv)) eJ))))))) qQ) (qF (qR xv (kw xv xv (mz d.units))) (qF (lq ap xv (a1 (wn c (a2 xv (cn eT (a1 (jq xv qK))))))) (qG (sq (wn b (qA xv (a3 xv xv (jq xv (lv pu qK))))))))))) (qG (qU (dF (a2 (cz eL (a1 (ed xv eJ (eD qK)))) (cz eL (a1 (ed xv (eD qK) eJ)))))))))
abbrev m7:di:=i9 17
def nC:FS:=(ee (mN (dv 4 gC) (dn (mV 0) (dn (mV 2) (dn (mN (dv 3 iO) (dn (mV 0) (dn (mV 1) (dn (mV 2) dq)))) (dn (mV 3) dq))))))
def hW:FN:=gG 4 nC
theorem sU {f:c4}(F:dY K "slow_beat" m7 f)(a:Own P w K mg base 3 "deeds_of" 3 iO)(b:Own P w K mg base 3 "moved_some" 4 gC):
  Own P w K mg base 4 "slow_beat" 4 hW:=xq ["web","machine","whole","choice"] X G F λc=>
 (qG (qU (wn b (qA xv (a3 xv (wn a (a3 xv xv xv)) xv)))))
abbrev k6:di:=i9 23
def lm:FS:=(ee (gv (gx .tuple (mV 1)) (mN (b1 lB) (dn (d6 1 [0] (e6 (mV 1)) (gN 0) ea (dU (mN (dv 2 gt) (dn (mV 1) (dn (mV 0) dq))))) dq))))
def fF:FN:=gG 2 lm
theorem pk {f:c4}(F:dY K "are_choices" k6 f)(a:Own P w K mg base 3 "is_choice" 2 gt):
  Own P w K mg base 4 "are_choices" 2 fF:=xq ["many","thing"] X G F λb=>
 (qG (qU (gW (ii xv) (iZ (cn (p0 O) (a1 (fk ["choice"] (qd xv) ⟨gq,d7,(wn a (a2 xv xv))⟩)))))))
abbrev jL:di:=i9 35
def jQ:FS:=(dG (dH (mN (b1 gTup) (dn (mN (b1 kJ) (dn (ic (mN (dv 2 ej) (dn (mV 0) (dn (wQ (dn (mN (b1 eB) (dn (mV 1) dq)) dq)) dq))) fv (eW (m2 (b2 eE) (mC (D.int 1)) (mN (dv 2 dy) (dn (mV 0) (dn (mV 2) dq)))))) dq)) dq)) (gN 3))
  (ee (d8 (dn (mV 3) (dn (u8 (mB (m2 (b2 gEq) (mN (dv 2 dy) (dn (mV 0) (dn (mC (D.int 2)) dq))) (mC (D.int 0)))) (mN (dv 3 h9) (dn (mV 0) (dn (mN (b1 eB) (dn (mV 1) dq)) (dn (mC (D.int 0)) dq)))) (d8 dq)) dq)))))
def fC:FN:=gG 4 jQ
theorem mF {f:c4}(F:dY K "_law_standing" jL f)(c:Own P w K mg base 1 "_law_draw" 2 dy)(a:Own P w K mg base 2 "_law_shuffled" 2 ej)(b:Own P w K mg base 3 "_law_some" 3 h9):
  Own P w K mg base 4 "_law_standing" 3 fC:=xq ["_law_box_here","_law_web_here","_law_most","_law_rooms"] X G F λd=>
 (qF (sq (cz eL (a1 (cn vL (a1 (ed (wn a (a2 xv (lw O O (bz B) O (bz B) (a1 (cn eT (a1 xv)))))) eJ (eD (qI ek qK (wn c (a2 xv xv)))))))))) (qG (qU (dF (a2 xv (lx (ct (oq jm) (wn c (a2 xv qK)) qK) (wn b (a3 xv (cn eT (a1 xv)) qK)) (dF qN)))))))
abbrev m6:di:=i9 20
def k9:FS:=(fm (ug (b2 kW) (mV 4) (dn (mN (dv 4 hW) (dn (mV 0) (dn (mV 1) (dn (m2 (b2 dz) (mV 4) (m1 (b1 mP) (mC (D.int 1)))) (dn (mV 5) dq))))) dq)))
def nB:FS:=(dG (dH (eZ (dn (mV 2) dq)) (gN 4))
  (dG (fD (e6 (mV 3)) (gN 5) k9)
  (ee (mV 4))))
def hV:FN:=gG 6 nB
theorem sT {f:c4}(F:dY K "walked_on" m6 f)(a:Own P w K mg base 4 "slow_beat" 4 hW):
  Own P w K mg base 5 "walked_on" 4 hV:=xq ["web","machine","whole","choices","wholes","choice"] X G F λb=>
 (qF (sq (ev (a1 xv))) (qF (fo (qd xv) gq (qG (lq ap xv (a1 (wn a (qA xv (a3 xv (jq xv (lv pu qK)) xv))))))) (qG (qU xv))))
abbrev k4:di:=i9 22
def ll:FS:=(dG (dH (mN (b1 eB) (dn (m2 (b2 dz) (mV 2) (mC (D.int 0))) dq)) (gN 5))
  (dG (fh (wP (iz (mTr (mN (dv 2 fF) (dn (mV 5) (dn (mV 3) dq))))) (iz (mTr (mN (dv 2 fF) (dn (mV 5) (dn (mV 4) dq)))))) (ee (mC (D.bl J))) kH)
  (dG (fh (iz (mTr (mN (b1 lB) (dn (d6 1 [4] (nS (dn (mV 5) dq)) (gN 0) ea (dU (mN (b1 nU) (dn (d6 1 [0] (e6 (mV 1)) (gN 0) ea (dU (m2 (b2 fZ) (mV 1) (mV 0)))) dq)))) dq)))) (ee (mC (D.bl J))) kH)
  (dG (dH (mN (dv 4 hV) (dn (mV 0) (dn (mV 1) (dn (mN (dv 1 lY) (dn (mV 2) dq)) (dn (m2 (b2 eE) (mV 3) (mV 4)) dq))))) (gN 6))
  (ee (gv (m2 (b2 gEq) (m2 (b2 dz) (mV 6) (mN (b1 eB) (dn (mV 3) dq))) (m2 (b2 dz) (mV 6) (m1 (b1 mP) (mC (D.int 1))))) (pv (mN (b1 nU) (dn (d6 1 [] (e6 (mV 6)) (gN 0) ea (dU (mN (dv 1 iM) (dn (mV 0) dq)))) dq)))))))))
def gb:FN:=gG 7 ll
theorem pj {f:c4}(F:dY K "shows_dodge" k4 f)(a:Own P w K mg base 4 "are_choices" 2 fF)(b:Own P w K mg base 1 "begun" 1 lY)(d:Own P w K mg base 1 "is_met" 1 iM)(c:Own P w K mg base 5 "walked_on" 4 hV):
  Own P w K mg base 6 "shows_dodge" 5 gb:=xq ["web","machine","standing","way","again","many","wholes"] X G F (hb:=λ_ _ _ _ _ _ h e=>NC e λ_ _ _ _ _=>rfl) λg=>
 (qF (sq (cn eT (a1 (jq xv qK)))) (qF (qV (iY (lu (gz (fx (wn a (a2 xv xv)))) (jy (gz (fx (wn a (a2 xv xv))))))) (qG (qU gg)) qQ) (qF (qV (gz (fx (cn (p0 O) (a1 (fk ["walker"] (ir (a1 xv)) ⟨gq,d7,(cn (yJ O) (a1 (fk ["choice"] (qd xv) ⟨gq,d7,(ce (oq j2) xv xv (by with_unfolding_all rfl))⟩)))⟩))))) (qG (qU gg)) qQ) (qF (sq (wn c (qA xv (a3 xv (wn b (a1 xv)) (qI ek xv xv))))) (qG (qU (gW (ce (oq jm) (jq xv (cn eT (a1 xv))) (jq xv (lv pu qK))) (iZ (nZ (cn (yJ O) (a1 (fk ["whole"] (qd xv) ⟨gq,d7,(wn d (a1 xv))⟩))))))))))))
abbrev jX:di:=i9 44
def ig(self:FN):FS:=(dG (fh (mI (mB (m2 (b2 (gR fun i j=>decide (j<i))) (mV 2) (mC (D.int 0)))) (mI (mTr (gx .tuple (mV 1))) (mI (mB (m2 (b2 zN) (mV 1) (d8 dq))) (mB (m2 (b2 (gR fun i j=>decide (j<i))) (mN (dv 2 dy) (dn (mV 0) (dn (mC (D.int 6)) dq))) (mC (D.int 0))))))) (dG (dH (mN (dv 2 dy) (dn (mV 0) (dn (mN (b1 eB) (dn (mV 1) dq)) dq))) (gN 3))
  (ee (m2 (b2 eE) (m2 (b2 eE) (ic (mV 1) fv (eW (mV 3))) (d8 (dn (mN (dv 3 self) (dn (mV 0) (dn (m2 (b2 dz) (mV 1) (mV 3)) (dn (m2 (b2 gSub) (mV 2) (mC (D.int 1))) dq)))) dq))) (ic (mV 1) (eW (m2 (b2 eE) (mV 3) (mC (D.int 1)))) fv)))) kH)
  (ee (mN (dv 2 gQ) (dn (mV 0) (dn (mV 1) dq)))))
def fT:Nat->FN
 |0=>λ_ _=>Y
 |n+1=>gG 4 (ig (fT n))
def j3:FN:=fT 8
theorem sJ {f:c4}{fd:dg}(F:yV K "_law_bent" "_law_bent" jX f fd)(hb:kn K fd ["_law_box_here","_law_thing","_law_deep"] [])(hm:mg "_law_bent"=some (.ref f))(d:Own P w K mg base 1 "_law_draw" 2 dy)(a:Own P w K mg base 3 "_law_odd" 2 gQ){k:Nat}{self:FN}(hk:3<=k)(o_self:Own P w K mg base k "_law_bent" 3 self):
  Own P w K mg base (k+1) "_law_bent" 3 (gG 4 (ig self)):=xB (n:=3) (N:=["_law_box_here","_law_thing","_law_deep","_law_at"]) (ps:=["_law_box_here","_law_thing","_law_deep"]) (b:=ig self) F hb hm sk O λe A c s H E g=>
 (qF (qV (iY (iw (ct BR xv qK) (iw (fx (ii xv)) (iw (ct (oq BP) xv (dF qN)) (iF (ct BR (wn d (a2 xv qK)) qK)))))) (qF (sq (wn d (a2 xv (cn eT (a1 xv))))) (qG (qU (qI ek (qI ek (ed xv eJ (eD xv)) (dF (a1 (qH o_self g (nR1 _) O (a3 xv (jq xv xv) (qI nq xv qK)))))) (ed xv (eD (qI ek xv qK)) eJ))))) qQ) (qG (qU (wn a (a2 xv xv)))))
theorem tq {f:c4}(F:dY K "_law_bent" jX f)(e:Own P w K mg base 1 "_law_draw" 2 dy)(a:Own P w K mg base 3 "_law_odd" 2 gQ):Own P w K mg base 12 "_law_bent" 3 j3:=by
 have c:=wM1 X G F.ns;obtain⟨fd,F⟩:=F.fn;have b:=F.binds (ps:=["_law_box_here","_law_thing","_law_deep"]) (λ_ _ _ _ _ _ h g=>MU g λ_ _ _=>rfl);have d:∀j:Nat,Own P w K mg base (4+j) "_law_bent" 3 (fT j):=λj=>by
  induction j with
  |zero=>exact BH F b c
  |succ j ih=>exact sJ X G B F b c e a (show 3<=4+j by omega) ih
 exact d 8
abbrev uA:di:=i9 49
def oh:FS:=(dG (dH (mN (dv 5 gb) (dn (mV 3) (dn (mV 4) (dn (mV 5) (dn (mV 12) (dn (mV 13) dq)))))) (gN 14))
  (dG (dH (mN (dv 5 iQ) (dn (mV 3) (dn (mN (dv 1 gj) (dn (mV 4) dq)) (dn (mV 5) (dn (mV 12) (dn (mV 13) dq)))))) (gN 15))
  (fh (wP (iz (mTr (gx .bool (mV 14)))) (mB (m2 (b2 zN) (mV 14) (mV 15)))) (ee (mC (D.bl J))) kH)))
def sS:FS:=(dG (dH (eZ (dn (mN (dv 2 dy) (dn (mV 2) (dn (mC (D.int 7)) dq))) (dn (mN (dv 2 dy) (dn (mV 2) (dn (mC (D.int 7)) dq))) dq))) (gN 8))
  (dG (dH (mN (b1 gTup) (dn (d6 1 [2,6] (e6 (mV 8)) (gN 0) ea (dU (mN (b1 gTup) (dn (d6 1 [1,2] (nS (dn (mV 0) dq)) (gN 0) ea (dU (mN (dv 2 eI) (dn (mV 1) (dn (mV 2) dq))))) dq)))) dq)) (gN 9))
  (dG (fh (mB (m2 (b2 gEq) (mN (dv 2 dy) (dn (mV 2) (dn (mC (D.int 2)) dq))) (mC (D.int 0)))) (dH (mN (dv 4 ia) (dn (mV 2) (dn (mV 3) (dn (mN (dv 1 gj) (dn (mV 4) dq)) (dn (mV 5) dq))))) (gN 9)) kH)
  (dG (dH (mN (dv 3 j3) (dn (mV 2) (dn (mV 9) (dn (mC (D.int 4)) dq)))) (gN 10))
  (dG (dH (m2 (b2 eE) (eZ (dn (mV 9) dq)) (m2 (b2 rX) (eZ (dn (mV 10) dq)) (mN (b1 l8) (dn (gv (gx .tuple (mV 10)) (m2 (b2 gEq) (mN (b1 eB) (dn (mV 10) dq)) (mC (D.int 2)))) dq)))) (gN 11))
  (fD (e6 (mV 11)) (gT 2 (eU (gN 12) (eU (gN 13) i7))) oh))))))
def sR:FS:=(dG (dH (mN (dv 2 gl) (dn (mV 0) (dn (mV 1) dq))) (gN 2))
  (dG (dH (d8 (dn (mN (dv 2 iP) (dn (mV 2) (dn (mC (D.int 6)) dq))) (dn (mN (dv 2 fM) (dn (mV 2) (dn (mC (D.bl M)) dq))) dq))) (gT 2 (eU (gN 3) (eU (gN 4) i7))))
  (dG (dH (mN (dv 3 fC) (dn (mV 2) (dn (mV 3) (dn (mN (b2 wZ) (dn (mC (D.int 4)) (dn (mN (b1 eB) (dn (mV 3) dq)) dq))) dq)))) (gN 5))
  (dG (dH (mN (b1 eB) (dn (m2 (b2 dz) (mV 5) (mC (D.int 0))) dq)) (gN 6))
  (fD (nS (dn (mC (D.int 4)) dq)) (gN 7) sS)))))
def xZ:FS:=(rH [M,M,J,J,J,J,J,J,J,J,J,J,J,J,J,J] [M,J,J,J,J,J,J,J,J,J,J,J,J,J,J,J] sR)
def De:FS:=(dG (fD (nS (dn (mN (b2 Fi) (dn (mC (D.int 1)) (dn (mN (b2 wZ) (dn (mC (D.int 8)) (dn (mN (b1 eB) (dn (mV 0) dq)) dq))) dq))) dq)) (gN 1) xZ)
  (ee (mC (D.bl M))))
def m_law:FN:=gG 16 De
theorem HV {f:c4}{fd:dg}(F:yV K "law" "law" uA f fd)(h:Own P w K mg base 12 "_law_bent" 3 j3)(j:Own P w K mg base 1 "_law_box" 2 gl)(i:Own P w K mg base 2 "_law_choice" 2 eI)(l:Own P w K mg base 1 "_law_draw" 2 dy)(m:Own P w K mg base 3 "_law_due" 5 iQ)(p:Own P w K mg base 3 "_law_machine" 2 fM)(a:Own P w K mg base 1 "_law_own" 1 gj)(d:Own P w K mg base 3 "_law_ring" 4 ia)(c:Own P w K mg base 4 "_law_standing" 3 fC)(o:Own P w K mg base 3 "_law_web" 2 iP)(e:Own P w K mg base 6 "shows_dodge" 5 gb):
  m4 P w K mg base vT 13 f fd ["_law_script"] (spM K 1 m_law):=GF (k:=12) (n:=1) (N:=["_law_script","_law_k","_law_box_here","_law_web_here","_law_machine_here","_law_standing_here","_law_many","_law_tour","_law_sizes","_law_pair","_law_bent_here","_law_some_here","_law_way","_law_again","_law_found","_law_due_here"]) (ps:=["_law_script"]) (b:=De) F sk O λq A g s H E r=>
 (qF (fo (ir (a1 (cn (LD O) (a2 qK (cn (Gw O) (a2 qK (cn eT (a1 xv)))))))) gq (yW [M,M,J,J,J,J,J,J,J,J,J,J,J,J,J,J] [M,J,J,J,J,J,J,J,J,J,J,J,J,J,J,J] (qF (sq (wn j (a2 xv xv))) (qF (ku 3 4 O (gH O) O O (by decide) O O (a2 (wn o (a2 xv qK)) (wn p (a2 xv gg)))) (qF (sq (wn c (a3 xv xv (cn (Gw O) (a2 qK (cn eT (a1 xv))))))) (qF (sq (cn eT (a1 (jq xv qK)))) (qG (fo (ir (a1 qK)) gq (qF (sq (ev (a2 (wn l (a2 xv qK)) (wn l (a2 xv qK))))) (qF (sq (cz eL (a1 (fk ["_law_size"] (qd xv) ⟨gq,d7,(cz eL (a1 (fk ["_law_turn"] (ir (a1 xv)) ⟨gq,d7,(wn i (a2 xv xv))⟩)))⟩)))) (qF (qV (ct (oq jm) (wn l (a2 xv qK)) qK) (qG (sq (wn d (qA xv (a3 xv (wn a (a1 xv)) xv))))) qQ) (qF (sq (wn h (a3 xv xv qK))) (qF (sq (qI ek (ev (a1 xv)) (qI HY (ev (a1 xv)) (cz sn (a1 (gW (ii xv) (iZ (ce (oq jm) (cn eT (a1 xv)) qK)))))))) (qG (fo (qd xv) (tg2 gq gq) (qF (sq (wn e (qA xv (qA xv (a3 xv xv xv))))) (qF (sq (wn m (qA xv (qA (wn a (a1 xv)) (a3 xv xv xv))))) (qG (qV (iY (lu (gz (fx (ii xv))) (jy (ct (oq BP) xv xv)))) (qG (qU gg)) qQ))))))))))))))))))) (qG (qU gg)))
end
theorem all_mk {l:PySem.W.OpenLaw}{w:c7}{K:Fg1}{h:df}{mg:Str->Option cZ}{fa f1 f2 f3 f4 f5 f6 f7 f8 f9 f10 f11 f12 f13 f14 f15 f16 T f18 f19 f20 f21 f22 f23 f24 f25 f26 f27 f28 f29 t f31 f32 au f34 f35 E A U f39 o L f42 f43:c4}(X:K.In h)(G:h.Ns c8 mg)(hfa:mg "law"=some (.ref fa))
  {g1 g2 g5 g8 f:c4}
  {t3 t4 t6 t7 t9 S t12 t13:Tok}
  {q od5 wq m od1:Option c4} {n2 n5 n8 n11 n1:Nat} {p sl5 R i sl1:Array (Option cZ)}
  (a1:dY K "is_whole" oM f1)
  (a2:dY K "is_rising" m9 f2)
  (a3:dY K "first_of" oO f3)
  (a4:dY K "begun" xS f4)
  (a5:dY K "sight_of" oK f5)
  (a6:dY K "handled" rh f6)
  (a7:dY K "stepped" rg f7)
  (a8:dY K "is_met" uB f8)
  (a9:dY K "_law_box" oV f9)
  (I:dY K "_law_draw" nh f10)
  (aq:dY K "_law_join" ng f11)
  (u:dY K "_law_sights" k7 f12)
  (a13:dY K "_law_sight" lP f13)
  (C:dY K "_law_own" oR f14)
  (F:dY K "_law_deed" nj f15)
  (a16:dY K "_law_met" oT f16)
  (a17:dY K "_law_begun" lQ T)
  (ao:dY K "_law_whole_number" io f18)
  (a19:dY K "is_below" oN f19)
  (a20:dY K "deed_of" ri f20)
  (a21:dY K "wants" xQ f21)
  (a22:dY K "moved" xR f22)
  (a23:dY K "_law_of" rj f23)
  (n:dY K "_law_shuffled" jM f24)
  (Q:dY K "_law_choice" k8 f25)
  (a26:dY K "_law_beat" nk f26)
  (a27:dY K "_law_are_choices" iH f27)
  (a28:dY K "deeds_of" oP f28)
  (a29:dY K "moved_some" lO f29)
  (a30:dY K "is_choice" na t)
  (a31:dY K "_law_web" oQ f31)
  (am:dY K "_law_machine" jW f32)
  (a33:dY K "_law_some" nb au)
  (a34:dY K "_law_odd" oS f34)
  (N:dY K "_law_due" oU f35)
  (a36:dY K "_law_ring" nf E)
  (a37:dY K "slow_beat" m7 A)
  (a38:dY K "are_choices" k6 U)
  (D:dY K "_law_standing" jL f39)
  (a40:dY K "walked_on" m6 o)
  (a41:dY K "shows_dodge" k4 L)
  (x:dY K "_law_bent" jX f42)
  (k:dY K "law" uA f43)
  (e_PARTS:wN1 K c8 "PARTS"=Z (Z (Value.ref g1)))
  (h1:K.lookup g1=Z ⟨.type "tuple",od1,.seq ([(Value.ref g2),(Value.ref g5),(Value.ref g8),(Value.ref f)]:List cZ).toArray n1,sl1⟩)
  (h2:K.lookup g2=Z ⟨.type "tuple",q,.seq ([(Value.str "came" t3),(Value.int (5) t4)]:List cZ).toArray n2,p⟩)
  (h5:K.lookup g5=Z ⟨.type "tuple",od5,.seq ([(Value.str "chalk" t6),(Value.int (2) t7)]:List cZ).toArray n5,sl5⟩)
  (h8:K.lookup g8=Z ⟨.type "tuple",wq,.seq ([(Value.str "doors" t9),(Value.int (5) S)]:List cZ).toArray n8,R⟩)
  (h11:K.lookup f=Z ⟨.type "tuple",m,.seq ([(Value.str "others" t12),(Value.int (2) t13)]:List cZ).toArray n11,i⟩)
  (z:LQ K BL):∃fd:dg,(∀(s:c3) (v:cZ),BindsTo s fd ⟨[v],[]⟩ [("_law_script",v)]) /\ ∀base:df,K.In base->base.Ns c8 mg->m4 l.prog w K mg base vT 13 fa fd ["_law_script"] (spM K 1 m_law):=by
 have e:=hfa.symm.trans (wM1 X G k.ns);cases e;have B:Blt BL mg:=z.blt X G;have c0:CGl K mg "PARTS" ou:=Jj (wM1 X G e_PARTS) (pU h1 (by show 4<=da;decide) (fE (pU h2 (by show 2<=da;decide) (fE tS (fE tT me))) (fE (pU h5 (by show 2<=da;decide) (fE tS (fE tT me))) (fE (pU h8 (by show 2<=da;decide) (fE tS (fE tT me))) (fE (pU h11 (by show 2<=da;decide) (fE tS (fE tT me))) me)))));obtain⟨_,⟨⟨_,_,kV,dc,pm,an,cd,ct,_,rfl,lL,cL⟩,kL⟩⟩:=k.fn;refine⟨wF1 "law" "law" (i8 uA) (fB uA) (dX uA) .none kV dc pm an cd ct,λs v=>.of_eq O,λbase _ _=>?_⟩;have o0:=uM (P:=l.prog) (w:=w) (base:=base) X G B a1;have o13:=sX (P:=l.prog) (w:=w) (base:=base) X G B a2;have o1:=uO (P:=l.prog) (w:=w) (base:=base) X G B a3;have H:=BM (P:=l.prog) (w:=w) (base:=base) X G B a4;have o2:=uL (P:=l.prog) (w:=w) (base:=base) X G B a5 c0;have o3:=wG (P:=l.prog) (w:=w) (base:=base) X G B a6;have o4:=wF (P:=l.prog) (w:=w) (base:=base) X G B a7;have o30:=zo (P:=l.prog) (w:=w) (base:=base) X G B a8;have r:=uV (P:=l.prog) (w:=w) (base:=base) X G B a9;have a:=tj (P:=l.prog) (w:=w) (base:=base) X G B I;have y:=tf (P:=l.prog) (w:=w) (base:=base) X G B aq;have o17:=pp (P:=l.prog) (w:=w) (base:=base) X G B u;have o7:=qv (P:=l.prog) (w:=w) (base:=base) X G B a13;have o37:=uR (P:=l.prog) (w:=w) (base:=base) X G B C;have o6:=tm (P:=l.prog) (w:=w) (base:=base) X G B F;have o21:=uT (P:=l.prog) (w:=w) (base:=base) X G B a16;have g:=qw (P:=l.prog) (w:=w) (base:=base) X G B a17;have o8:=j1 (P:=l.prog) (w:=w) (base:=base) X G B ao;have W:=uN X G B a19 o0;have o9:=wH X G B a20 o1;have o10:=BI X G B a21 o2;have o11:=BK X G B a22 o3 o4;have b:=wI X G B a23 a;have c:=mG X G B n a;have j:=pq X G B Q a;have d:=tt X G B a26 o6 o7;have o18:=kS X G B a27 o8;have o23:=uP X G B a28 o9 o10;have o24:=qu X G B a29 o11;have o25:=sY X G B a30 W o13;have o40:=uQ X G B a31 a y b c;have o36:=nP X G B am a b o17;have o26:=sZ X G B a33 a c;have o32:=uS X G B a34 a b;have V:=uU X G B N o18 d g o21;have o38:=s9 X G B a36 d g j;have o27:=sU X G B a37 o23 o24;have o28:=pk X G B a38 o25;have o39:=mF X G B D a c o26;have o31:=sT X G B a40 o27;have o41:=pj X G B a41 o28 H o30 o31;have o33:=tq X G B x a o32;exact HV (P:=l.prog) (w:=w) (base:=base) X G B (CL lL cL kL) o33 r j a V o36 o37 o38 o39 o40 o41
def hnd(g m c:Int):Ob:=.lst [.int g,.int m,.int c]
def Io(m c:Int):Int:=(m*40009+7368787*c+12345)%2305843009213693951
def wN(m c:Int):Int:=(Io m c*(Io m c%65537+101*c)+9973)%2305843009213693921
theorem LF{a b c:D}:vW [a,b,c] 0=Z a:=by rfl
theorem Nd{a b c:D}:vW [a,b,c] 1=Z b:=by rfl
theorem Nc{a b c:D}:vW [a,b,c] 2=Z c:=by rfl
theorem Jb{T:dr}{g m c k:Int}(hg:0<g)(hk:0<k)(d:k<2^62):
  dy [.ref 0,.int k] (hnd g m c::T)=Z (.int (g%k),hnd (g/k) m c::T):=by
 have b:k<2^64:=by lia
 have a:k<18446744073709551616:=b;simp[dy,gG,fI,kh,dG,fh,mB,m2,b2,gR,mV,mC,dz,mQ,CI,dQ,hnd,hg,hk,a,dH,gN,l7,pJ,gS,b3,gI,l6,j9,ee,LF,wT]
theorem Ja{T:dr}{g m c k:Int}(hg:¬ 0<g)(hk:0<k)(hc:0<=c)(f:c<2^60):
  dy [.ref 0,.int k] (hnd g m c::T)=Z (.int ((wN m (c+1)/4099+wN m (c+1)/2147483659)%k),hnd g (wN m (c+1)) (c+1)::T):=by
 have d:eS m 40009=M:=u5 (by decide) (by decide);have b:eS 7368787 (c+1)=M:=rE (by decide) (by decide);have a:eS 101 (c+1)=M:=rE (by decide) (by decide);have q:=Int.emod_lt_of_pos (m*40009+7368787*(c+1)+12345) (show(0:Int)<2305843009213693951 by decide);have h:=Int.emod_nonneg (m*40009+7368787*(c+1)+12345) (show(2305843009213693951:Int)≠0 by decide);have e:eS ((m*40009+7368787*(c+1)+12345)%2305843009213693951) ((m*40009+7368787*(c+1)+12345)%2305843009213693951%65537+101*(c+1))=M:=rE (by omega) (by omega);simp[dy,gG,fI,kh,dG,fh,mB,m2,b2,gR,mV,mC,dz,mQ,CI,dQ,hnd,hg,hk,dH,gN,l7,pJ,gS,b3,gI,l6,j9,ee,LF,Nd,Nc,wT,kH,eE,kb,d,b,a,e,Io,wN]
def Hnd(o:Ob)(n:Nat):Prop:=∃g m c:Int,o=hnd g m c/\0<=c/\c<=n
theorem Hnd.und{o:Ob}{n k:Nat}(h:Hnd o n):o.und k=M:=by
 obtain⟨g,m,c,rfl,_⟩:=h;rfl
theorem Hnd.more{o:Ob}{n k:Nat}(h:Hnd o n)(hk:n<=k):Hnd o k:=by
 obtain⟨g,m,c,e,a,h1⟩:=h;exact⟨g,m,c,e,a,by lia⟩
theorem FL(ns:List Int)(k:Int)(h0:0<=k)(hk:k<64):∃g m,gl [.rol (ns.map D.int),.int k] []=Z (.ref 0,[hnd g m 0]):=by
 have j:eS (10^45) (10^45)=M:=by decide+kernel
 have f:eS 9973 k=M:=rE (by decide) (by decide);have d:eS (9973*k) k=M:=u5 (by omega) (by omega);have c:eS 17 k=M:=rE (by decide) (by decide);have h:eS 0 0=M:=rE (by decide) (by decide);have e:∀(x:Int) (b:Prop) [Decidable b],eS x (if b then 1 else 0)=M:=λx b _=>by
  split
  ·exact u5 (by decide) (by decide)
  ·exact u5 (by decide) (by decide)
 have lt:w1 (.int k) (.int ns.length) []=Z (.bl (decide (k<ns.length)),[]):=by rfl
 by_cases i:k<ns.length
 ·have a:vW (ns.map D.int) k=some (.int (ns[k.toNat]'(by lia))):=by
   unfold vW wT;rw[ak h0,ak (by simpa using i)];simp[show k.toNat<ns.length by lia]
  generalize l:ns[k.toNat]'(by lia)=x at a
  simp[gl,gG,fI,lF,dG,fh,mB,m2,b2,b1,mN,dn,dq,gR,mV,mC,dz,mQ,CI,eB,dQ,dH,gN,l7,kb,eE,wY,l8,ee,eZ,lt,i,a,f,d,c,e,da,hnd,kH];simp[show eS 1000000000000000000000000000000000000000000000 1000000000000000000000000000000000000000000000=M from j,f,d,c,e]
 ·simp[gl,gG,fI,lF,dG,fh,mB,m2,b2,b1,mN,dn,dq,gR,mV,mC,dz,mQ,CI,eB,dQ,dH,gN,l7,kb,eE,wY,l8,ee,eZ,lt,i,f,d,c,e,da,hnd,kH];simp[show eS 1000000000000000000000000000000000000000000000 1000000000000000000000000000000000000000000000=M from j,h,f,d,c,e]
theorem Jp(ns:List Int)(k:Int)(h0:0<=k)(hk:k<64):∃o,dv 2 gl [.rol (ns.map D.int),.int k] []=Z (.ref 0,[o])/\Hnd o 0:=by
 have a:=FL ns k h0 hk;obtain⟨g,m,e⟩:=a;refine⟨hnd g m 0,?_,_,_,_,O,Int.le_refl _,Int.le_refl _⟩;rw[kf (n:=2) e O (by rw[D.unds,D.und,mr];rfl) (by simp[D.und])];simp[D.sh,Ob.sh,D.shs,hnd]
def fj(U:dr):Prop:=U.all (Ob.und U.length)=M
structure HS (n:Nat)(B U:dr):Prop where
 len:B.length<=U.length
 pos:0<B.length
 same:∀i,i<B.length->0<i->U[i]?=B[i]?
 hand:∃o,U[0]?=some o/\Hnd o n
 shut:fj U
theorem HS.more{n n':Nat}{B U:dr}(s:HS n B U)(hn:n<=n'):HS n' B U:=by
 obtain⟨o,e,h⟩:=s.hand;exact⟨s.len,s.pos,s.same,⟨o,e,h.more hn⟩,s.shut⟩
theorem HS.self{n:Nat}{U:dr}{o:Ob}(e:U[0]?=Z o)(h:Hnd o n)(a:fj U):HS n U U:=
 ⟨nR1 _,(gE1.mp e).1,λ_ _ _=>rfl,⟨o,e,h⟩,a⟩
theorem HS.here{n:Nat}{B U:dr}(s:HS n B U):HS n U U:=by
 obtain⟨o,e,h⟩:=s.hand;exact .self e h s.shut
theorem HS.trans{n n':Nat}{B U V:dr}(a:HS n B U)(b:HS n' U V):HS n' B V:=
 ⟨aC a.len b.len,a.pos,λi hi h1=>(b.same i (nL1 hi a.len) h1).trans (a.same i hi h1),b.hand,b.shut⟩
theorem HS.at{n:Nat}{B U:dr}(s:HS n B U){i:Nat}{o:Ob}(e:B[i]?=Z o)(h1:0<i):U[i]?=Z o:=by
 rw[s.same i (gE1.mp e).1 h1];exact e
theorem oJ{U:dr}{G:dr}(s:fj U)(hg:∀o∈G,o.und (U++G).length=M):fj (U++G):=by
 unfold fj at *
 rw[cM,bA1];rw[bH]at s;refine⟨bH.mpr λo a=>gB (by rw[lA1];lia) (s o a),bH.mpr hg⟩
theorem lN{U:dr}{i:Nat}{o:Ob}(s:fj U)(ho:o.und U.length=M):fj (U.set i o):=by
 unfold fj at *
 rw[aX,bH]at *
 intro x a;rcases List.mem_or_eq_of_mem_set a with z|z
 ·exact s x z
 ·rw[z];exact ho
theorem HS.app{n:Nat}{B U G:dr}(s:HS n B U)(hg:∀o∈G,o.und (U++G).length=M):HS n B (U++G):=by
 obtain⟨o,e,h⟩:=s.hand;have a:=s.len;refine⟨by rw[lA1];lia,s.pos,λi hi h1=>?_,⟨o,?_,h⟩,oJ s.shut hg⟩
 ·rw[gL1 (by lia)];exact s.same i hi h1
 ·rw[gL1 (gE1.mp e).1];exact e
theorem HS.app1{n:Nat}{B U:dr}{o:Ob}(s:HS n B U)(hg:o.und 0=M):HS n B (U++[o]):=
 s.app λx a=>by rw[cN.mp a];exact gB (br _) hg
theorem HS.set{n i:Nat}{B U:dr}{o:Ob}(s:HS n B U)(hi:B.length<=i)(ho:o.und U.length=M):HS n B (U.set i o):=by
 obtain⟨o',e,h⟩:=s.hand;have h1:=s.pos;refine⟨by rw[aX];exact s.len,s.pos,λj b a=>?_,⟨o',?_,h⟩,lN s.shut ho⟩
 ·rw[gS1 (by lia)];exact s.same j b a
 ·rw[gS1 (by lia)];exact e
theorem draw_W{n:Nat}{B U:dr}{k:Int}{Q:D×dr->Prop}(s:HS n B U)(hn:n<=2^50)(hk:0<k)(f:k<2^62)(q:∀(d:Nat) U',HS (n+1) B U'->HS (n+1) U U'->U'.length=U.length->(d:Int)<k->Q (.int d,U')):W (dv 2 dy [.ref 0,.int k] U) Q:=by
 obtain⟨o,e,g,m,c,rfl,j,h1⟩:=s.hand;obtain⟨T,rfl⟩:∃T,U=hnd g m c::T:=by
  cases U with
  |nil=>cases e
  |cons a T=>cases e;exact⟨T,O⟩
 have call:∀d o',dy [.ref 0,.int k] (hnd g m c::T)=Z (d,o'::T)->dv 2 dy [.ref 0,.int k] (hnd g m c::T)=Z (d,o'::T):=λd o e=>Ae e O (by simp[D.unds,D.und]) (by simp);have l:∀o':Ob,Hnd o' (n+1)->HS (n+1) (hnd g m c::T) (o'::T):=λo' h=>by
  refine⟨nR1 _,by simp,λi hi r=>?_,⟨o',O,h⟩,?_⟩
  ·cases i with
   |zero=>lia
   |succ i=>rfl
  ·have:=s.shut;unfold fj at *
   rw[bS,bA1]at *
   exact⟨h.und,this.2⟩
 by_cases p:0<g
 ·have b:=Int.emod_nonneg g (show k≠0 by lia);obtain⟨d,e⟩:=Int.eq_ofNat_of_zero_le b;refine⟨_,call _ _ (Jb p hk f),?_⟩;rw[e];have u:=l (hnd (g/k) m c) ⟨_,_,_,O,j,by lia⟩;exact q d _ (s.trans u) u O (by rw[<- e];exact Int.emod_lt_of_pos _ hk)
 ·have b:=Int.emod_nonneg (wN m (c+1)/4099+wN m (c+1)/2147483659) (show k≠0 by lia);obtain⟨d,e⟩:=Int.eq_ofNat_of_zero_le b;refine⟨_,call _ _ (Ja p hk j (by lia)),?_⟩;rw[e];have u:=l (hnd g (wN m (c+1)) (c+1)) ⟨_,_,_,O,by lia,by push_cast;lia⟩;exact q d _ (s.trans u) u O (by rw[<- e];exact Int.emod_lt_of_pos _ hk)
theorem pY{n c c':Nat}{f:FN}{ds:List D}{B U:dr}{Q:D×dr->Prop}(hn:ds.length=n)(l:D.unds 0 ds=J)(s:HS c B U)(q:W (f ds U) λp=>HS c' U p.2/\p.1.und 0=M /\ ∀g,HS c' B g->HS c' U g->g.length=U.length->Q (p.1,g)):W (dv n f ds U) Q:=by
 refine jP hn l (q.mono ?_);rintro⟨d,V⟩ ⟨v,j,q⟩;dsimp only at v j q;have r:=v.len;have m:=v.pos;have tl:(V.take U.length).length=U.length:=by rw[aR];lia
 obtain⟨o,e,h⟩:=v.hand;have get:∀i,i<U.length->(V.take U.length)[i]?=V[i]?:=λi hi=>by rw[aT hi]
 have sh:(V.take U.length).all (Ob.und U.length)=M:=by
  rw[bH];intro x k;obtain⟨i,hi⟩:=bB k;have b:i<U.length:=by rw[<- tl];exact(gE1.mp hi).1
  rw[get i b]at hi;by_cases a:i=0
  ·subst a;rw[e]at hi;cases hi;exact h.und
  ·rw[v.same i b (by lia)]at hi;have:=s.shut;unfold fj at this;rw[bH]at this;exact this x (gM1 hi)
 have u:HS c' U (V.take U.length):=by
  refine⟨by rw[tl];lia,v.pos,λi hi a=>by rw[get i hi];exact v.same i hi a,⟨o,by rw[get 0 (by lia)];exact e,h⟩,?_⟩;unfold fj;rw[tl];exact sh
 have e:gc U.length (d,V)=(d,V.take U.length):=by
  unfold gc;dsimp only;rw[ak (by rw[e9 j,sh];rfl)]
 rw[e];exact q _ (s.trans u) u tl
theorem KF{c r:Nat}{B U:dr}{xs:List D}{Q:D×dr->Prop}(s:HS c B U)(hc:c<=2^45)(hr:U[r]? = Z (.lst xs))(h:0<r)(n:xs.length<=100000)(k:0<xs.length)(hx:∀ x∈xs,x.und 0=M)(q:∀x f,x∈xs->HS (c+1) B f->HS (c+1) U f->f.length=U.length->Q (x,f)):W (dv 2 ft [.ref 0,.ref r] U) Q:=by
 refine pY (c':=c+1) O O s ?_;unfold ft;refine jf ?_;unfold mW;walk_at"w";refine eh hr ?_;dsimp only;refine draw_W s.here (by lia) (by lia) (by lia) λj f h1 h2 m l=>?_;have d:j<xs.length:=by lia
 refine nK (i:=j) (h2.at hr h) (gG1 d) ?_;exact⟨h2,hx _ (bV d),λg a b e=>q _ g (bV d) a b e⟩
theorem pQ:∀{xs:List D} {i:Nat} (h:i<xs.length),(xs[i]::xs.eraseIdx i).Perm xs
 |x::xs,0,h=>List.Perm.refl _
 |x::xs,i+1,h=>by
  have:=pQ (xs:=xs) (i:=i) (by simpa using h);rw[List.eraseIdx_cons_succ,List.getElem_cons_succ];exact(List.Perm.swap _ _ _).trans (this.cons x)
theorem AC{c:FT}{b:FS}{Q:Fl×Ev×dr->Prop}(I:Nat->Ev->dr->Prop)(step:∀k r S,I k r S->W (c r S) fun p=>if p.1=true then 0<k/\W (b r p.2) fun q=>q.1 = .nx/\I (k-1) q.2.1 q.2.2 else Q (.nx,r,p.2)):
  ∀(fuel k:Nat) (r:Ev) (S:dr),k<fuel->I k r S->W (uf c b fuel r S) Q
 |0,k,r,S,hf,_=>by lia
 |fuel+1,k,r,S,hf,hi=>by
  rw[uf];dsimp only;rw[dw];obtain⟨⟨t,m⟩,e,h⟩:=step k r S hi;refine⟨_,e,?_⟩;dsimp only at h ⊢;cases t with
  |true=>
   rw[ak O]at h ⊢;obtain⟨l,⟨f,j,g⟩,i,a,d⟩:=h;dsimp only at a d;subst a;rw[i,oS1];exact AC I step fuel (k-1) j g (by lia) d
  |false=>
   rw[aj (by decide)]at h ⊢;exact dA.mpr h
inductive SH (c n:Nat)(xs:List D)(U:dr)(r0:Nat)(k:Nat)(r:Ev)(S:dr):Prop where
 |mk (left found:List D) (h1:HS (c+(n-k)) U S) (h2:S[U.length]?=some (.lst left)) (h3:S[U.length+1]?=some (.lst found)) (h4:(found++left).Perm xs) (h5:left.length=k)
  (h6:r=[some (.ref 0),some (.ref r0),some (.ref U.length),some (.ref (U.length+1))]):SH c n xs U r0 k r S
theorem jg{n:Nat}:∀{xs:List D},D.unds n xs=M ↔ ∀x∈xs,x.und n=M
 |[]=>by simp[D.unds]
 |x::xs=>by rw[D.unds,bA1,jg (xs:=xs)];simp
theorem wt{c r:Nat}{B U:dr}{xs:List D}{Q:D×dr->Prop}(s:HS c B U)(hc:c<=2^45)(hr:U[r]? = Z (.lst xs))(T:xs.length<=100)(hx:D.unds 0 xs=M)(q:∀k ys f,HS (c+xs.length) B f->HS (c+xs.length) U f->U.length<=k->f[k]?=Z (.lst ys)->ys.Perm xs->Q (.ref k,f)):W (dv 2 ej [.ref 0,.ref r] U) Q:=by
 refine jP O O ?_;unfold ej;refine jf ?_;unfold jR;have I:=s.here;refine d4 (λl S=>S=U++[.lst xs,.lst []]/\l=[Z (.ref 0),Z (.ref r),Z (.ref U.length),Z (.ref (U.length+1))]) ?_ ?_
 ·((try walk_at"w");repeat(simp only[nT,fR hr];try walk_at"w"))
 rintro l S ⟨rfl,rfl⟩;have nd:∀{ys zs:List D},(ys++zs).Perm xs->D.unds 0 ys=M/\D.unds 0 zs=M:=λ{ys zs} p=>by
  have h:=jg.mp hx;exact⟨jg.mpr λx h1=>h x (p.mem_iff.mp (aG _ h1)),jg.mpr λx h1=>h x (p.mem_iff.mp (mA1 _ h1))⟩
 refine d4 (λl S=>SH c xs.length xs U r 0 l S) ?_ ?_
 ·refine AC (SH c xs.length xs U r) ?_ 100000 xs.length _ _ (by lia) ⟨xs,[],?_,by rw[dL];rfl,by rw[gE];rfl,.refl _,O,O⟩
  ·rintro k l S ⟨a,b,h1,h2,n,g,t,rfl⟩;obtain ⟨P,L⟩:=nd g;have K:a.length<=xs.length/\b.length+a.length=xs.length:=by
    have:=g.length_eq;rw[lA1]at this;lia
   have am:=h1.len;have E:=(gE1.mp n).1;have d:∀o,(S++[o])[U.length]?=Z (.lst a):=λo=>by rw[gL1 (by lia)];exact h2
   have i:∀o,(S++[o])[U.length+1]?=Z (.lst b):=λo=>by rw[gL1 E];exact n
   unfold i6;walk_at"w";rw[yt (d _) (by rw[cO])];walk_at"w";have H:(!a.isEmpty)=decide (0<k):=by
    rw[<- t];cases a<;>simp
   rw[H];by_cases u:0<k
   ·rw[ak (by rw[al];exact u)];refine⟨u,?_⟩;unfold i5 fm;rw[dw];refine kj ?_;walk_at"w";refine⟨_,_,O,i _,?_⟩;refine kj ?_;walk_at"w";refine⟨_,_,O,d _,?_⟩
    try walk_at"w"
    refine eh (d _) ?_;dsimp only;refine draw_W (h1.app1 (o:=.lst []) O) (by lia) (by lia) (by lia) λj f a1 a2 a3 R=>?_;have e:j<a.length:=by lia
    try walk_at"w"
    have G:=s.pos;have w:0<U.length:=by have:=s.len;lia
    refine Jy (a2.at (d _) w) (gG1 e) (by lia) ?_;have b3:(f.set U.length (.lst (a.eraseIdx j)))[U.length+1]?=Z (.lst b):=by
     rw[gS1 (by lia)];exact a2.at (i _) (by lia)
    have v:U.length+1<f.length:=by rw[a3,lA1];lia
    have N:=pQ e;have m:(b++[a[j]]++a.eraseIdx j).Perm xs:=by
     rw[bf];exact(List.Perm.append_left b N).trans g
    obtain⟨F,A⟩:=nd m;refine(lr b3).mpr ⟨dD (by lia),?_⟩;refine SH.mk (a.eraseIdx j) (b++[a[j]]) ?_ ?_ ?_ m (by rw[cp e];lia) O
    ·refine((HS.more (n':=c+(xs.length-(k-1))) a1 (by lia)).set (nR1 _) (by rw[Ob.und];exact fq A)).set (by lia) (by rw[Ob.und];exact fq F)
    ·rw[gS1 (by lia),aH (by lia)]
    ·rw[aH (by rw[aX];exact v)]
   ·rw[aj (by rw[al];exact u)];have y:k=0:=by lia
    subst y;exact⟨a,b,h1.app1 O,d _,i _,g,t,O⟩
  ·rw[cP,Nat.add_zero];refine I.app λo au=>?_;rcases aE.mp au with z|z
   ·rw[z,Ob.und];exact fq hx
   ·rw[cN.mp z];rfl
 rintro l S ⟨a,b,h1,h2,n,g,t,rfl⟩;walk_at"w";have C:a=[]:=List.eq_nil_of_length_eq_zero t;subst C;rw[aN]at g;have ao:gc U.length (.ref (U.length+1),S)=(.ref (U.length+1),S):=by
  unfold gc;rw[aj];simp[D.und];intro z;lia
 rw[ao];exact q _ b S ((s.trans h1).more (by lia)) (h1.more (by lia)) (by lia) n g
abbrev dB:=List (List (Nat×Nat))
structure EW (b m:Nat)(E:dB)(U:dr):Prop where
 el:E.length=m
 row:∀(i:Nat) (row:List (Nat×Nat)),E[i]?=some row->U[b+i]?=some (fr row)
 ends:U[b+m]?=some (.lst (ja b m))
theorem EW.over{n b m:Nat}{E:dB}{U V:dr}(e:EW b m E U)(s:HS n U V)(d:0<b):EW b m E V:=
 ⟨e.el,λi a c=>s.at (e.row i a c) (by lia),s.at e.ends (by lia)⟩
theorem EW.setRow{b m i:Nat}{E:dB}{U:dr}{row:List (Nat×Nat)}(w:EW b m E U)(hi:i<m):EW b m (E.set i row) (U.set (b+i) (fr row)):=by
 have c:b+m<U.length:=(gE1.mp w.ends).1;refine⟨by rw[aX];exact w.el,λj a h=>?_,by rw[gS1 (by lia)];exact w.ends⟩;by_cases e:i=j
 ·subst e;rw[aH (by rw[w.el];exact hi)]at h;cases h;rw[aH (by lia)]
 ·rw[gS1 e]at h;rw[gS1 (by lia)];exact w.row j a h
theorem ua{b m i:Nat}{E:dB}{U:dr}{Q:D×dr->Prop}(w:EW b m E U)(hi:i<m)(q:Q (.ref (b+i),U)):W (dz (.ref (b+m)) (.int i) U) Q:=
 nK (xs:=ja b m) (x:=.ref (b+i)) w.ends (lR hi) q
theorem rQ:∀E:dB,lZ (E.map λa=>D.int (a.length:Nat))=Z (E.map λa=>((a.length:Nat):Int))
 |[]=>rfl
 |r::E=>by rw[mP1,mP1,lZ,rQ E];rfl
theorem uu:∀E:dB,(E.map λa=>((a.length:Nat):Int)).sum=((Mi.tot E:Nat):Int)
 |[]=>rfl
 |r::E=>by
  have:=uu E;unfold Mi.tot at *
  rw[mP1,mP1,List.sum_cons,List.sum_cons,this]
  push_cast;rfl
theorem Jv{E:dB}{S:dr}{n:Nat}{Q:D×dr->Prop}(h:S[n]?=Z (.lst (E.map λa=>D.int (a.length:Nat))))(q:Q (.int (Mi.tot E:Nat),S)):W (vm (.ref n) S) Q:=by
 refine W.of ?_ q;unfold vm;rw[fR h];dsimp only;rw[rQ,oS1,uu]
theorem LJ{g:G1}{m:FE}{r:Ev}{S:dr}{Q:D×dr->Prop}(h:W (m r S) λp=>W (g p.1 p.2) Q):W (mN (b1 g) (dn m dq) r S) Q:=by
 unfold mN dn dq;rw[dw,dw];refine h.mono ?_;rintro⟨d,a⟩ q;walk_at"w";exact q
theorem yT{b m i:Nat}{E:dB}{U G:dr}{Q:D×dr->Prop}(w:EW b m E U)(hi:i<m)(q:Q (.ref (b+i),U++G)):W (dz (.ref (b+m)) (.int i) (U++G)) Q:=
 nK (xs:=ja b m) (x:=.ref (b+i)) (by rw[gL1 (gE1.mp w.ends).1];exact w.ends) (lR hi) q
theorem Co{b m a c e:Nat}{E:dB}{U:dr}{Q:D×dr->Prop}(ao:fj U)(w:EW b m E U)(ht:Mi.tot E=2*e)(ha:a<m)(hc:c<m)(hm:m<=8){f:List (Nat×Nat)}(p:E[a]? = some f)(N:f.length<=8)(K:∀ rb,E[c]? = some rb->rb.length<=8)(q:∀rb,(E.set a (f++[(e,0)]))[c]?=some rb->Q (.non,(U.set (b+a) (fr (f++[(e,0)]))).set (b+c) (fr (rb++[(e,1)])))):
  W (dv 3 gu [.ref (b+m),.int a,.int c] U) Q:=by
 have H:b+m<U.length:=(gE1.mp w.ends).1;refine jP O O ?_;unfold gu;refine jf ?_;unfold nH;have v:∀S,vn (.int ((Mi.tot E:Nat):Int)) (.int 2) S=Z (.int (e:Nat),S):=λS=>by
  simp only[vn];rw[ak ⟨by lia,by lia⟩,ht]
  congr 3
  push_cast;lia
 refine d4 (λr S=>S=U++[.lst (E.map λrow=>D.int (row.length:Nat))]/\r=[Z (.ref (b+m)),Z (.int a),Z (.int c),Z (.int (e:Nat))]) ?_ ?_
 ·walk_at"w";refine eh w.ends ?_;refine iA (λi n r S=>S=U/\n=(E.take i).map (λrow=>D.int (row.length:Nat)) /\ ∃x,r=[x]) (ja b m) 0 [] _ _ ⟨O,by simp,_,O⟩ (λi n r S h=>by rw[h.1];exact fS w.ends) ?_ ?_
  ·rintro i d A n r S ⟨rfl,rfl,x,rfl⟩;have l:=(gE1.mp A).1;rw[jl]at l;rw[lR l]at A;cases A;rw[bQ];obtain⟨row,k⟩:∃row,E[i]?=some row:=⟨_,gG1 (by rw[w.el];exact l)⟩;walk_at"w";refine eh (xs:=row.map pD) (w.row i row k) ?_;rw[cj,k];simp
  ·rintro xs r S ⟨rfl,F,x,rfl⟩;rw[bi,bQ,jl,<- w.el,b0]at F;subst F;walk_at"w";refine⟨dD (by rw[lM1,w.el];lia),?_⟩;refine Jv (E:=E) (by rw[dL];rfl) ?_
   ((try walk_at"w");repeat(simp only[v];try walk_at"w"))
 rintro r S ⟨rfl,rfl⟩;generalize I:Ob.lst (E.map λrow=>D.int (row.length:Nat))=lens;have am:lens.und U.length=M:=by rw[<- I,Ob.und];exact dW λ_ _=>rfl
 have s:=w.setRow (row:=f++[(e,0)]) ha;have j:∀(V:dr) (i:Nat) (o:Ob),V[i]?=Z o->(V++[lens])[i]?=Z o:=λV i o h=>by rw[gL1 (gE1.mp h).1];exact h
 have st:∀(V:dr) (i:Nat) (o:Ob),i<V.length->(V++[lens]).set i o=V.set i o++[lens]:=λV i o h=>by rw[List.set_append_left _ _ h]
 have B:b+a<U.length:=(gE1.mp (w.row a f p)).1;refine d4 (λr S=>S=U.set (b+a) (fr (f++[(e,0)]))++[lens]/\r=[Z (.ref (b+m)),Z (.int a),Z (.int c),Z (.int (e:Nat))]) ?_ ?_
 ·unfold fm;rw[dw];refine kj ?_;walk_at"w";refine yT w ha ?_;refine⟨b+a,f.map pD,O,j _ _ _ (w.row a f p),?_⟩;walk_at"w";refine(lr (xs:=f.map pD) (j _ _ _ (w.row a f p))).mpr ⟨dD (by rw[lM1];lia),?_⟩;have y:(f.map pD++[D.tup [D.int ↑e,D.int 0]])=(f++[(e,0)]).map pD:=by simp[pD]
  rw[y,st _ _ _ B];trivial
 rintro r S ⟨rfl,rfl⟩;obtain⟨rb,g⟩:∃rb,(E.set a (f++[(e,0)]))[c]?=some rb:=⟨_,gG1 (by rw[s.el];exact hc)⟩;have au:rb.length<=10:=by
  by_cases z:a=c
  ·subst z;rw[aH (by rw[w.el];exact ha)]at g;cases g;simp;lia
  ·rw[gS1 z]at g;have:=K rb g;lia
 have t:b+c<(U.set (b+a) (fr (f++[(e,0)]))).length:=(gE1.mp (s.row c rb g)).1;unfold fm;rw[dw];refine kj ?_;walk_at"w";refine yT s hc ?_;refine⟨b+c,rb.map pD,O,j _ _ _ (s.row c rb g),?_⟩;walk_at"w";refine(lr (xs:=rb.map pD) (j _ _ _ (s.row c rb g))).mpr ⟨dD (by rw[lM1];lia),?_⟩;have y:(rb.map pD++[D.tup [D.int ↑e,D.int 1]])=(rb++[(e,1)]).map pD:=by simp[pD]
 rw[y,st _ _ _ t];have C:((U.set (b+a) (fr (f++[(e,0)]))).set (b+c) (fr (rb++[(e,1)]))).all (Ob.und U.length)=M:=by
  have:=lN (i:=b+c) (o:=fr (rb++[(e,1)])) (lN (i:=b+a) (o:=fr (f++[(e,0)])) ao iD) iD;unfold fj at this;rw[aX,aX]at this;exact this
 have L:gc U.length (.non,(U.set (b+a) (fr (f++[(e,0)]))).set (b+c) (fr (rb++[(e,1)]))++[lens])=(.non,(U.set (b+a) (fr (f++[(e,0)]))).set (b+c) (fr (rb++[(e,1)]))):=by
  have u:((U.set (b+a) (fr (f++[(e,0)]))).set (b+c) (fr (rb++[(e,1)]))++[lens]).take U.length=(U.set (b+a) (fr (f++[(e,0)]))).set (b+c) (fr (rb++[(e,1)])):=by
   rw[cG (by simp),b7 (by simp)]
  unfold gc;dsimp only;rw[u,ak (by rw[C];rfl)]
 have G:=q rb g;rw[<- L]at G;exact G
def qS:Nat->List (Nat×Nat)
 |0=>[]
 |e+1=>(e,1)::(e,0)::qS e
theorem vP:∀e,(qS e).length=2*e
 |0=>rfl
 |e+1=>by rw[qS,lC1,lC1,vP e];lia
theorem hR:∀{e:Nat} {x:Nat×Nat},x∈qS e↔x.1<e/\x.2<=1
 |0,x=>by simp[qS]
 |e+1,x=>by
  rw[qS,aE,aE,hR (e:=e)];obtain⟨a,b⟩:=x;simp only[Prod.mk.injEq];lia
theorem lA:∀e,(qS e).Nodup
 |0=>bA
 |e+1=>by
  rw[qS,aO,aO];refine⟨λh=>?_,λh=>?_,lA e⟩
  ·rcases aE.mp h with h|h
   ·simp at h
   ·have:=(hR.mp h).1;simp at this
  ·have:=(hR.mp h).1;simp at this
theorem pN:∀{E:dB} {i:Nat} {row:List (Nat×Nat)} {x:Nat×Nat},E[i]?=Z row->(E.set i (row++[x])).flatten.Perm (x::E.flatten)
 |[],i,_,_,h=>by simp at h
 |a::E,0,row,x,h=>by
  simp at h;subst h;rw[List.set_cons_zero,a0,a0,bf];exact cq
 |a::E,i+1,row,x,h=>by
  have:=pN (E:=E) (i:=i) (row:=row) (x:=x) (by simpa using h);rw[List.set_cons_succ,a0,a0];exact(List.Perm.append_left a this).trans cq
structure DI (m:Nat)(E:dB)(e:Nat):Prop where
 len:E.length=m
 all:E.flatten.Perm (qS e)
 le:∀(i:Nat) (row:List (Nat×Nat)),E[i]?=some row->row.length<=4
theorem DI.start(m:Nat):DI m (aP m []) 0:=by
 refine⟨by simp,by simp[qS],λi a h=>?_⟩;rw[aS]at h;split at h
 ·cases h;simp
 ·cases h
theorem DI.tot{m:Nat}{E:dB}{e:Nat}(d:DI m E e):Mi.tot E=2*e:=by
 unfold Mi.tot;rw[<- List.length_flatten,d.all.length_eq,vP]
theorem DI.join{m a c e:Nat}{E:dB}{f g:List (Nat×Nat)}(d:DI m E e)(ha:E[a]? = some f)(l:f.length<4)(hb:(E.set a (f++[(e,0)]))[c]? = some g)(k:g.length<4):
  DI m ((E.set a (f++[(e,0)])).set c (g++[(e,1)])) (e+1):=by
 refine⟨by rw[aX,aX];exact d.len,?_,λj h b=>?_⟩
 ·exact(pN hb).trans (((pN ha).trans (d.all.cons _)).cons _)
 ·by_cases z:c=j
  ·subst z;rw[aH (gE1.mp hb).1]at b;cases b;simp;lia
  ·rw[gS1 z]at b;by_cases i:a=j
   ·subst i;rw[aH (gE1.mp ha).1]at b;cases b;simp;lia
   ·rw[gS1 i]at b;exact d.le j h b
theorem GR{n b m i:Nat}{most:Int}{am U:dr}{E:dB}{Q:Fl×Ev×dr->Prop}(s:HS n am U)(hb:am.length=b)(hn:n<=2^44)(w:EW b m E U)(d:DI m E i)(hi:i+1<m)(hm:m<=8)(he:∀(j:Nat) (row:List (Nat×Nat)),i+1<=j->E[j]?=some row->row=[])(q:∀ao N,HS (n+1) am N->EW b m ao N->DI m ao (i+1)->(∀(j:Nat) (row:List (Nat×Nat)),i+2<=j->ao[j]?=some row->row=[]) ->
   Q (.nx,[Z (.ref 0),Z (.int most),Z (.int m),Z (.ref (b+m)),Z (.int ((i+1:Nat):Int)),Y,Y,Y,Y,Y,Y,Y,Y],N)):
  W (iy [Z (.ref 0),Z (.int most),Z (.int m),Z (.ref (b+m)),Z (.int ((i+1:Nat):Int)),Y,Y,Y,Y,Y,Y,Y,Y] U) Q:=by
 have hbl:=s.len;have hp:=s.pos;have g:∀j,j<m -> ∃row,E[j]?=Z row:=λj l=>⟨_,gG1 (by rw[d.len];exact l)⟩
 let k:Nat->Bool:=λj=>decide ((E.getD j []).length<4)
 unfold iy fm;rw[dw];simp(implicitDefEqProofs:=J) only[mN,dn,mV,gC1,cK,dq,oS1,dA,dw,fe,ju,Nx,mP1,Option.join_some,bj,bt,bi,nL,Bf];rw[jN,Int.toNat_natCast];refine⟨gF (by lia),?_⟩;refine iB k (λj:Nat=>.int j) (λr=>∃x,r=[x,Z (.ref (b+m))]) O (af (i+1)) _ ⟨_,O⟩ ?_ ?_
 ·rintro j l r ⟨x,rfl⟩;have t:j<m:=by have:=aB.mp l;lia
  obtain⟨row,f⟩:=g j t;walk_at"w";refine ua w t ?_;walk_at"w";refine eh (xs:=row.map pD) (w.row j row f) ?_;walk_at"w";refine⟨?_,⟨_,O⟩,λ_=>trivial⟩;simp only[k,bM,f,cB,lM1];rw[bT,al,al];lia
 ·rintro r' _;walk_at"w";have v:(List.range (i+1)).filter k≠[]:=by
   intro z;have u:∀(j:Nat) (row:List (Nat×Nat)),j<i+1->E[j]?=Z row->4<=row.length:=λj row l hr=>by
    have:=List.filter_eq_nil_iff.mp z j (aB.mpr l);simp only[k,bM,hr,cB,al]at this;lia
   have:=AO (E:=E) (k:=i+1) (by rw[d.len];lia) u;have:=d.tot;lia
  generalize X:(af (i+1)).filter k=L at v;have au:∀j∈L,j<i+1/\k j=M:=λj l=>by
   rw[<- X,aA]at l;exact⟨aB.mp l.1,l.2⟩
  have hLl:L.length<=8:=by
   rw[<- X];have:=cQ k (af (i+1));simp at this;lia
  refine⟨dD (by rw[lM1];lia),?_⟩;have wq:(Ob.lst (L.map λj:Nat=>D.int j)).und 0=M:=by rw[Ob.und];exact Mi.dW λ_ _=>rfl
  have s1:HS n am (U++[.lst (L.map λj:Nat=>D.int j)]):=s.app1 wq;have K:HS n U (U++[.lst (L.map λj:Nat=>D.int j)]):=s.here.app1 wq;refine KF s1 (by lia) (xs:=L.map λj:Nat=>D.int j) (by rw[dL];rfl) (by lia) (by rw[lM1];lia) (by rw[lM1];exact List.length_pos_iff.mpr v) (λx V=>by obtain⟨y,_,rfl⟩:=ci.mp V;rfl) λx U2 V aq R l2=>?_;obtain⟨j,l,rfl⟩:=ci.mp V;obtain⟨hj1,B⟩:=au j l;obtain⟨row,f⟩:=g j (by lia);have S:row.length<4:=by
   simp only[k,bM,f,cB,al]at B;exact B
  obtain⟨P,H⟩:=g (i+1) hi;have A:=he (i+1) P (nR1 _) H;subst A;have w2:EW b m E U2:=(w.over K (by lia)).over R (by lia);have G:j≠i+1:=by lia
  walk_at"w";refine Co (a:=j) (c:=i+1) (e:=i) aq.shut w2 d.tot (by lia) hi hm f (by lia) (λP h=>by have:=d.le _ P h;lia) λT p=>?_;have C:T=[]:=by
   rw[gS1 G,H]at p;cases p;rfl
  subst C;have w3:=(w2.setRow (row:=row++[(i,0)]) (show j<m by lia)).setRow (row:=[]++[(i,1)]) hi;have s3:=(aq.set (i:=b+j) (o:=fr (row++[(i,0)])) (by lia) iD).set (i:=b+(i+1)) (o:=fr ([]++[(i,1)])) (by lia) iD;refine q _ _ s3 w3 (d.join f S p (by simp)) λj' F t I=>?_;rw[gS1 (by lia),gS1 (by lia)]at I;exact he j' F (by lia) I
theorem Il{n b m e:Nat}{most:Int}{B U:dr}{E:dB}{y C R N:Option D}{Q:Fl×Ev×dr->Prop}(s:HS n B U)(hb:B.length=b)(hn:n<=2^44)(w:EW b m E U)(d:DI m E e)(he:e<=100)(hm0:0<m)(hm:m<=8)(q:∀ao G L K am,HS (n+2) B G->EW b m ao G->DI m ao L->L<=e+1 ->
   Q (.nx,[Z (.ref 0),Z (.int most),Z (.int m),Z (.ref (b+m)),y,C,K,am,Y,Y,Y,Y,Y],G)):
  W (ix [Z (.ref 0),Z (.int most),Z (.int m),Z (.ref (b+m)),y,C,R,N,Y,Y,Y,Y,Y] U) Q:=by
 have T:=s.len;have hp:=s.pos;have g:∀j,j<m -> ∃row,E[j]?=Z row:=λj aq=>⟨_,gG1 (by rw[d.len];exact aq)⟩;unfold ix;refine d4 (λr V=>∃(a c:Nat),a<m/\c<m/\HS (n+2) B V/\EW b m E V/\r=[Z (.ref 0),Z (.int most),Z (.int m),Z (.ref (b+m)),y,C,Z (.int (a:Nat)),Z (.int (c:Nat)),Y,Y,Y,Y,Y]) ?_ ?_
 ·walk_at"w";refine draw_W s (by lia) (by lia) (by lia) λa U1 P F l1 A=>?_;walk_at"w";refine draw_W P (by lia) (by lia) (by lia) λc U2 v I l2 hc=>?_;walk_at"w";exact⟨a,c,by lia,by lia,v,(w.over F (by lia)).over I (by lia),O⟩
 rintro r V ⟨a,c,A,hc,v,t,rfl⟩;obtain⟨p,k⟩:=g a A;obtain⟨H,x⟩:=g c hc;have au:((a:Int) == (c:Int))=decide (a=c):=by
  rw[bT,beq_iff_eq,al];lia
 have ei:(if decide (a=c)=M then(1:Int)else 0)=((if a=c then 1 else 0:Nat):Int):=by
  by_cases z:a=c<;>simp[z]
 have l:Q (.nx,[Z (.ref 0),Z (.int most),Z (.int m),Z (.ref (b+m)),y,C,Z (.int (a:Nat)),Z (.int (c:Nat)),Y,Y,Y,Y,Y],V):=q E V e _ _ v t d (by lia);walk_at"w";refine ua t A ?_;walk_at"w";refine eh (xs:=p.map pD) (t.row a p k) ?_
 ((try walk_at"w");repeat(simp only[au];try walk_at"w"))
 rw[ei,lM1];by_cases c1:p.length+(if a=c then 1 else 0)<4
 ·rw[ak (by rw[al];lia)];refine ua t hc ?_;walk_at"w";refine eh (xs:=H.map pD) (t.row c H x) ?_;walk_at"w";rw[lM1];by_cases c2:H.length<4
  ·rw [if_pos (by rw [decide_eq_true_eq];lia)];refine Co (a:=a) (c:=c) (e:=e) v.shut t d.tot A hc hm k (by have:=d.le a p k;lia) (fun u h=>by have:=d.le _ u h;lia) fun u f=>?_;have lb:u.length<4:=by
    by_cases z:a=c
    ·subst z;rw[aH (by rw[d.len];lia)]at f;cases f;rw[ak O]at c1;simp;lia
    ·rw[gS1 z,x]at f;cases f;lia
   have S:p.length<4:=by split at c1<;>lia
   have X:=(t.setRow (row:=p++[(e,0)]) (show a<m by lia)).setRow (row:=u++[(e,1)]) (show c<m by lia);have wq:=(v.set (i:=b+a) (o:=fr (p++[(e,0)])) (by lia) iD).set (i:=b+c) (o:=fr (u++[(e,1)])) (by lia) iD;exact q _ _ (e+1) _ _ wq X (d.join k S f lb) (by lia)
  ·rw[aj (by rw[al];lia)];exact l
 ·rw[aj (by rw[al];lia)]
  try walk_at"w"
  exact l
def At(R:dB)(r d:Nat)(x:Nat×Nat):Prop:=∃row,R[r]?=Z row/\row[d]?=Z x
theorem At.mem{R:dB}{r d:Nat}{x:Nat×Nat}(h:At R r d x):x∈R.flatten:=by
 obtain⟨a,h1,h2⟩:=h;exact cR.mpr ⟨a,gM1 h1,gM1 h2⟩
theorem Ai{R:dB}{x:Nat×Nat}(h:x∈R.flatten):∃p:Nat×Nat,At R p.1 p.2 x:=by
 obtain⟨a,h1,h2⟩:=cR.mp h;obtain⟨r,c⟩:=bB h1;obtain⟨d,b⟩:=bB h2;exact⟨(r,d),a,c,b⟩
theorem rB{α:Type}:∀{l:List α} {i j:Nat} {x:α},l.Nodup->l[i]?=Z x->l[j]?=Z x->i=j
 |[],i,j,x,_,h,_=>by simp at h
 |a::l,0,0,x,_,_,_=>rfl
 |a::l,0,j+1,x,n,h1,h2=>by
  simp at h1 h2;subst h1;exact absurd (gM1 h2) (aO.mp n).1
 |a::l,i+1,0,x,n,h1,h2=>by
  simp at h1 h2;subst h2;exact absurd (gM1 h1) (aO.mp n).1
 |a::l,i+1,j+1,x,n,h1,h2=>by
  exact congrArg (· + 1) (rB (i:=i) (j:=j) (x:=x) (aO.mp n).2 (by simpa using h1) (by simpa using h2))
theorem oy:∀{R:dB} {r d b d':Nat} {x:Nat×Nat},R.flatten.Nodup->At R r d x->At R b d' x->r=b/\d=d'
 |[],r,d,b,d',x,_,⟨_,h,_⟩,_=>by simp at h
 |a::R,r,d,b,d',x,n,⟨row,h1,h2⟩,⟨row',h1',h2'⟩=>by
  rw[a0,bG]at n;cases r with
  |zero=>
   simp at h1;subst h1;cases b with
   |zero=>
    simp at h1';subst h1';exact⟨O,rB n.1 h2 h2'⟩
   |succ b=>
    have m1:x∈R.flatten:=cR.mpr ⟨row',gM1 (by simpa using h1'),gM1 h2'⟩;exact absurd O (n.2.2 x (gM1 h2) x m1)
  |succ r=>
   cases b with
   |zero=>
    simp at h1';subst h1';have m1:x∈R.flatten:=cR.mpr ⟨row,gM1 (by simpa using h1),gM1 h2⟩;exact absurd O (n.2.2 x (gM1 h2') x m1)
   |succ b=>
    obtain⟨c,e⟩:=oy (R:=R) n.2.1 ⟨row,by simpa using h1,h2⟩ ⟨row',by simpa using h1',h2'⟩;exact⟨by rw[c],e⟩
open Classical in
def plc(R:dB)(x:Nat×Nat):Nat×Nat:=if h:∃p:Nat×Nat,At R p.1 p.2 x then Classical.choose h else(0,0)
theorem sQ{R:dB}{x:Nat×Nat}(h:x∈R.flatten):At R (plc R x).1 (plc R x).2 x:=by
 have h':=Ai h;unfold plc;rw[dif_pos h'];exact Classical.choose_spec h'
theorem Ho{R:dB}{r d:Nat}{x:Nat×Nat}(n:R.flatten.Nodup)(h:At R r d x):plc R x=(r,d):=by
 obtain⟨a,b⟩:=oy n (sQ h.mem) h;exact Prod.ext a b
def opp(x:Nat×Nat):Nat×Nat:=(x.1,1-x.2)
def yZ(R:dB):dB:=R.map λrow=>row.map λx=>plc R (opp x)
structure Ju (m:Nat)(w:dB):Prop where
 len:w.length=m
 le:∀row∈w,row.length<=4
 back:∀r d p,At w r d p->At w p.1 p.2 (r,d)
 ne:∀r d p,At w r d p->p≠(r,d)
theorem sD{R:dB}{r d:Nat}{p:Nat×Nat}:At (yZ R) r d p ↔ ∃x,At R r d x/\p=plc R (opp x):=by
 unfold At yZ;constructor
 ·rintro⟨b,h1,h2⟩;rw[gP1]at h1;obtain⟨a,c,rfl⟩:=oM1.mp h1;rw[gP1]at h2;obtain⟨x,e,rfl⟩:=oM1.mp h2;exact⟨x,⟨a,c,e⟩,O⟩
 ·rintro⟨x,⟨b,h1,h2⟩,rfl⟩;exact⟨b.map λx=>plc R (opp x),by rw[gP1,h1];rfl,by rw[gP1,h2];rfl⟩
theorem DD{m e:Nat}{R:dB}(d:DI m R e):Ju m (yZ R):=by
 have n:R.flatten.Nodup:=d.all.nodup_iff.mpr (lA e);have opp_mem:∀x,x∈R.flatten->opp x∈R.flatten/\opp (opp x)=x/\opp x≠x:=λx c=>by
  have:=hR.mp (d.all.mem_iff.mp c);obtain⟨a,b⟩:=x;simp at this;refine⟨d.all.mem_iff.mpr (hR.mpr ⟨this.1,by simp[opp]⟩),?_,?_⟩
  ·simp[opp];lia
  ·simp[opp];lia
 refine⟨by unfold yZ;rw[lM1];exact d.len,?_,?_,?_⟩
 ·intro g l;obtain⟨r,h,rfl⟩:=ci.mp l;obtain⟨i,hi⟩:=bB h;rw[lM1];exact d.le i r hi
 ·intro r q p f;obtain⟨x,c,rfl⟩:=sD.mp f;obtain⟨h1,h2,_⟩:=opp_mem x c.mem;exact sD.mpr ⟨opp x,sQ h1,by rw[h2,Ho n c]⟩
 ·intro r q p f z;obtain⟨x,c,rfl⟩:=sD.mp f;obtain⟨h1,_,o⟩:=opp_mem x c.mem;have k:=sQ h1;rw[z]at k;obtain⟨g,a1,a2⟩:=c;obtain⟨j,b1,b2⟩:=k;rw[a1]at b1;cases b1;rw[a2]at b2;exact o (Option.some.inj b2).symm
theorem Bw{f:Nat×Nat->D}:∀{a b:List D},a.Perm b -> ∀l:List (Nat×Nat),b=l.map f -> ∃c:List (Nat×Nat),a=c.map f/\c.Perm l:=by
 intro a b h
 induction h with
 |nil=>intro l e;exact⟨[],O,by cases l with|nil=>exact .refl _|cons _ _=>simp at e⟩
 |cons x _ ih=>
  intro l e;cases l with
  |nil=>simp at e
  |cons y l=>
   simp at e;obtain⟨c,d,p⟩:=ih l e.2;exact⟨y::c,by rw[mP1,e.1,d],p.cons y⟩
 |swap x y o=>
  intro l e
  match l,e with
  |a::b::l,e=>
   simp at e;exact⟨b::a::l,by rw[mP1,mP1,e.1,e.2.1,e.2.2],List.Perm.swap _ _ _⟩
 |trans _ _ i g=>
  intro l e;obtain⟨m,d,n⟩:=g l e;obtain⟨j,k,p2⟩:=i m d;exact⟨j,k,p2.trans n⟩
theorem rn:∀(k n:Nat),ja n (k+1)=ja n k++[.ref (n+k)]
 |0,n=>rfl
 |k+1,n=>by
  rw[ja,rn k (n+1),ja,bt,show n+1+k=n+(k+1) by lia]
theorem Be{n k m:Nat}(h:n+k<=m):D.unds m (ja n k)=M:=by
 induction k generalizing n with
 |zero=>rfl
 |succ k ih=>rw[ja,D.unds,ih (by lia),D.und];simp;lia
theorem CQ{U:dr}{m:Nat}:EW U.length m (aP m []) (U++(aP m (.lst [])++[.lst (ja U.length m)])):=by
 refine⟨by simp,λi a h=>?_,?_⟩
 ·have hi:i<m:=by have:=(gE1.mp h).1;simpa using this
  rw[aS,ak hi]at h;cases h;rw[gE,gL1 (by simpa using hi),aS,ak hi];rfl
 ·rw[gE,gR1 (by simp)];simp
structure sB (b:Nat)(ks:List Nat)(R:dB)(V:dr):Prop where
 len:ks.length=R.length
 at_:∀(i k:Nat) (row:List (Nat×Nat)),ks[i]?=some k->R[i]?=some row->V[k]?=some (fr row)
 low:∀k∈ks,b<=k
theorem sB.over{n b:Nat}{ks:List Nat}{R:dB}{U V:dr}(e:sB b ks R U)(s:HS n U V)(c:0<b):sB b ks R V:=
 ⟨e.len,λi k a h1 h2=>s.at (e.at_ i k a h1 h2) (by have:=e.low k (gM1 h1);lia),e.low⟩
def uH(k:Nat):D:=.ref k
theorem r6:∀{R E:dB},R.length=E.length->(∀(i:Nat) (r e:List (Nat×Nat)),R[i]?=Z r->E[i]?=Z e->r.Perm e)->R.flatten.Perm E.flatten
 |[],[],_,_=>.refl _
 |[],_::_,h,_=>by simp at h
 |_::_,[],h,_=>by simp at h
 |r::R,e::E,h,q=>by
  rw[a0,a0];exact(q 0 r e O O).append (r6 (by simpa using h) λi a b h1 h2=>q (i+1) a b (by simpa using h1) (by simpa using h2))
theorem Fs{n b m e:Nat}{K U:dr}{E:dB}{Q:List D×Ev×dr->Prop}(s:HS n K U)(hb:K.length=b)(hn:n<=2^44)(w:EW b m E U)(d:DI m E e)(hm:m<=8)(q:∀ks R V x,HS (n+40) K V->sB b ks R V->DI m R e->(∀k∈ks,k<V.length)->Q (ks.map uH,[x,some (.ref 0)],V)):
  W (fW [(b+m,ja b m)] (gN 0) ea (dU (mN (dv 2 ej) (dn (mV 1) (dn (mV 0) dq)))) (ja b m) [Y,Z (.ref 0)] U) Q:=by
 have X:=s.pos;have hbl:=s.len;have g:∀j,j<m -> ∃row,E[j]?=Z row:=λj o=>⟨_,gG1 (by rw[d.len];exact o)⟩;refine iA (λi v r S=>∃ks R x,i<=m/\HS (n+5*i) K S/\EW b m E S/\v=ks.map uH/\r=[x,Z (.ref 0)]/\ks.length=i/\sB b ks R S/\(∀(j:Nat) (r e:List (Nat×Nat)),R[j]?=Z r->E[j]?=Z e->r.Perm e)/\(∀k∈ks,k<S.length)) (ja b m) 0 [] _ _ ⟨[],[],Y,by lia,s,w,O,O,O,⟨O,λi k row h1=>by simp at h1,λk h=>by simp at h⟩,λj r e h1=>by simp at h1,λk h=>by simp at h⟩ ?_ ?_ ?_
 ·rintro i v r S ⟨ks,R,x,_,_,G,_⟩;exact fS G.ends
 ·rintro i dd au v r S ⟨ks,R,x,hi,F,G,rfl,rfl,h,a,am,y⟩;have u:=(gE1.mp au).1;rw[jl]at u;rw[lR u]at au;cases au;rw[bQ]at *
  obtain⟨row,f⟩:=g i u;have hrl:=d.le i row f;walk_at"w";refine wt F (by lia) (G.row i row f) (by rw[lM1];lia) (Mi.dW λ_ _=>rfl) λk ys V T l hkl H ao=>?_;rw[lM1]at T l;obtain⟨c,rfl,L⟩:=Bw ao row O;have wq:=F.len;have C:=a.over l (by lia);refine⟨ks++[k],R++[c],_,by lia,T.more (by lia),G.over l (by lia),by simp[uH],O,by simp[h],⟨by simp[a.len],λj B N h1 h2=>?_,λB A=>?_⟩,λj N aq h1 h2=>?_,λB A=>?_⟩
  ·by_cases o:j<ks.length
   ·rw[gL1 o]at h1;rw[gL1 (by rw[<- a.len];exact o)]at h2;exact C.at_ j B N h1 h2
   ·have p:j=ks.length:=by have:=(gE1.mp h1).1;simp at this;lia
    subst p;rw[cO]at h1;rw[a.len,cO]at h2;cases h1;cases h2;exact H
  ·rcases aF.mp A with z|z
   ·exact a.low B z
   ·simp at z;lia
  ·by_cases o:j<R.length
   ·rw[gL1 o]at h1;exact am j N aq h1 h2
   ·have p:j=R.length:=by have:=(gE1.mp h1).1;simp at this;lia
    subst p;rw[cO]at h1;cases h1;rw[<- a.len,h,f]at h2;cases h2;exact L
  ·have hv2:=l.len;show B<V.length;rcases aF.mp A with z|z
   ·have:=y B z;lia
   ·simp at z;subst z;exact(gE1.mp H).1
 ·rintro xs r S ⟨ks,R,x,hi,F,G,P,rfl,h,a,am,y⟩;rw[bi]at P;subst P;rw[bQ,jl]at F h;have t:R.length=E.length:=by rw[<- a.len,h,d.len]
  have dR:DI m R e:=⟨by rw[t];exact d.len,(r6 t am).trans d.all,λj row o=>by
   obtain⟨c,I⟩:=g j (by rw[<- d.len,<- t];exact(gE1.mp o).1);rw[(am j row c o I).length_eq];exact d.le j c I⟩
  exact q ks R S x (F.more (by lia)) a dR y
theorem Gy{m:FA}{r:Ev}{S:dr}{Q:An×dr->Prop}{d:D}{S1:dr}(h:m r S=Z ([d],S1))(q:sW S1 d λp=>Q (⟨zU 0 p.1,p.2⟩,S1)):W (Aq m r S) Q:=by
 unfold Aq;rw[h,oS1];dsimp only;rw[dw];exact W.mono (show W (dQ S1 d) _ from q) λz w=>dA.mpr w
theorem DZ{F:List (TK×D)}{k:TK}{v:D}{n:Nat}(h:∀p∈F,p.2.und n=M)(hv:v.und n=M):∀p∈eY F k v,p.2.und n=M:=by
 intro p a;unfold eY at a;split at a
 ·obtain⟨q,b,rfl⟩:=ci.mp a;split
  ·exact hv
  ·exact h q b
 ·rcases aF.mp a with z|z
  ·exact h p z
  ·simp at z;subst z;exact hv
theorem G7{V:dr}{pl k r:Nat}{F:List (TK×D)}{R:dB}{row:List (Nat×Nat)}{u E C am L G K w B ao:Option D}{Q:Fl×Ev×dr->Prop}(nd:R.flatten.Nodup)(hr:R[r]? = some row)(hpl:pl<V.length)(hk:V[k]? = some (fr row))(m:k≠pl)(wq:F.length+row.length<500)(U:∀p∈F,p.2.und 0=true)(o:∀b d x,b<r->At R b d x->dZ F (ut x)=some (pD (b,d)))(q:∀c f g,c.length<=F.length+row.length->(∀p∈c,p.2.und 0=true)->(∀b d x,b<r+1->At R b d x->dZ c (ut x)=some (pD (b,d))) ->
   Q (.nx,[u,E,C,am,Z (.int (r:Nat)),L,G,K,w,Z (.ref pl),Z (.ref k),f,g],V.set pl (dO c))):
  W (jB [u,E,C,am,Z (.int (r:Nat)),L,G,K,w,Z (.ref pl),Z (.ref k),B,ao] (V.set pl (dO F))) Q:=by
 unfold jB fD;rw[dw];refine Gy (d:=.ref k) (S1:=V.set pl (dO F)) O ?_;refine eh (xs:=row.map pD) (by rw[gS1 m.symm];exact hk) ?_;refine fA (λi b S=>∃c f g,i<=row.length/\c.length<=F.length+i/\(∀p∈c,p.2.und 0=M)/\S=V.set pl (dO c)/\b=[u,E,C,am,Z (.int (r:Nat)),L,G,K,w,Z (.ref pl),Z (.ref k),f,g]/\(∀b d x,b<r->At R b d x->dZ c (ut x)=Z (pD (b,d)))/\(∀d x,d<i->row[d]?=Z x->dZ c (ut x)=Z (pD (r,d)))) _ 0 _ _ ⟨F,_,_,by lia,by lia,U,O,O,o,λd x t=>by lia⟩ ?_ ?_ ?_
 ·rintro i b S ⟨c,_,_,_,_,_,rfl,_⟩;exact fS (by rw[gS1 m.symm];exact hk)
 ·rintro i dd t b S ⟨c,A,H,hi,I,j,rfl,rfl,h1,h2⟩;dsimp only at t;rw[ot,gP1]at t;obtain⟨z,aq,rfl⟩:=oM1.mp t;obtain⟨x,l,rfl⟩:=oM1.mp aq;have T:=(gE1.mp l).1;rw[bQ]at *
  walk_at"w";unfold lU;walk_at"w";refine Jx (F:=c) (by rw[aH hpl]) yi (by lia) ?_;have n:At R r i x:=⟨row,hr,l⟩;refine⟨eY c (ut x) (pD (r,i)),_,_,by lia,by have:=put_len (k:=ut x) (v:=pD (r,i)) (a:=c);lia,DZ j O,by rw[List.set_set];rfl,O,λb d y s h=>?_,λd y X h=>?_⟩
  ·rw[va];by_cases e:ut y=ut x
   ·have:=xK e;subst this;have:=(oy nd h n).1;lia
   ·rw[aj e];exact h1 b d y s h
  ·rw[va];by_cases e:ut y=ut x
   ·have:=xK e;subst this;have:=(oy nd ⟨row,hr,h⟩ n).2;subst this;rw[ak O]
   ·rw[aj e];by_cases z:d<i
    ·exact h2 d y z h
    ·have:d=i:=by lia
     subst this;rw[l]at h;cases h;exact absurd O e
 ·rintro b S ⟨c,A,H,hi,I,j,rfl,rfl,h1,h2⟩;rw[oo,lM1,bQ]at I h2;refine q c _ _ I j λb d x s l=>?_;by_cases z:b<r
  ·exact h1 b d x z l
  ·have:b=r:=by lia
   subst this;obtain⟨au,N,P⟩:=l;rw[hr]at N;cases N;exact h2 d x (gE1.mp P).1 P
def ec(w:dB):D:=.tup (w.map λrow=>.tup (row.map pD))
structure jS (m:Nat)(w:dB):Prop where
 len:w.length=m
 le:∀row∈w,row.length<=4
 to:∀row∈w,∀e∈row,∃r,w[e.1]?=some r/\e.2<r.length
theorem hH(w:dB):(ec w).und 0=M:=by
 unfold ec;rw[D.und];exact dW λa _=>by rw[D.und];exact dW λ_ _=>rfl
theorem Ju.ok{m:Nat}{w:dB}(g:Ju m w):jS m w:=by
 refine⟨g.len,g.le,λb i e h=>?_⟩;obtain⟨r,h1⟩:=bB i;obtain⟨d,h2⟩:=bB h;obtain⟨a,f,c⟩:=g.back r d e ⟨b,h1,h2⟩;exact⟨a,f,(gE1.mp c).1⟩
theorem Jg{F:List (TK×D)}{n:Nat}(h:∀p∈F,p.2.und n=M):(Mi.dO F).und n=M:=by
 unfold Mi.dO;split
 ·rfl
 ·rw[Ob.und];exact Mi.dW λp a=>h p a
theorem Om{R:dB}:ec (yZ R) = .tup (R.map λa=>.tup (a.map λx=>pD (plc R (opp x)))):=by
 unfold ec yZ;simp only[bD]
 congr 1
 apply cD;intro a _;simp only[Function.comp_apply,bD];rfl
theorem I1{c m:Nat}{most:Int}{U S:dr}{Q:Fl×Ev×dr->Prop}(y:HS c U S)(hc:c<=2^41)(t:S.length=U.length)(au:0<m)(m8:m<=8)(k:FS)(q:∀E e a n l h V,HS (c+40) U V->EW U.length m E V->DI m E e->W (k [some (.ref 0),some (.int most),some (.int (m:Nat)),some (.ref (U.length+m)),a,n,l,h,none,none,none,none,none] V) Q):
  W (dG (dH (d6 1 [] (nS (dn (mV 2) dq)) (gN 0) ea (dU (eZ dq))) (gN 3))
   (dG (fD (JM (dn (mC (D.int 1)) (dn (mV 2) dq))) (gN 4) iy)
   (dG (fD (nS (dn (mN (dv 2 dy) (dn (mV 0) (dn (mC (D.int 4)) dq))) dq)) (gN 5) ix) k))
   [Z (.ref 0),Z (.int most),Z (.int (m:Nat)),Y,Y,Y,Y,Y,Y,Y,Y,Y,Y] S) Q:=by
 have aq:=y.pos;refine d4 (λr V=>HS c U V/\EW U.length m (aP m []) V/\r=[Z (.ref 0),Z (.int most),Z (.int (m:Nat)),Z (.ref (U.length+m)),Y,Y,Y,Y,Y,Y,Y,Y,Y]) ?_ ?_
 ·walk_at"w";refine⟨gF (by lia),?_⟩;rw[Int.toNat_natCast];refine iA (λi u r V=>u=ja U.length i/\V=S++aP i (.lst []) /\ ∃x,r=[x]) (jn 0 m) 0 [] _ _ ⟨O,by simp,_,O⟩ (λ_ _ _ _ _=>rfl) ?_ ?_
  ·rintro i d s u r V ⟨rfl,rfl,x,rfl⟩;walk_at"w";rw[bQ];refine⟨?_,?_,_,O⟩
   ·rw[rn,t,lR1]
   ·rw[List.replicate_succ']
  ·rintro xs r V ⟨e,rfl,_⟩;rw[bi,bQ,fL]at e;subst e;rw[bQ,fL];walk_at"w";rw[jl];refine⟨dD (by lia),y.app λo T=>?_,?_,?_⟩
   ·rcases aF.mp T with z|z
    ·rw[List.eq_of_mem_replicate z];rfl
    ·simp at z;subst z;rw[Ob.und];exact Be (by simp[t])
   ·have:=CQ (U:=S) (m:=m);rw[t]at this;exact this
   ·simp[t]
 rintro r V ⟨ao,X,rfl⟩;refine d4 (λr V=>∃E a,HS (c+20) U V/\EW U.length m E V/\DI m E (m-1)/\r=[Z (.ref 0),Z (.int most),Z (.int (m:Nat)),Z (.ref (U.length+m)),a,Y,Y,Y,Y,Y,Y,Y,Y]) ?_ ?_
 ·walk_at"w";refine⟨tZ (by decide) (by decide),gF (by lia),?_⟩;refine fA (λi r V=>i<=m-1 /\ ∃E a,HS (c+i) U V/\EW U.length m E V/\DI m E i/\(∀(j:Nat) (p:List (Nat×Nat)),i+1<=j->E[j]?=Z p->p=[])/\r=[Z (.ref 0),Z (.int most),Z (.int (m:Nat)),Z (.ref (U.length+m)),a,Y,Y,Y,Y,Y,Y,Y,Y]) _ 0 _ _ ?_ (λ_ _ _ _=>rfl) ?_ ?_
  ·refine⟨by lia,_,Y,ao,X,DI.start m,λj p _ A=>?_,O⟩;rw[aS]at A;split at A
   ·cases A;rfl
   ·cases A
  ·rintro i d s r V ⟨hi,E,a,f,w,g,B,rfl⟩;have b:=(gE1.mp s).1;rw [fL] at b;have G:d = .int ((i+1:Nat):Int):=by
    rw[tu,gP1,cr b]at s;simp at s;rw[<- s]
    push_cast
    congr 1
    lia
   subst G;rw[bQ]at *
   walk_at"w";refine GR f O (by lia) w g (by lia) (by lia) B λF R s' I H v=>?_;exact⟨O,by lia,F,_,s',I,H,v,O⟩
  ·rintro r V ⟨hi,E,a,f,w,g,B,rfl⟩;rw[fL]at *
   have K:0+((m:Int)-1).toNat=m-1:=by lia
   rw[K]at f g;exact⟨O,E,_,f.more (by lia),w,g,O⟩
 rintro r V ⟨E,a,f,w,g,rfl⟩;refine d4 (λr V=>∃E e a n l h,HS (c+40) U V/\EW U.length m E V/\DI m E e/\r=[Z (.ref 0),Z (.int most),Z (.int (m:Nat)),Z (.ref (U.length+m)),a,n,l,h,Y,Y,Y,Y,Y]) ?_ ?_
 ·walk_at"w";refine draw_W f (by lia) (by lia) (by lia) λk V1 y C t wq=>?_;walk_at"w";have am:=f.len;refine⟨gF (by lia),?_⟩;rw[Int.toNat_natCast];refine fA (λi r V=>i<=k /\ ∃E e a n l h,HS (c+21+2*i) U V/\EW U.length m E V/\DI m E e/\e<=8+i/\r=[Z (.ref 0),Z (.int most),Z (.int (m:Nat)),Z (.ref (U.length+m)),a,n,l,h,Y,Y,Y,Y,Y]) _ 0 _ _ ⟨by lia,E,m-1,_,_,_,_,y,w.over C (by lia),g,by lia,O⟩ (λ_ _ _ _=>rfl) ?_ ?_
  ·rintro i d s r V ⟨hi,E,e,a,n,l,h,f,w,g,B,rfl⟩;have b:=(gE1.mp s).1;rw[fL]at b;rw[bQ]at *
   walk_at"w";refine Il f O (by lia) w g (by lia) au (by lia) λF R L P N s' I H v=>?_;exact⟨O,by lia,F,L,_,_,_,_,s',I,H,by lia,O⟩
  ·rintro r V ⟨hi,E,e,a,n,l,h,f,w,g,B,rfl⟩;rw[fL,bQ]at *
   exact⟨O,E,e,_,_,_,_,f.more (by lia),w,g,O⟩
 rintro r V ⟨E,e,a,n,l,h,f,w,g,rfl⟩;exact q E e a n l h V f w g
theorem JQ{c most:Nat}{B U:dr}{Q:D×dr->Prop}(s:HS c B U)(hc:c<=2^40)(hm0:0<most)(hm8:most<=8)(q:∀m w U',0<m->m<=most->jS m w->HS (c+200) B U'->HS (c+200) U U'->U'.length=U.length->Q (ec w,U')):W (dv 2 iP [.ref 0,.int most] U) Q:=by
 have hp:=s.pos;have hbl:=s.len;refine pY (c':=c+200) O O s ?_;have s0:HS c U U:=s.here;unfold iP;refine jf ?_;unfold qg;refine d4 (λr S=>∃m,0<m/\m<=most/\HS (c+1) U S/\S.length=U.length/\r=[Z (.ref 0),Z (.int most),Z (.int (m:Nat)),Y,Y,Y,Y,Y,Y,Y,Y,Y,Y]) ?_ ?_
 ·walk_at"w";refine draw_W s0 (by lia) (by lia) (by lia) λk U1 s1 _ l1 A=>?_;walk_at"w";exact⟨k+1,by lia,by lia,s1,l1,by simp[Int.add_comm]⟩
 rintro r S ⟨m,m0,mm,s1,l1,rfl⟩;refine I1 s1 (by lia) l1 m0 (by lia) _ λE e K x5 x6 x7 V sE w dE=>?_;refine d4 (λr V=>∃ks R K x5 x6 x7 g,HS (c+100) U V/\sB U.length ks R V/\DI m R e/\(∀k∈ks,k<g)/\U.length<=g/\V.length=g+1/\V[g]?=Z (.lst (ks.map uH))/\r=[Z (.ref 0),Z (.int most),Z (.int (m:Nat)),Z (.ref (U.length+m)),K,x5,x6,x7,Z (.ref g),Y,Y,Y,Y]) ?_ ?_
 ·walk_at"w";refine eh w.ends ?_;refine Fs sE O (by lia) w dE (by lia) λks R V2 x s2 h u am=>?_;walk_at"w";have hl2:=s2.len;refine⟨dD (by rw[lM1,h.len,u.len];lia),ks,R,_,_,_,_,V2.length,(s2.more (by lia)).app λo N=>?_,⟨h.len,λi k row h1 h2=>?_,h.low⟩,u,am,hl2,by simp,by rw[cO],O⟩
  ·simp at N;subst N;rw[Ob.und];refine Mi.dW λk A=>?_;have:=am k A;simp[uH,D.und];lia
  ·have:=h.at_ i k row h1 h2;rw[gL1 (gE1.mp this).1];exact this
 rintro r V ⟨ks,R,K,x5,x6,x7,g,sV,A,u,am,hdp,hVl,v,rfl⟩;have nd:R.flatten.Nodup:=u.all.nodup_iff.mpr (lA e);refine d4 (λr V1=>V1=V++[.dct []]/\r=[Z (.ref 0),Z (.int most),Z (.int (m:Nat)),Z (.ref (U.length+m)),K,x5,x6,x7,Z (.ref g),Z (.ref V.length),Y,Y,Y]) ?_ ?_
 ·((try walk_at"w");repeat(simp only[px];try walk_at"w"))
 rintro r V1 ⟨rfl,rfl⟩;generalize H:V++[Ob.dct []]=V1;have hpl:V.length<V1.length:=by rw[<- H];simp
 have sV1:HS (c+100) U V1:=by rw[<- H];exact sV.app1 O
 have j:∀(i:Nat) (o:Ob),V[i]?=Z o->V1[i]?=Z o:=λi o hi=>by rw[<- H,gL1 (gE1.mp hi).1];exact hi
 have hset0:V1=V1.set V.length (Mi.dO []):=by
  have:V1[V.length]?=Z (Mi.dO []):=by rw[<- H,cO];rfl
  obtain⟨hl,hx⟩:=gE1.mp this;rw[<- hx,List.set_getElem_self]
 refine d4 (λr V2=>∃F K P wq au,V2=V1.set V.length (Mi.dO F)/\(∀C d x,At R C d x->dZ F (ut x)=Z (pD (C,d)))/\(∀p∈F,p.2.und 0=M)/\r=[Z (.ref 0),Z (.int most),Z (.int (m:Nat)),Z (.ref (U.length+m)),K,x5,x6,x7,Z (.ref g),Z (.ref V.length),P,wq,au]) ?_ ?_
 ·unfold fD;rw[dw];refine Gy (d:=.ref g) (S1:=V1) O ?_;refine eh (j g _ v) ?_;refine fA (λi r V2=>∃F K P wq au,i<=m/\F.length<=4*i/\V2=V1.set V.length (Mi.dO F)/\(∀C d x,C<i->At R C d x->dZ F (ut x)=Z (pD (C,d)))/\(∀p∈F,p.2.und 0=M)/\r=[Z (.ref 0),Z (.int most),Z (.int (m:Nat)),Z (.ref (U.length+m)),K,x5,x6,x7,Z (.ref g),Z (.ref V.length),P,wq,au]) _ 0 _ _ ⟨[],_,_,_,_,by lia,by simp,hset0,λC d x hr=>by lia,λp hp=>by simp at hp,O⟩ ?_ ?_ ?_
  ·rintro i r V2 ⟨F,_,_,_,_,_,_,rfl,_⟩;exact fS (by rw[gS1 (by lia)];exact j g _ v)
  ·rintro i dd hd r V2 ⟨F,y4,y10,y11,y12,hi,hF,rfl,h1,hu,rfl⟩;dsimp only at hd;rw[ot,gP1]at hd;obtain⟨z,hz,rfl⟩:=oM1.mp hd;obtain⟨k,t,rfl⟩:=oM1.mp hz;have I:=(gE1.mp t).1;rw[bQ]at *
   obtain⟨row,f⟩:∃row,R[i]?=some row:=⟨_,gG1 (by rw[<- A.len];exact I)⟩;have him:i<m:=by rw[<- u.len,<- A.len];exact I
   have hkd:=am k (gM1 t);have hrl:=u.le i row f
   ((try walk_at"w");repeat(simp only[uH];try walk_at"w"))
   refine G7 (r:=i) nd f hpl (j k _ (A.at_ i k row t f)) (by lia) (by lia) hu h1 λF' o12 o13 hl hu' h1'=>?_;exact⟨O,F',_,_,_,_,by lia,by lia,O,h1',hu',O⟩
  ·rintro r V2 ⟨F,y4,y10,y11,y12,hi,hF,rfl,h1,hu,rfl⟩;rw[oo,lM1,bQ]at h1;refine⟨O,F,_,_,_,_,O,λC d x hx=>h1 C d x ?_ hx,hu,O⟩;obtain⟨row,e1,_⟩:=hx;rw[A.len];exact(gE1.mp e1).1
 rintro r V2 ⟨F,y4,y10,y11,y12,rfl,hF,hu,rfl⟩;generalize aq:V1.set V.length (Mi.dO F)=V2;have sV2:HS (c+100) U V2:=by rw[<- aq];exact sV1.set (by lia) (Jg λp hp=>e9 (hu p hp))
 have n:∀(i:Nat) (o:Ob),V[i]?=Z o->V2[i]?=Z o:=λi o hi=>by
  rw[<- aq,gS1 (by have:=(gE1.mp hi).1;lia)];exact j i o hi
 have ao:V2[V.length]?=Z (Mi.dO F):=by rw[<- aq,aH hpl]
 have hmem:∀x∈R.flatten,opp x∈R.flatten:=λx hx=>by
  have:=hR.mp (u.all.mem_iff.mp hx);exact u.all.mem_iff.mpr (hR.mpr ⟨this.1,by simp[opp]⟩)
 walk_at"w";refine eh (S:=V2) (n g _ v) ?_;refine iA (λi X r S=>∃G x,S=V2++G/\(∀o∈G,o.und 0=M)/\r=[x,Z (.ref V.length)]/\X=(R.take i).map λrow=>D.tup (row.map λx=>pD (plc R (opp x)))) (ks.map uH) 0 [] _ _ ⟨[],Y,by simp,λo N=>by simp at N,O,O⟩ ?_ ?_ ?_
 ·rintro i X r S ⟨G,x,rfl,_⟩;exact fS (by rw[gL1 (gE1.mp (n g _ v)).1];exact n g _ v)
 ·rintro i d hd X r S ⟨G,x,rfl,hG,rfl,rfl⟩;rw[gP1]at hd;obtain⟨k,t,rfl⟩:=oM1.mp hd;have I:=(gE1.mp t).1;obtain⟨row,f⟩:∃row,R[i]?=some row:=⟨_,gG1 (by rw[<- A.len];exact I)⟩;have hrl:=u.le i row f;have h:=n k _ (A.at_ i k row t f);have hk3:(V2++G)[k]?=Z (.lst (row.map pD)):=by rw[gL1 (gE1.mp h).1];exact h
  ((try walk_at"w");repeat(simp only[uH];try walk_at"w"))
  refine eh hk3 ?_;refine kT (λx=>pD (plc R (opp x))) (λr=>∃x y,r=[x,y,Z (.ref V.length)]) (fS hk3) row _ ⟨_,_,O⟩ ?_ ?_
  ·rintro y hy r ⟨a,b,rfl⟩;rw[pD];walk_at"w";have hy2:=(hR.mp (u.all.mem_iff.mp (cR.mpr ⟨row,gM1 f,hy⟩)));rw[show((1:Int)-(y.2:Int))=((1-y.2:Nat):Int) by lia];have hopp:=hmem y (cR.mpr ⟨row,gM1 f,hy⟩);have T:=hF _ _ _ (sQ hopp);refine Jz (F:=F) (k:=ut (opp y)) (by rw[gL1 (gE1.mp ao).1];exact ao) (yi (e:=opp y)) T ?_;exact⟨O,O,_,_,O⟩
  ·rintro C _;walk_at"w";refine⟨dD (by rw[lM1];lia),?_⟩;refine eh (xs:=row.map λx=>pD (plc R (opp x))) (by rw[<- bf,<- lA1,dL];rfl) ?_;refine⟨G++[Ob.lst (row.map λx=>pD (plc R (opp x)))],_,O,λo N=>?_,O,?_⟩
   ·rcases aF.mp N with z|z
    ·exact hG o z
    ·simp at z;subst z;rw[Ob.und];exact Mi.dW λ_ _=>rfl
   ·rw[bQ,cj,f];simp
 ·rintro xs r S ⟨G,x,rfl,hG,rfl,e1⟩;rw[bi,bQ,lM1,A.len,b0]at e1;subst e1;walk_at"w";have hRl:=u.len;refine⟨dD (by rw[lM1];lia),?_⟩;refine eh (xs:=R.map λrow=>D.tup (row.map λx=>pD (plc R (opp x)))) (by rw[<- bf,<- lA1,dL];rfl) ?_;have e2:=Om (R:=R);have L:D.unds 0 (R.map λrow=>D.tup (row.map λx=>pD (plc R (opp x))))=M:=Mi.dW λrow _=>by rw[D.und];exact Mi.dW λ_ _=>rfl
  refine⟨(sV2.app λo N=>?_).more (by lia),by rw[D.und];exact L,λU' a b l=>?_⟩
  ·rcases aF.mp N with z|z
   ·exact gB (br _) (hG o z)
   ·simp at z;subst z;rw[Ob.und];exact fq L
  ·rw[<- e2];exact q m _ U' m0 mm (DD u).ok a b l
theorem yS{w:dB}{i:Nat}{row:List (Nat×Nat)}{S:dr}{Q:D×dr->Prop}(h:w[i]?=Z row)(q:Q (.tup (row.map pD),S)):W (dz (ec w) (.int i) S) Q:=
 jT (x:=.tup (row.map pD)) (by rw[gP1,h];rfl) q
theorem oi{w:dB}{S:dr}:eB (ec w) S=Z (.int w.length,S):=by simp[ec,eB,dQ]
def crowd(ws:List Wk)(rm:Nat):Nat:=(ws.filter λu=>u.1 == rm).length
def xP(a b c d:Bool)(ws:List Wk)(cs:List Nat)(u:Wk)(row:List (Nat×Nat)):D:=
 wr a b c d u.2.1 (if cs.contains u.1 then 1 else 0) row.length (if 1<crowd ws u.1 then 1 else 0)
theorem zR{ws:List Wk}{rm:Nat}{S:dr}{b:Option D}{Q:List D×Ev×dr->Prop}(h:∀ a,Q ((ws.filter fun u=>u.1 == rm).map eO,a,S)):
  W (fW [] (gN 0) (mB (m2 (b2 gEq) (m2 (b2 dz) (mV 0) (mC (D.int (0)))) (mV 1))) (dU (mV 0)) (eg ws) [b,Z (.int rm)] S) Q:=by
 refine iB (λu:Wk=>u.1 == rm) eO (λr=>∃x,r=[x,Z (.int rm)]) O ws _ ⟨_,O⟩ ?_ λa _=>h a;rintro u c r ⟨x,rfl⟩;walk_at"w";refine jT (i:=0) O ?_;walk_at"w";refine⟨?_,⟨_,O⟩,λ_=>trivial⟩;rw[bT,beq_iff_eq,beq_iff_eq];lia
theorem Ls {w x y z:D}{S:dr}{r:Ev}{m1 m2 b a:FE}{Q:D×dr->Prop}(h1:m1 r S=some (w,S))(h2:m2 r S=some (x,S))(d:b r S=some (y,S))(c:a r S=some (z,S))
  (q:Q (.ref S.length,S++[.dct [(.inr "came",w),(.inr "chalk",x),(.inr "doors",y),(.inr "others",z)]])):
  W (py [(mC (.str "came"),m1),(mC (.str "chalk"),m2),(mC (.str "doors"),b),(mC (.str "others"),a)] r S) Q:=by
 refine W.of ?_ q;simp only[py,Cc,mC,h1,h2,d,c,oS1,oP1,ve,qy];rfl
theorem E2 {w x y z:D}{S:dr}{n:Nat}(h:S[n]? = some (.dct [(.inr "came",w),(.inr "chalk",x),(.inr "doors",y),(.inr "others",z)])):
  dz (.ref n) (.str "came") S=Z (w,S)/\dz (.ref n) (.str "chalk") S=Z (x,S)/\dz (.ref n) (.str "doors") S=Z (y,S)/\dz (.ref n) (.str "others") S=Z (z,S):=by
 refine⟨?_,?_,?_,?_⟩<;>(simp only[dz,h,mQ,qy,oS1];rfl)
def tN:Nat->D
 |0=>.str "came" |1=>.str "chalk" |2=>.str "doors" |_=>.str "others"
def Gn:Nat->D
 |0=>.int 5|1=>.int 2|2=>.int 5|_=>.int 2
def iJ(a b c d:Bool)(w x y z:Int):Nat->D
 |0=>if a then .int w else .non
 |1=>if b then .int x else .non
 |2=>if c then .int y else .non
 |_=>if d then .int z else .non
theorem xX {a b c d:Bool}{w x y z:Int}{S:dr}{n:Nat}(h:S[n]? = some (.dct [(.inr "came",.int w),(.inr "chalk",.int x),(.inr "doors",.int y),(.inr "others",.int z)])){i:Nat}(hi:i∈[0,1,2,3]){r:Ev}{f j g:Nat}
  (h1:r[f]?=Z (Z (tN i))) (h2:r[j]?=Z (Z (.tup (fX a b c d)))) (e:r[g]?=Z (Z (.ref n))):
  u8 (mB (m2 (b2 fZ) (mV f) (mV j))) (m2 (b2 dz) (mV g) (mV f)) (mC D.non) r S=Z (iJ a b c d w x y z i,S):=by
 obtain⟨k,o,l,m⟩:=E2 h;simp only[aE,bO,or_false]at hi;rcases hi with rfl|rfl|rfl|rfl
 ·cases a<;>simp only[u8,mB,m2,b2,mV,h1,h2,e,tN,oS1,Fe,k,iJ,mC]<;>rfl
 ·cases b<;>simp only[u8,mB,m2,b2,mV,h1,h2,e,tN,oS1,Cv,o,iJ,mC]<;>rfl
 ·cases c<;>simp only[u8,mB,m2,b2,mV,h1,h2,e,tN,oS1,Cu,l,iJ,mC]<;>rfl
 ·cases d<;>simp only[u8,mB,m2,b2,mV,h1,h2,e,tN,oS1,zK,m,iJ,mC]<;>rfl
theorem DQ{w:dB}{ws:List Wk}{cs:List Nat}{a b c d:Bool}{k:Nat}{u:Wk}{row:List (Nat×Nat)}{S:dr}{Q:D×dr->Prop}(g:ws[k]? = Z u)(hr:w[u.1]? = Z row)(o:ws.length<=1000)(q:Q (xP a b c d ws cs u row,S)):W (dv 4 iK [ec w,.tup (fX a b c d),dM ws cs,.int k] S) Q:=by
 refine jw O (by simp[D.unds,hH,gK];rw[D.und];exact⟨pP a b c d,O⟩) ?_;unfold iK;refine jf ?_;unfold p8;refine d4 (λr S=>S=[]/\r=[Z (ec w),Z (.tup (fX a b c d)),Z (dM ws cs),Z (.int k),Z (.tup (eg ws)),Z (.tup (nmD cs)),Y,Y,Y,Y,Y]) ?_ ?_
 ·rw[dM];walk_at"w"
 rintro r S ⟨rfl,rfl⟩;refine d4 (λr S=>S=[]/\r=[Z (ec w),Z (.tup (fX a b c d)),Z (dM ws cs),Z (.int k),Z (.tup (eg ws)),Z (.tup (nmD cs)),Z (.int u.1),Z (.int u.2.1),Z (.int u.2.2),Y,Y]) ?_ ?_
 ·walk_at"w";refine jT (i:=k) (x:=eO u) (by rw[eg,gP1,g];rfl) ?_;rw[eO];walk_at"w"
 rintro r S ⟨rfl,rfl⟩;refine d4 (λr S=>S=[.lst ((ws.filter λv=>v.1 == u.1).map eO)]/\r=[Z (ec w),Z (.tup (fX a b c d)),Z (dM ws cs),Z (.int k),Z (.tup (eg ws)),Z (.tup (nmD cs)),Z (.int u.1),Z (.int u.2.1),Z (.int u.2.2),Z (.ref 0),Y]) ?_ ?_
 ·walk_at"w";rw[gh];refine zR λl=>?_;walk_at"w";have:=cQ (λv:Wk=>v.1 == u.1) ws;have h2:((ws.filter λv:Wk=>v.1 == u.1).map eO).length<=100000:=by rw[lM1];lia
  exact⟨dD h2,trivial⟩
 rintro r S ⟨rfl,rfl⟩;generalize n:[Ob.lst ((ws.filter λv=>v.1 == u.1).map eO)]=S1;have f:S1[0]?=Z (Ob.lst ((ws.filter λv=>v.1 == u.1).map eO)):=by rw[<- n];rfl
 refine d4 (λr S=>S=S1++[.dct [(.inr "came",.int u.2.1),(.inr "chalk",.int (if cs.contains u.1 then 1 else 0)),(.inr "doors",.int row.length),(.inr "others",.int (if 1<crowd ws u.1 then 1 else 0))]]/\r=[Z (ec w),Z (.tup (fX a b c d)),Z (dM ws cs),Z (.int k),Z (.tup (eg ws)),Z (.tup (nmD cs)),Z (.int u.1),Z (.int u.2.1),Z (.int u.2.2),Z (.ref 0),Z (.ref S1.length)]) ?_ ?_
 ·unfold dH;rw[dw];have hc:(List.map eO (ws.filter λv=>v.1 == u.1)).length=crowd ws u.1:=by rw[lM1];rfl
  refine Ls (w:=.int u.2.1) (x:=.int (if cs.contains u.1 then 1 else 0)) (y:=.int row.length) (z:=.int (if 1<crowd ws u.1 then 1 else 0)) O ?_ ?_ ?_ ?_
  ·simp only[u8,mB,m2,b2,mV,gC1,cK,oS1,yo,mC];split<;>rfl
  ·have:W (dz (ec w) (.int u.1) S1) λp=>p=(.tup (row.map pD),S1):=yS hr O;obtain⟨p,e,rfl⟩:=this;simp only[mN,dn,dq,m2,b1,b2,mV,gC1,cK,oS1,e,gX,lM1]
  ·simp only[u8,mB,mN,dn,dq,m2,b1,b2,mV,mC,gC1,cK,oS1,eB,fR f,oP1,gR,hc];by_cases h1:1<crowd ws u.1
   ·rw[ak h1,ak (by rw[al];lia)]
   ·rw[aj h1,aj (by rw[al];lia)]
  ·walk_at"w"
 rintro r S ⟨rfl,rfl⟩;generalize h:S1++[Ob.dct [(.inr "came",.int u.2.1),(.inr "chalk",.int (if cs.contains u.1 then 1 else 0)),(.inr "doors",.int row.length),(.inr "others",.int (if 1<crowd ws u.1 then 1 else 0))]]=S2;have m:S2[S1.length]?=Z (Ob.dct [(.inr "came",.int u.2.1),(.inr "chalk",.int (if cs.contains u.1 then 1 else 0)),(.inr "doors",.int row.length),(.inr "others",.int (if 1<crowd ws u.1 then 1 else 0))]):=by rw[<- h,dL];rfl
 walk_at"w";have j:ou = .tup ([0,1,2,3].map λi:Nat=>D.tup [tN i,Gn i]):=rfl;rw[j,gh];refine kT (iJ a b c d u.2.1 (if cs.contains u.1 then 1 else 0) row.length (if 1<crowd ws u.1 then 1 else 0)) (λr=>∃x y,r=[x,y,Z (.tup (fX a b c d)),Z (.ref S1.length)]) O _ _ ⟨_,_,O⟩ ?_ ?_
 ·rintro i hi r ⟨x,y,rfl⟩;refine⟨([Z (tN i),Z (Gn i),Z (.tup (fX a b c d)),Z (.ref S1.length)],S2),O,?_⟩;refine⟨(M,S2),O,O,?_⟩;exact⟨_,xX m hi O O O,O,O,_,_,O⟩
 ·rintro l _;walk_at"w";refine eh (xs:=[iJ a b c d u.2.1 (if cs.contains u.1 then 1 else 0) row.length (if 1<crowd ws u.1 then 1 else 0) 0,iJ a b c d u.2.1 (if cs.contains u.1 then 1 else 0) row.length (if 1<crowd ws u.1 then 1 else 0) 1,iJ a b c d u.2.1 (if cs.contains u.1 then 1 else 0) row.length (if 1<crowd ws u.1 then 1 else 0) 2,iJ a b c d u.2.1 (if cs.contains u.1 then 1 else 0) row.length (if 1<crowd ws u.1 then 1 else 0) 3]) (by rw[dL];rfl) ?_;exact⟨rf,q⟩
def pt(b:Bool)(x:Nat):D:=if b=M then .int x else .non
def Nw(a b c d:Bool)(x y z w:Nat):D:=.tup [pt a x,pt b y,pt c z,pt d w]
def rW:List D:=[.str "leave",.str "mark",.str "wipe"]
def uw:List D:=[.non,.int 0,.int 1,.int 2,.int 3]
structure ik (x:D):Prop where
 is:∃m h t,x = .tup [.int (m:Nat),h,t]/\m<4000/\h∈rW/\t∈uw
theorem ik.und{x:D}(h:ik x):x.und 0=M:=by
 obtain⟨m,x,t,rfl,_,h1,h2⟩:=h.is;have a:x.und 0=M:=by simp[rW]at h1;rcases h1 with z|z|z<;>subst z<;>rfl
 have b:t.und 0=M:=by simp[uw]at h2;rcases h2 with z|z|z|z|z<;>subst z<;>rfl
 simp[D.und,D.unds,a,b]
def cx(b:Bool)(x:Nat):Nat:=if b=M then x else 0
def qC:List Bool->List Nat->Nat
 |b::bs,x::xs=>cx b x*8^bs.length+qC bs xs
 |_,_=>0
theorem tU:∀{bs:List Bool} {xs:List Nat},(∀x∈xs,x<=7)->qC bs xs<8^bs.length
 |[],_,_=>by rw[qC];simp;simp
 |b::bs,[],_=>by
  rw[qC]
  ·exact Nat.pos_of_ne_zero (by simp)
  ·simp
 |b::bs,x::xs,h=>by
  have h1:=tU (bs:=bs) λy a=>h y (mC1 _ a);have h2:cx b x<=7:=by unfold cx;split;exact h x mS1;lia
  rw[qC,lC1,Nat.pow_succ];have c:cx b x*8^bs.length<=7*8^bs.length:=cS _ h2;lia
theorem Lp{S:dr}{n:Nat}{xs ys:List D}:lC S (n+1) (.tup xs) (.tup ys)=vV (lC S n) xs ys:=by
 rw[lC];simp[dQ]
theorem Ln{S:dr}{n:Nat}{b:Bool}{x y:Nat}:lC S (n+1) (pt b x) (pt b y)=Z (decide (cx b x=cx b y)):=by
 cases b with
 |false=>rfl
 |true=>
  show Z ((x:Int) == (y:Int))=Z (decide (x=y))
  congr 1
  rw[bT,beq_iff_eq,al];lia
theorem NL{A B P u v:Nat}(a:u<P)(hv:v<P):(A*P+u=B*P+v↔A=B/\u=v)/\(A*P+u<B*P+v↔A<B\/(A=B/\u<v)):=by
 rcases Nat.lt_trichotomy A B with h|h|h
 ·have:=cS P (show A+1<=B from h);rw[Nat.succ_mul]at this;constructor<;>lia
 ·subst h;constructor<;>lia
 ·have:=cS P (show B+1<=A from h);rw[Nat.succ_mul]at this;constructor<;>lia
theorem CT{S:dr}{n:Nat}:∀ {bs:List Bool} {xs ys:List Nat},xs.length=bs.length->ys.length=bs.length->(∀ x∈xs,x<=7)->(∀ y∈ys,y<=7) ->
  vV (lC S (n+1)) (List.zipWith pt bs xs) (List.zipWith pt bs ys)=Z (decide (qC bs xs=qC bs ys))
 |[],xs,ys,_,_,_,_=>by simp[vV,qC]
 |b::bs,[],ys,h,_,_,_=>by simp at h
 |b::bs,x::xs,[],_,h,_,_=>by simp at h
 |b::bs,x::xs,y::ys,h1,h2,hx,hy=>by
  have ih:=CT (S:=S) (n:=n) (bs:=bs) (xs:=xs) (ys:=ys) (by simpa using h1) (by simpa using h2) (λz a=>hx z (mC1 _ a)) (λz a=>hy z (mC1 _ a));have b1:=tU (bs:=bs) (xs:=xs) λz a=>hx z (mC1 _ a);have b2:=tU (bs:=bs) (xs:=ys) λz a=>hy z (mC1 _ a);rw[List.zipWith_cons_cons,List.zipWith_cons_cons,vV,Ln,ih,qC,qC];have c:=(NL (A:=cx b x) (B:=cx b y) b1 b2).1;rw[oS1,oP1]
  congr 1
  rw[bT,bA1,al,al,al];exact c.symm
structure Ky where
 m:Nat
 x:Nat
 y:Nat
 z:Nat
 w:Nat
structure Ky.Ok (k:Ky):Prop where
 m:k.m<4000
 x:k.x<=4
 y:k.y<=4
 z:k.z<=4
 w:k.w<=4
abbrev E4:=Bool×Bool×Bool×Bool
def E4.bs(e:E4):List Bool:=[e.1,e.2.1,e.2.2.1,e.2.2.2]
def Ky.xs(k:Ky):List Nat:=[k.x,k.y,k.z,k.w]
def Gh(b:Bool)(x:Nat):TK:=if b=M then .int x else .non
def Ky.sg(k:Ky)(e:E4):D:=Nw e.1 e.2.1 e.2.2.1 e.2.2.2 k.x k.y k.z k.w
def Ky.d(k:Ky)(e:E4):D:=.tup [.int k.m,k.sg e]
def Ky.tk(k:Ky)(e:E4):TK:=.tup [.int k.m,.tup [Gh e.1 k.x,Gh e.2.1 k.y,Gh e.2.2.1 k.z,Gh e.2.2.2 k.w]]
def Ky.code(k:Ky)(e:E4):Nat:=k.m*4096+qC e.bs k.xs
theorem Ky.keyT(k:Ky)(e:E4):Mi.keyT (k.d e)=Z (k.tk e):=by
 obtain⟨a,b,c,d⟩:=e;cases a<;>cases b<;>cases c<;>cases d<;>rfl
theorem Ky.tkD(k:Ky)(e:E4):Mi.tkD (k.tk e)=k.d e:=(yh (k.keyT e)).1
theorem Ky.sg_zip(k:Ky)(e:E4):k.sg e = .tup (List.zipWith pt e.bs k.xs):=rfl
theorem Ky.Ok.all{k:Ky}(h:k.Ok):∀x∈k.xs,x<=7:=by
 intro x a;have:=h.x;have:=h.y;have:=h.z;have:=h.w
 simp[Ky.xs]at a;lia
theorem jv{k:Ky}(h:k.Ok)(e:E4):qC e.bs k.xs<4096:=tU (bs:=e.bs) h.all
theorem Ky.und(k:Ky)(e:E4)(n:Nat):(k.d e).und n=M:=by
 rw[<- k.tkD e];exact AH _
theorem Ky.sgu(k:Ky)(e:E4)(n:Nat):(k.sg e).und n=M:=by
 have:=k.und e n;unfold Ky.d at this;simp only[D.und,D.unds,bP,cC]at this;exact this
def dO(F:List (TK×D)):Ob:=match F with
 |[]=>.dct []
 |_=>.dcT F
theorem Lx{F:List (TK×D)}(h:F≠[]):dO F = .dcT F:=by
 cases F with
 |nil=>exact absurd O h
 |cons _ _=>rfl
abbrev Rw:=Ky×D
def eV(e:E4)(p:Rw):D:=.tup [p.1.d e,p.2]
def gr(p:Rw):Prop:=p.1.Ok/\ik p.2
theorem Hh(b:Bool)(x:Nat):Gh b x=if b=M then .int (cx b x)else .non:=by unfold Gh cx;cases b<;>rfl
theorem yD{b:Bool}{x y:Nat}(h:Gh b x=Gh b y):cx b x=cx b y:=by
 cases b with
 |false=>rfl
 |true=>
  have h':TK.int (x:Int)=TK.int (y:Int):=h;injection h' with h';exact(by lia:x=y)
theorem LA(a b c d x y z w:_):qC [a,b,c,d] [x,y,z,w]=((cx a x*8+cx b y)*8+cx c z)*8+cx d w:=by
 simp only[qC,lC1,bo];lia
theorem xJ{k l:Ky}{e:E4}(hk:k.Ok)(f:l.Ok):k.tk e=l.tk e↔k.code e=l.code e:=by
 obtain⟨a,b,c,d⟩:=e;have m:k.code (a,b,c,d)=k.m*4096+(((cx a k.x*8+cx b k.y)*8+cx c k.z)*8+cx d k.w):=by unfold Ky.code;rw[<- LA];rfl
 have j:l.code (a,b,c,d)=l.m*4096+(((cx a l.x*8+cx b l.y)*8+cx c l.z)*8+cx d l.w):=by unfold Ky.code;rw[<- LA];rfl
 have le:∀(b:Bool) (x:Nat),x<=4->cx b x<=4:=λb x h=>by unfold cx;split<;>lia
 rw[m,j];constructor
 ·intro h;unfold Ky.tk at h;injection h with h;injection h with h1 h2;injection h1 with h1;injection h2 with h2 _;injection h2 with h2;injection h2 with s h2;injection h2 with p2 h2;injection h2 with g h2;injection h2 with r _;rw[yD s,yD p2,yD g,yD r,show k.m=l.m by lia]
 ·intro h;have y:=le a _ hk.x;have v:=le b _ hk.y;have w:=le c _ hk.z;have z:=le d _ hk.w
  have u:=le a _ f.x;have r2:=le b _ f.y;have t:=le c _ f.z;have A:=le d _ f.w
  have q:k.m=l.m:=by lia
  have p:cx a k.x=cx a l.x:=by lia
  have n:cx b k.y=cx b l.y:=by lia
  have o:cx c k.z=cx c l.z:=by lia
  have i:cx d k.w=cx d l.w:=by lia
  unfold Ky.tk;simp only[Hh,q,p,n,o,i]
def Inc(e:E4)(L:List Rw):Prop:=L.Pairwise λp q=>p.1.code e<q.1.code e
theorem vt{α:Type}{f:α->Nat}{c:Nat}{a:α}:∀{l:List α},(l.map f).Nodup->((l.find? λx=>decide (f x=c))=Z a↔a∈l/\f a=c)
 |[],_=>by simp
 |b::l,nd=>by
  rw[mP1,aO]at nd;rw[bm];by_cases z:f b=c
  ·rw[ah z];constructor
   ·intro h;cases h;exact⟨mS1,z⟩
   ·rintro⟨h1,h2⟩;rcases aE.mp h1 with y|y
    ·rw[y]
    ·exact absurd (ci.mpr ⟨a,y,h2.trans z.symm⟩) nd.1
  ·rw[ai z];show(l.find? λx=>decide (f x=c))=Z a↔_;rw[vt nd.2];constructor
   ·rintro⟨h1,h2⟩;exact⟨mC1 _ h1,h2⟩
   ·rintro⟨h1,h2⟩;rcases aE.mp h1 with y|y
    ·rw[y]at h2;exact absurd h2 z
    ·exact⟨y,h2⟩
theorem Inc.le{e:E4}{L:List Rw}(h:Inc e L)(ok:∀p∈L,gr p){i j:Nat}{p q:Rw}(hi:L[i]?=Z p)(a:L[j]?=Z q)(f:i<=j):p.1.m<=q.1.m/\(i<j->p.1.code e<q.1.code e):=by
 have d:=(ok p (gM1 hi)).1;have g:=(ok q (gM1 a)).1;by_cases z:i=j
 ·subst z;rw[hi]at a;cases a;exact⟨nR1 _,λz=>by lia⟩
 ·obtain⟨h1,c⟩:=gE1.mp hi;obtain⟨h2,b⟩:=gE1.mp a;have:=cb.mp h i j h1 h2 (by lia);rw[c,b]at this;refine⟨?_,λ_=>this⟩;have c1:=jv d e;have c2:=jv g e;unfold Ky.code at this;lia
theorem MY{e:E4}{L:List Rw}{i:Nat}{p:Rw}{S:dr}(h:L[i]?=Z p):dz (.tup (L.map (eV e))) (.int (i:Nat)) S=Z (eV e p,S):=by
 obtain⟨x,a,b⟩:=(jT (i:=i) (xs:=L.map (eV e)) (x:=eV e p) (S:=S) (Q:=λx=>x=(eV e p,S)) (by rw[gP1,h];rfl) O);rw[a,b]
theorem MZ{e:E4}{p:Rw}{S:dr}:dz (eV e p) (.int 0) S=Z (p.1.d e,S):=rfl
theorem Oq{e:E4}{p:Rw}{S:dr}:dz (eV e p) (.int 1) S=Z (p.2,S):=rfl
theorem NG{e:E4}{k:Ky}{S:dr}:dz (k.d e) (.int 0) S=Z (.int k.m,S):=rfl
theorem Oo{e:E4}{k:Ky}{S:dr}:dz (k.d e) (.int 1) S=Z (k.sg e,S):=rfl
theorem oW{e:E4}{L:List Rw}(ok:∀p∈L,gr p)(n:Nat):(D.tup (L.map (eV e))).und n=M:=by
 rw[D.und];refine Mi.dW λp a=>?_;have h1:=p.1.und e n;have h2:=e9 (n:=n) (ok p a).2.und;simp[eV,D.und,D.unds,h1,h2]
theorem IN{e:E4}{L:List Rw}{S:dr}:eB (.tup (L.map (eV e))) S=Z (.int L.length,S):=by simp[eB,dQ]
theorem F7{c:FT}{b:FS}{Q:Fl×Ev×dr->Prop}(I:Nat->Ev->dr->Prop)(N:Nat)(step:∀k r S,I k r S->W (c r S) fun p=>if p.1=true then k<N/\W (b r p.2) fun q=>q.1 = .nx/\I (k+1) q.2.1 q.2.2 else Q (.nx,r,p.2)):
  ∀(fuel k:Nat) (r:Ev) (S:dr),N-k<fuel->I k r S->W (uf c b fuel r S) Q
 |0,k,r,S,hf,_=>by lia
 |fuel+1,k,r,S,hf,hi=>by
  rw[uf];dsimp only;rw[dw];obtain⟨⟨t,m⟩,e,h⟩:=step k r S hi;refine⟨_,e,?_⟩;dsimp only at h ⊢;cases t with
  |true=>
   rw[ak O]at h ⊢;obtain⟨l,⟨f,j,g⟩,i,a,d⟩:=h;dsimp only at a d;subst a;rw[i,oS1];exact F7 I N step fuel (k+1) j g (by lia) d
  |false=>
   rw[aj (by decide)]at h ⊢;exact dA.mpr h
theorem Fp{e:E4}{L:List Rw}{q:Nat}{S:dr}{Q:D×dr->Prop}(inc:Inc e L)(ok:∀ p∈L,gr p)(u:L.length<=4000)(h:∀a:Nat,a<=L.length->(∀i p,L[i]?=Z p->i<a->p.1.m<q)->(∀i p,L[i]?=Z p->a<=i->q<=p.1.m)->Q (.int a,S)):W (dv 2 iN [.tup (L.map (eV e)),.int (q:Nat)] S) Q:=by
 refine jw O (by rw[D.unds,oW ok,D.unds,D.und];rfl) ?_;unfold iN;refine jf ?_;unfold qc;generalize m:D.tup (L.map (eV e))=R;refine d4 (λr S=>S=[]/\r=[Z R,Z (.int (q:Nat)),Z (.int ((0:Nat):Int)),Y,Y]) ?_ ?_
 ·walk_at"w";rfl
 rintro r j ⟨rfl,rfl⟩;refine d4 (λr S=>S=[]/\r=[Z R,Z (.int (q:Nat)),Z (.int ((0:Nat):Int)),Z (.int (L.length:Nat)),Y]) ?_ ?_
 ·subst m
  ((try walk_at"w");repeat(simp only[IN];try walk_at"w"))
  rw[lM1]
 rintro r j ⟨rfl,rfl⟩;refine d4 (λr S=>∃(a:Nat) (d:Option D),S=[]/\a<=L.length/\(∀i p,L[i]?=Z p->i<a->p.1.m<q)/\(∀i p,L[i]?=Z p->a<=i->q<=p.1.m)/\r=[Z R,Z (.int (q:Nat)),Z (.int (a:Nat)),Z (.int (a:Nat)),d]) ?_ ?_
 ·refine F7 (λk r S=>∃(a high:Nat) (d:Option D),S=[]/\a<=high/\high<=L.length/\high-a+k<=L.length/\(∀i p,L[i]?=Z p->i<a->p.1.m<q)/\(∀i p,L[i]?=Z p->high<=i->q<=p.1.m)/\r=[Z R,Z (.int (q:Nat)),Z (.int (a:Nat)),Z (.int (high:Nat)),d]) L.length ?_ 100000 0 _ _ (by lia) ⟨0,L.length,_,O,by lia,by lia,by lia,λi p _ z=>by lia,λi p c z=>?_,O⟩
  ·rintro k r S ⟨a,high,d,rfl,h1,h2,o,n,l,rfl⟩;unfold lT;walk_at"w";by_cases z:a<high
   ·rw[ak (by rw[al];lia)];refine⟨by lia,?_⟩;unfold lS;have f:(a+high)/2<L.length:=by lia
    obtain⟨p,c⟩:∃p,L[(a+high)/2]?=some p:=⟨_,gG1 f⟩;have g:vn (.int ((a:Int)+(high:Int))) (.int 2) []=Z (.int (((a+high)/2:Nat):Int),[]):=by
     simp only[vn];rw[ak ⟨by lia,by lia⟩]
     push_cast
     rfl
    subst m
    ((try walk_at"w");repeat(simp only[g,MY c,MZ,NG];try walk_at"w"))
    by_cases s:p.1.m<q
    ·rw[ak (by rw[al];lia)];refine⟨(a+high)/2+1,high,_,by lia,h2,by lia,λi t b hi=>?_,l,by push_cast;rfl⟩;exact bK (inc.le ok b c (by lia)).1 s
    ·rw[aj (by rw[al];lia)];refine⟨a,(a+high)/2,_,by lia,by lia,by lia,n,λi t b hi=>?_,O⟩;exact aC (by lia) (inc.le ok c b hi).1
   ·rw[aj (by rw[al];lia)];have:a=high:=by lia
    subst this;exact⟨a,_,h2,n,l,O⟩
  ·have:=(gE1.mp c).1;lia
 rintro r j ⟨a,d,rfl,h1,h2,o,rfl⟩;walk_at"w";exact⟨O,h a h1 h2 o⟩
theorem AD{c:FT}{b:FS}{Q:Fl×Ev×dr->Prop}(I:Nat->Ev->dr->Prop)(N:Nat)(step:∀k r S,I k r S->W (c r S) fun p=>if p.1=true then k<N/\W (b r p.2) fun q=>(q.1 = .nx/\I (k+1) q.2.1 q.2.2) \/ ∃d,q.1 = .rt d/\Q q else Q (.nx,r,p.2)):
  ∀(fuel k:Nat) (r:Ev) (S:dr),N-k<fuel->I k r S->W (uf c b fuel r S) Q
 |0,k,r,S,hf,_=>by lia
 |fuel+1,k,r,S,hf,hi=>by
  rw[uf];dsimp only;rw[dw];obtain⟨⟨t,o⟩,e,h⟩:=step k r S hi;refine⟨_,e,?_⟩;dsimp only at h ⊢;cases t with
  |true=>
   rw[ak O]at h ⊢;obtain⟨s,⟨f,m,j⟩,l,i⟩:=h;rw[l,oS1];rcases i with⟨a,g⟩|⟨d,a,n⟩
   ·dsimp only at a g;subst a;exact AD I N step fuel (k+1) m j (by lia) g
   ·dsimp only at a;subst a;exact dA.mpr n
  |false=>
   rw[aj (by decide)]at h ⊢;exact dA.mpr h
theorem Ll{k l:Ky}{e:E4}{S:dr}(hk:k.Ok)(a:l.Ok):gEq (k.sg e) (l.sg e) S=Z (.bl (decide (qC e.bs k.xs=qC e.bs l.xs)),S):=by
 show(lC S (58+1+1) (k.sg e) (l.sg e)).map _=_;rw[Ky.sg_zip,Ky.sg_zip,Lp,CT O O hk.all a.all];rfl
theorem Inc.nd{e:E4}:∀{L:List Rw},Inc e L->(L.map λp=>p.1.code e).Nodup:=λh=>
 cJ.mpr (List.Pairwise.imp (λz=>nN1 z) h)
def qz(k:Ky):D:=.tup [.int k.m,.str "leave",.non]
def mT(e:E4)(L:List Rw)(k:Ky):D:=((L.find? λp=>decide (p.1.code e=k.code e)).map (·.2)).getD (qz k)
theorem C0{e:E4}{L:List Rw}{k:Ky}{E:D}{S:dr}{Q:D×dr->Prop}(inc:Inc e L)(ok:∀ p∈L,gr p)(K:L.length<=4000)(hk:k.Ok)(I:E.und 0=M)(q:Q (mT e L k,S)):W (dv 3 jr [.tup [E,.tup (L.map (eV e))],.int k.m,k.sg e] S) Q:=by
 refine jw O (by
  have y:=oW (e:=e) ok 0;have r2:=k.sgu e 0;rw[D.und]at y;simp[D.unds,D.und,I,y,r2]) ?_
 unfold jr;refine jf ?_;unfold sy;generalize F:D.tup [E,.tup (L.map (eV e))]=ao;refine d4 (λr S=>S=[]/\r=[Z ao,Z (.int k.m),Z (k.sg e),Z (.tup (L.map (eV e))),Y]) ?_ ?_
 ·subst F;have C:dz (.tup [E,.tup (L.map (eV e))]) (.int 1) []=Z (.tup (L.map (eV e)),[]):=rfl
  ((try walk_at"w");repeat(simp only[C];try walk_at"w"))
 rintro r G ⟨rfl,rfl⟩;refine d4 (λr S=>∃a:Nat,S=[]/\a<=L.length/\(∀i p,L[i]?=Z p->i<a->p.1.m<k.m)/\(∀i p,L[i]?=Z p->a<=i->k.m<=p.1.m)/\r=[Z ao,Z (.int k.m),Z (k.sg e),Z (.tup (L.map (eV e))),Z (.int (a:Nat))]) ?_ ?_
 ·walk_at"w";refine Fp inc ok K λa h1 h2 u=>?_;exact⟨a,O,h1,h2,u,O⟩
 rintro r G ⟨a,rfl,h1,h2,u,rfl⟩;have hnd:=inc.nd;have g:(∀(i:Nat) (p:Rw),L[i]?=Z p->p.1.code e≠k.code e)->mT e L k=qz k:=λh=>by
  unfold mT;rw[List.find?_eq_none.mpr λp c=>?_]
  ·rfl
  ·obtain⟨i,hi⟩:=bB c;rw[al];exact h i p hi
 have n:∀p,p∈L->p.1.m≠k.m->p.1.code e≠k.code e:=λp c t z=>by
  have:=(NL (A:=p.1.m) (B:=k.m) (jv (ok p c).1 e) (jv hk e)).1.mp z;exact t this.1
 unfold dG;refine dw.mpr ?_;refine AD (λj r S=>S=[]/\a+j<=L.length/\(∀i p,L[i]?=Z p->i<a+j->p.1.code e≠k.code e)/\r=[Z ao,Z (.int k.m),Z (k.sg e),Z (.tup (L.map (eV e))),Z (.int ((a+j:Nat):Int))]) L.length ?_ 100000 0 _ _ (by lia) ⟨O,by lia,λi p c hi=>n p (gM1 c) (by have:=h2 i p c (by lia);lia),O⟩;rintro j r S ⟨rfl,au,w,rfl⟩;unfold no;by_cases v:a+j<L.length
 ·obtain⟨p,c⟩:∃p,L[a+j]?=some p:=⟨_,gG1 v⟩;have l:=gM1 c
  ((try walk_at"w");repeat(simp only[IN,MY c,MZ,NG,lM1];try walk_at"w"))
  rw[ak (by rw[al];lia)];by_cases H:p.1.m=k.m
  ·rw[ak (by rw[beq_iff_eq];lia)];refine⟨by lia,?_⟩;unfold nl
   ((try walk_at"w");repeat(simp only[MY c,MZ,Oo,Oq,Ll (ok p l).1 hk];try walk_at"w"))
   have d:p.1.code e=k.code e↔qC e.bs p.1.xs=qC e.bs k.xs:=by unfold Ky.code;rw[H];lia
   by_cases hc:qC e.bs p.1.xs=qC e.bs k.xs
   ·rw[ak (ah hc)];right;have N:(L.find? λp=>decide (p.1.code e=k.code e))=Z p:=(vt (f:=λp:Rw=>p.1.code e) hnd).mpr ⟨l,d.mpr hc⟩;have am:mT e L k=p.2:=by unfold mT;rw[N];rfl
    rw[am]at q;exact⟨_,O,(ok p l).2.und,q⟩
   ·rw[aj (by rw[al];exact hc)];refine W.of (x:=(.nx,[Z ao,Z (.int k.m),Z (k.sg e),Z (.tup (L.map (eV e))),Z (.int (((a+j:Nat):Int)+1))],[])) O ?_;left;refine⟨O,O,by lia,λi m b hi=>?_,by push_cast;rfl⟩;by_cases o:i=a+j
    ·subst o;rw[c]at b;cases b;exact λz=>hc (d.mp z)
    ·exact w i m b (by lia)
  ·rw [if_neg (by rw [beq_iff_eq];lia)];have s:mT e L k=qz k:=g fun i m b=>by
    by_cases hi:i<a+j
    ·exact w i m b hi
    ·have b1:=u (a+j) p c (by lia);have b2:=(inc.le ok c b (by lia)).1;exact n m (gM1 b) (by lia)
   rw[s]at q;exact⟨O,q⟩
 ·((try walk_at"w");repeat(simp only[IN,lM1];try walk_at"w"))
  rw[aj (by rw[al];lia)];have s:mT e L k=qz k:=g λi m b=>by
   have:=(gE1.mp b).1;exact w i m b (by lia)
  rw[s]at q;exact⟨O,q⟩
def dm:D->Nat
 | .tup [.int m,_,_]=>m.toNat
 |_=>0
def dh:D->Str
 | .tup [_,.str h,_]=>h
 |_=>""
def dt:D->Option Nat
 | .tup [_,_,.int t]=>Z t.toNat
 |_=>Y
def tD:Option Nat->D
 |none=>.non
 |some t=>.int (t:Nat)
theorem ik.eta{x:D}(h:ik x):x = .tup [.int (dm x:Nat),.str (dh x),tD (dt x)]/\dm x<4000:=by
 obtain⟨m,y,t,rfl,a,h1,h2⟩:=h.is;simp only[rW,aE,bO,or_false]at h1;simp only[uw,aE,bO,or_false]at h2;rcases h1 with e|e|e<;>subst e<;>rcases h2 with e|e|e|e|e<;>subst e<;>exact⟨O,a⟩
def ga(w:dB)(u:Wk)(x:D):Wk:=match dt x with
 |some t=>match (w[u.1]?).bind (·[t]?)with
  |some p=>(p.1,p.2+1,dm x)
  |none=>(u.1,u.2.1,dm x)
 |none=>(u.1,u.2.1,dm x)
theorem Cp{t:Nat}{S:dr}:Fk (.int (t:Nat)) .non S=Z (.bl J,S):=rfl
theorem IY{S:dr}:Fk .non .non S=Z (.bl M,S):=rfl
theorem zd{w:dB}{u:Wk}{row:List (Nat×Nat)}{x:D}{S:dr}{Q:D×dr->Prop}(hr:w[u.1]?=Z row)(hx:ik x)(q:Q (eO (ga w u x),S)):W (dv 3 jo [ec w,eO u,x] S) Q:=by
 refine jw O (by simp[D.unds,hH,hx.und];rfl) ?_;unfold jo;refine jf ?_;unfold sw;have ex:=hx.eta.1;unfold ga at q;simp only[hr,oS1]at q;generalize n:dm x=m at *
 generalize o:dh x=h at *
 generalize l:dt x=t at *
 refine d4 (λr V=>V=[]/\r=[Z (ec w),Z (eO u),Z x,Z (.int u.1),Z (.int u.2.1),Z (.int u.2.2),Y,Y,Y,Y,Y]) ?_ ?_
 ·generalize i:eO u=U;have d:U = .tup [.int u.1,.int u.2.1,.int u.2.2]:=i.symm;subst d;walk_at"w"
 rintro r V ⟨rfl,rfl⟩;refine d4 (λr V=>V=[]/\r=[Z (ec w),Z (eO u),Z x,Z (.int u.1),Z (.int u.2.1),Z (.int u.2.2),Z (.int (m:Nat)),Z (.str h),Z (tD t),Y,Y]) ?_ ?_
 ·subst ex;walk_at"w"
 rintro r V ⟨rfl,rfl⟩;cases t with
 |none=>
  have b:tD Y = .non:=rfl;rw[b]
  ((try walk_at"w");repeat(simp only[IY];try walk_at"w"))
  exact⟨O,q⟩
 |some t=>
  have b:tD (Z t) = .int (t:Nat):=rfl;rw[b];have c:∀a,dz (ec w) (.int (u.1:Nat)) a=Z (.tup (row.map pD),a):=λa=>by
   obtain⟨p,e,h⟩:W (dz (ec w) (.int (u.1:Nat)) a) λp=>p=(.tup (row.map pD),a):=yS hr O;rw[e,h]
  dsimp only at q;by_cases k:t<row.length
  ·have f:=gG1 k;rw[f]at q;refine d4 (λr V=>V=[]/\r=[Z (ec w),Z (eO u),Z x,Z (.int u.1),Z (.int u.2.1),Z (.int u.2.2),Z (.int (m:Nat)),Z (.str h),Z (.int (t:Nat)),Y,Y]) ?_ ?_
   ·((try walk_at"w");repeat(simp only[Cp,c,gX,lM1];try walk_at"w"))
    rw[aj (by rw[al];lia)];trivial
   rintro r V ⟨rfl,rfl⟩;have j:∀a,dz (.tup (row.map pD)) (.int (t:Nat)) a=Z (pD row[t],a):=λa=>by
    obtain⟨p,e,h⟩:W (dz (.tup (row.map pD)) (.int (t:Nat)) a) λp=>p=(pD row[t],a):=jT (by rw[gP1,f];rfl) O;rw[e,h]
   generalize row[t]=p at *
   refine d4 (λr V=>V=[]/\r=[Z (ec w),Z (eO u),Z x,Z (.int u.1),Z (.int u.2.1),Z (.int u.2.2),Z (.int (m:Nat)),Z (.str h),Z (.int (t:Nat)),Z (.int p.1),Z (.int p.2)]) ?_ ?_
   ·((try walk_at"w");repeat(simp only[c,j,pD];try walk_at"w"))
   rintro r V ⟨rfl,rfl⟩;walk_at"w";have g:(1:Int)+(p.2:Int)=((p.2+1:Nat):Int):=by lia
   rw[g];exact⟨O,q⟩
  ·rw[b5 (by lia)]at q
   ((try walk_at"w");repeat(simp only[Cp,c,gX,lM1];try walk_at"w"))
   rw[ak (by rw[al];lia)];exact⟨O,q⟩
abbrev Pr:=Wk×D
def n0(ps:List Pr):List Wk:=ps.map (·.1)
def yz(ps:List Pr):List D:=ps.map (·.2)
theorem F6(ps:List Pr):eg (n0 ps)=ps.map λp=>eO p.1:=by unfold eg n0;rw[bD];rfl
theorem rA{S:dr}{x n:Nat}{cs:List Nat}(h:S[n]?=Z (.lst (nmD cs))):gY (.int x) (.ref n) S=Z (.bl (!cs.contains x),S):=by
 simp only[gY,kK,pH,h,dQ,oS1,fc,show(60:Nat)=59+1 from rfl,tI,oP1]
theorem Ct{S:dr}{x n:Nat}{cs:List Nat}(h:S[n]?=Z (.lst (nmD cs))):fZ (.int x) (.ref n) S=Z (.bl (cs.contains x),S):=by
 simp only[fZ,w4,JN,h,dQ,oS1,fc,show(60:Nat)=59+1 from rfl,tI,oP1]
theorem E1{x:D}(h:ik x)(S:dr):dz x (.int 1) S=Z (.str (dh x),S):=by
 have e:=h.eta.1;generalize dm x=a at e;generalize dt x=c at e;generalize dh x=b at *
 subst e;rfl
theorem yj{u:Wk}{S:dr}:dz (eO u) (.int 0) S=Z (.int u.1,S):=rfl
theorem EY{u:Wk}{S:dr}:dz (eO u) (.int 2) S=Z (.int u.2.2,S):=rfl
def tz(ps:List Pr)(h:Str)(r:Nat):Bool:=ps.any λp=>p.1.1 == r&&dh p.2 == h
def iS(m:Nat)(ps:List Pr)(cs:List Nat):List Nat:=(af m).filter λr=>tz ps "mark" r||(cs.contains r && !tz ps "wipe" r)
theorem wL(a b:List Nat):nmD a++nmD b=nmD (a++b):=by simp[nmD]
def qr(ps:List Pr)(h:Str):List Nat:=(ps.filter λp=>dh p.2 == h).map (·.1.1)
theorem yP{ps:List Pr}{h:Str}{r:Nat}:r∈qr ps h↔tz ps h r=M:=by
 unfold qr tz;rw[ci,bU];constructor
 ·rintro⟨u,a,rfl⟩;obtain⟨h1,h2⟩:=aA.mp a;exact⟨u,h1,by simp[h2]⟩
 ·rintro⟨u,a,e⟩;rw[bA1,beq_iff_eq]at e;exact⟨u,aA.mpr ⟨a,e.2⟩,e.1⟩
theorem CC{h:Str}{ps:List Pr}{n:Nat}{S:dr}{Q:D×dr->Prop}{m:FA}{r:Ev}(hd:∀ p∈ps,ik p.2)(f:ps.length<=8)(a:S[n]? = Z (.lst (yz ps)))(hm:m r S=Z ([.tup (eg (n0 ps)),.ref n],S))(hr:ju 2 [] r=[Y,Y])(q:Q (.ref S.length,S++[.lst (nmD (qr ps h))])):W (d6 2 [] (Cy m) (gT 2 (eU (gN 0) (eU (gN 1) i7))) (mB (m2 (b2 gEq) (m2 (b2 dz) (mV 1) (mC (D.int (1)))) (mC (D.str h)))) (dU (m2 (b2 dz) (mV 0) (mC (D.int (0))))) r S) Q:=by
 rw[fe];refine Dk hm a ?_;dsimp only;rw[hr,F6,yz,v3];refine iB (λp:Pr=>dh p.2 == h) (λp:Pr=>D.int p.1.1) (λr=>∃x y,r=[x,y]) (fS a) ps _ ⟨_,_,O⟩ ?_ λd _=>?_
 ·rintro u b r ⟨x,y,rfl⟩
  ((try walk_at"w");repeat(simp only[E1 (hd u b)];try walk_at"w"))
  refine⟨⟨_,_,O⟩,λ_=>?_⟩
  ((try walk_at"w");repeat(simp only[yj];try walk_at"w"))
 ·have e:(ps.filter λp:Pr=>dh p.2 == h).map (λp:Pr=>D.int (p.1.1:Nat))=nmD (qr ps h):=by unfold nmD qr;rw[bD];rfl
  rw[e];have c:=cQ (λp:Pr=>dh p.2 == h) ps;refine⟨dD ?_,q⟩;dsimp only;rw[fg];unfold qr;rw[lM1];lia
theorem zM{m:Nat}{ps:List Pr}{cs:List Nat}{n:Nat}{S:dr}{Q:D×dr->Prop}(hd:∀ p∈ps,ik p.2)(w:ps.length<=8)(hc:cs.length<=8)(hw:∀ p∈ps,p.1.1<m)(k:∀ r∈cs,r<m)(o:S[n]? = Z (.lst (yz ps)))(j:S.all (Ob.und S.length)=M)(q:Q (.tup (nmD (iS m ps cs)),S)):W (dv 2 jp [dM (n0 ps) cs,.ref n] S) Q:=by
 refine jP O (by simp[D.unds,D.und]) ?_;unfold jp;refine jf ?_;unfold sx;have A:=(gE1.mp o).1;refine d4 (λr V=>V=S/\r=[Z (dM (n0 ps) cs),Z (.ref n),Z (.tup (eg (n0 ps))),Z (.tup (nmD cs)),Y,Y,Y]) ?_ ?_
 ·generalize C:dM (n0 ps) cs=ao;have l:ao = .tup [.tup (eg (n0 ps)),.tup (nmD cs)]:=C.symm;subst l;walk_at"w"
 rintro r V ⟨y,rfl⟩;subst y;refine d4 (λr i=>i=V++[.lst (nmD (qr ps "mark"))]/\r=[Z (dM (n0 ps) cs),Z (.ref n),Z (.tup (eg (n0 ps))),Z (.tup (nmD cs)),Z (.ref V.length),Y,Y]) ?_ ?_
 ·unfold dH;refine dw.mpr (CC hd w o O O ?_);walk_at"w"
 rintro r d ⟨a,rfl⟩;have G:d[n]?=Z (.lst (yz ps)):=by rw[a,gL1 A];exact o
 have s:d[V.length]?=Z (.lst (nmD (qr ps "mark"))):=by rw[a,dL];rfl
 refine d4 (λr i=>i=d++[.lst (nmD (qr ps "wipe"))]/\r=[Z (dM (n0 ps) cs),Z (.ref n),Z (.tup (eg (n0 ps))),Z (.tup (nmD cs)),Z (.ref V.length),Z (.ref d.length),Y]) ?_ ?_
 ·unfold dH;refine dw.mpr (CC hd w G O O ?_);walk_at"w"
 rintro r g ⟨c,rfl⟩;have t:g[V.length]?=Z (.lst (nmD (qr ps "mark"))):=by rw[c,gL1 (gE1.mp s).1];exact s
 have H:g[d.length]?=Z (.lst (nmD (qr ps "wipe"))):=by rw[c,dL];rfl
 refine d4 (λr i=>i=g++[.lst (nmD (cs.filter λr=> !(qr ps "wipe").contains r))]/\r=[Z (dM (n0 ps) cs),Z (.ref n),Z (.tup (eg (n0 ps))),Z (.tup (nmD cs)),Z (.ref V.length),Z (.ref d.length),Z (.ref g.length)]) ?_ ?_
 ·walk_at"w";rw[gh];refine iB (f:=λr:Nat=>D.int r) (λr:Nat=> !(qr ps "wipe").contains r) (λr:Nat=>D.int r) (λr=>∃x,r=[x,Z (.ref d.length)]) O cs _ ⟨_,O⟩ ?_ λI _=>?_
  ·rintro u v r ⟨x,rfl⟩
   ((try walk_at"w");repeat(simp only[rA H];try walk_at"w"))
   exact⟨⟨_,O⟩,λ_=>trivial⟩
  ·walk_at"w";have z:=cQ (λr:Nat=> !(qr ps "wipe").contains r) cs;exact⟨dD (by rw[lM1];lia),O,trivial⟩
 rintro r V3 ⟨b,rfl⟩;have B:V3[V.length]?=Z (.lst (nmD (qr ps "mark"))):=by rw[b,gL1 (gE1.mp t).1];exact t
 have E:V3[g.length]?=Z (.lst (nmD (cs.filter λr=> !(qr ps "wipe").contains r))):=by rw[b,dL];rfl
 have z:=cQ (λr:Nat=> !(qr ps "wipe").contains r) cs;have am:(qr ps "mark").length<=ps.length:=by unfold qr;rw[lM1];exact cQ _ _
 walk_at"w";refine(xp E B).mpr ⟨dD (by rw[fg,fg];lia),?_⟩;rw[wL];refine Ak (xs:=cs.filter (λr=> !(qr ps "wipe").contains r)++qr ps "mark") (m:=m) (f:=λr=>tz ps "mark" r||(cs.contains r && !tz ps "wipe" r)) (by rw[dL];rfl) (λr=>?_) (by rw[lA1];lia) ?_
 ·have F:(qr ps "wipe").contains r=tz ps "wipe" r:=by
   rw[bT,cw,yP]
  rw[aF,aA,yP,F];constructor
  ·rintro(⟨h1,h2⟩|h1)
   ·exact⟨k r h1,by rw[cw.mpr h1,h2];simp⟩
   ·refine⟨?_,by rw[h1];rfl⟩;unfold tz at h1;obtain⟨u,v,e⟩:=bU.mp h1;rw[bA1,beq_iff_eq]at e;rw[<- e.1];exact hw u v
  ·rintro⟨_,h⟩;rw[bR,bA1]at h;rcases h with h|⟨h1,h2⟩
   ·exact .inr h
   ·exact .inl ⟨cw.mp h1,h2⟩
 ·walk_at"w";refine eh (xs:=nmD (iS m ps cs)) (by rw[gE];rfl) ?_;rw[wX (by rw[D.und];exact fy _) j (by rw[b,c,a];simp only[bf];exact bE _ _)];exact q
def Gr(m:Nat)(w:dB)(ps:List Pr)(cs:List Nat):D:=dM (ps.map λp=>ga w p.1 p.2) (iS m ps cs)
theorem oj{m:Nat}{w:dB}{ps:List Pr}{cs:List Nat}:(Gr m w ps cs).und 0=M:=gK
theorem Ey{m:Nat}{w:dB}{ps:List Pr}{cs:List Nat}{n:Nat}{S:dr}{Q:D×dr->Prop}(g:w.length=m)(hd:∀ p∈ps,ik p.2)(z:ps.length<=8)(hc:cs.length<=8)(hw:∀ p∈ps,p.1.1<m)(h:∀ r∈cs,r<m)(d:S[n]? = Z (.lst (yz ps)))(b:S.all (Ob.und S.length)=M)(q:Q (Gr m w ps cs,S)):W (dv 3 lX [ec w,dM (n0 ps) cs,.ref n] S) Q:=by
 refine jP O (by simp[D.unds,D.und]) ?_;unfold lX;refine jf ?_;unfold yN;have l:=(gE1.mp d).1;refine d4 (λr V=>V=S/\r=[Z (ec w),Z (dM (n0 ps) cs),Z (.ref n),Z (.tup (eg (n0 ps))),Z (.tup (nmD cs)),Y]) ?_ ?_
 ·generalize t:dM (n0 ps) cs=ao;have i:ao = .tup [.tup (eg (n0 ps)),.tup (nmD cs)]:=t.symm;subst i;walk_at"w"
 rintro r V ⟨k,rfl⟩;subst k;refine d4 (λr B=>B=V++[.lst (eg (ps.map λp=>ga w p.1 p.2))]/\r=[Z (ec w),Z (dM (n0 ps) cs),Z (.ref n),Z (.tup (eg (n0 ps))),Z (.tup (nmD cs)),Z (.ref V.length)]) ?_ ?_
 ·unfold dH;refine dw.mpr ?_;rw[fe];refine Dk (xs:=eg (n0 ps)) (ys:=yz ps) (n:=n) O d ?_;dsimp only;rw[F6,yz,v3];refine kT (λp:Pr=>eO (ga w p.1 p.2)) (λr=>∃x y,r=[x,y,Z (ec w)]) (fS d) ps _ ⟨_,_,O⟩ ?_ λE _=>?_
  ·rintro u j r ⟨x,y,rfl⟩;obtain⟨row,c⟩:∃row,w[u.1.1]?=some row:=⟨_,gG1 (by rw[g];exact hw u j)⟩;walk_at"w";refine zd c (hd u j) ?_;exact⟨O,O,_,_,O⟩
  ·have e:ps.map (λp:Pr=>eO (ga w p.1 p.2))=eg (ps.map λp=>ga w p.1 p.2):=by unfold eg;rw[bD];rfl
   rw[e];refine⟨dD (by dsimp only;rw[n3,lM1];lia),?_⟩;walk_at"w"
 rintro r f ⟨a,rfl⟩;have v:f[n]?=Z (.lst (yz ps)):=by rw[a,gL1 l];exact d
 have s:f[V.length]?=Z (.lst (eg (ps.map λp=>ga w p.1 p.2))):=by rw[a,dL];rfl
 have c1:f.all (Ob.und f.length)=M:=by
  rw[a,cM,bA1,lA1];rw[bH]at b;refine⟨bH.mpr λo C=>gB (bC _ _) (b o C),?_⟩;rw[bS,Ob.und,fq (xD _)];rfl
 walk_at"w";refine eh s ?_;refine zM hd z hc hw h v c1 ?_;walk_at"w";have A:D.tup [.tup (eg (ps.map λp=>ga w p.1 p.2)),.tup (nmD (iS m ps cs))]=Gr m w ps cs:=rfl;rw[A,wX oj b (by rw[a];exact bE _ _)];exact q
def tO(e:E4):D:=.tup (fX e.1 e.2.1 e.2.2.1 e.2.2.2)
theorem jJ(e:E4):(tO e).und 0=M:=by unfold tO;rw[D.und];exact pP _ _ _ _
def mcD(e:E4)(L:List Rw):D:=.tup [tO e,.tup (L.map (eV e))]
theorem kE{e:E4}{L:List Rw}(ok:∀p∈L,gr p):(mcD e L).und 0=M:=by
 have h1:=jJ e;have h2:=oW (e:=e) ok 0;unfold mcD;rw[D.und,D.unds,D.unds,h1,h2];rfl
theorem mU{k:Ky}(hk:k.Ok):ik (qz k):=⟨k.m,_,_,O,hk.m,by simp[rW],by simp[uw]⟩
theorem pT{e:E4}{L:List Rw}{k:Ky}(ok:∀p∈L,gr p)(hk:k.Ok):ik (mT e L k):=by
 unfold mT;cases h:L.find? λp=>decide (p.1.code e=k.code e)with
 |none=>exact mU hk
 |some p=>exact(ok p (List.mem_of_find?_eq_some h)).2
def ky(w:dB)(ws:List Wk)(cs:List Nat)(u:Wk):Ky:=⟨u.2.2,u.2.1,if cs.contains u.1 then 1 else 0,((w[u.1]?).getD []).length,if 1<crowd ws u.1 then 1 else 0⟩
theorem xO{w:dB}{ws:List Wk}{cs:List Nat}{u:Wk}{row:List (Nat×Nat)}{e:E4}(h:w[u.1]?=Z row):xP e.1 e.2.1 e.2.2.1 e.2.2.2 ws cs u row=(ky w ws cs u).sg e:=by
 have c1:∀b:Bool,((if b=M then 1 else 0:Nat):Int)=if b=M then(1:Int)else 0:=λb=>by cases b<;>rfl
 have c2:((if 1<crowd ws u.1 then 1 else 0:Nat):Int)=if 1<crowd ws u.1 then(1:Int)else 0:=by split<;>rfl
 unfold xP wr Ky.sg Nw ky pt;rw[h];dsimp only;rw[c1,c2];rfl
structure iC (m:Nat)(w:dB)(ws:List Wk)(cs:List Nat):Prop where
 web:jS m w
 m8:m<=8
 few:ws.length<=8
 cl:cs.length<=8
 wk:∀u∈ws,∃row,w[u.1]?=some row/\u.2.1<=row.length/\u.2.2<4000
 ch:∀r∈cs,r<m
theorem iC.lt{m:Nat}{w:dB}{ws:List Wk}{cs:List Nat}(h:iC m w ws cs):∀u∈ws,u.1<m:=λu b=>by
 obtain⟨a,e,_⟩:=h.wk u b;have:=(gE1.mp e).1;rw[h.web.len]at this;exact this
theorem iC.ky{m:Nat}{w:dB}{ws:List Wk}{cs:List Nat}(h:iC m w ws cs):∀u∈ws,(ky w ws cs u).Ok:=λu c=>by
 obtain⟨a,e,h1,h2⟩:=h.wk u c;have b:=h.web.le a (gM1 e);refine⟨h2,?_,?_,?_,?_⟩
 ·show u.2.1<=4;lia
 ·show(if cs.contains u.1 then 1 else 0)<=4;split<;>lia
 ·show((w[u.1]?).getD []).length<=4;rw[e];exact b
 ·show(if 1<crowd ws u.1 then 1 else 0)<=4;split<;>lia
theorem DE{m:Nat}{w:dB}{ws:List Wk}{cs:List Nat}{e:E4}{S:dr}{Q:D×dr->Prop}(h:iC m w ws cs)(q:Q (.ref S.length,S++[.lst (ws.map λu=>(ky w ws cs u).d e)])):W (dv 3 lW [ec w,tO e,dM ws cs] S) Q:=by
 refine Gv O (by simp[D.unds,hH,gK,jJ]) ?_;unfold lW;refine jf ?_;unfold yM ee;rw[dw,fe];refine Dn (xs:=eg ws) O ?_;dsimp only;have g:=h.few;rw[eg,tQ];refine kT (λp:Wk×Nat=>(Law.ky w ws cs p.1).d e) (λr=>∃x y,r=[x,y,Z (ec w),Z (tO e),Z (dM ws cs)]) O ws.zipIdx _ ⟨_,_,O⟩ ?_ λi _=>?_
 ·rintro⟨u,k⟩ c r ⟨x,y,rfl⟩;have b:ws[k]?=Z u:=kq c;obtain⟨d,a,_⟩:=h.wk u (gM1 b)
  ((try walk_at"w");repeat(simp only[EY];try walk_at"w"))
  refine DQ b a (by lia) ?_;walk_at"w";rw[xO a];exact⟨O,_,_,O⟩
 ·have f:(ws.zipIdx.map λp:Wk×Nat=>(Law.ky w ws cs p.1).d e)=ws.map λu=>(Law.ky w ws cs u).d e:=ls (λu=>(Law.ky w ws cs u).d e) ws;rw[f];refine⟨dD (by dsimp only;rw[lM1];lia),?_⟩;walk_at"w";exact⟨_,O,Mi.dW λu _=>Ky.und _ e 0,q⟩
def ddW(w:dB)(ws:List Wk)(cs:List Nat)(e:E4)(L:List Rw)(u:Wk):D:=mT e L (ky w ws cs u)
def kQ(w:dB)(ws:List Wk)(cs:List Nat)(e:E4)(L:List Rw)(ch:List Nat)(q:Wk×Nat):D:=if ch.contains q.2 then ddW w ws cs e L q.1 else qz (ky w ws cs q.1)
def eH(w:dB)(ws:List Wk)(cs:List Nat)(e:E4)(L:List Rw)(ch:List Nat):List Pr:=ws.zipIdx.map λq=>(q.1,kQ w ws cs e L ch q)
theorem A5{w:dB}{ws:List Wk}{cs:List Nat}{e:E4}{L:List Rw}{ch:List Nat}:n0 (eH w ws cs e L ch)=ws:=by
 unfold n0 eH;rw[bD];exact(ls (λu:Wk=>u) ws).trans (cH _)
theorem oA{α:Type}{l:List α}{p:α×Nat}(h:p∈l.zipIdx):p.1∈l:=gM1 (kq h)
theorem Jl{n:Nat}{f:FN}{ds:List D}{S:dr}{Q:D×dr->Prop}(hn:ds.length=n)(c:D.unds 0 ds=M)(h:W (f ds []) λp=>∃xs ys,p=(.ref 1,[.lst xs,.lst ys])/\D.unds 0 xs=M/\D.unds 0 ys=M/\Q (.ref (S.length+1),S++[.lst xs,.lst ys])):W (dv n f ds S) Q:=by
 obtain⟨p,e,xs,ys,rfl,b,a,q⟩:=h;refine⟨_,kf e hn c O,?_⟩;simp only[D.sh,mP1,bj,Ob.sh,i4 b,i4 a];exact q
theorem Ft{m:Nat}{w:dB}{ws:List Wk}{cs:List Nat}{e:E4}{L:List Rw}{S:dr}{Q:D×dr->Prop}(h:iC m w ws cs)(inc:Inc e L)(ok:∀ p∈L,gr p)(f:L.length<=4000)(q:∀b,b.und 0=M->Q (.ref (S.length+1),S++[b,.lst (ws.map (ddW w ws cs e L))])):W (dv 3 iO [ec w,mcD e L,dM ws cs] S) Q:=by
 refine Jl O (by simp[D.unds,hH,gK,kE ok]) ?_;unfold iO;refine jf ?_;unfold qf ee;have g:=h.few;have c:∀u∈ws,ik (ddW w ws cs e L u):=λu a=>pT ok (h.ky u a);have d:∀S,dz (mcD e L) (.int 0) S=Z (tO e,S):=λS=>rfl;rw[dw,fe]
 ((try walk_at"w");repeat(simp only[d];try walk_at"w"))
 refine DE h ?_;refine eh (xs:=ws.map λu=>(ky w ws cs u).d e) O ?_;refine kT (ddW w ws cs e L) (λr=>∃x y,r=[x,y,Z (mcD e L)]) (fS O) ws _ ⟨_,_,O⟩ ?_ λi _=>?_
 ·rintro u a r ⟨x,y,rfl⟩;unfold Ky.d;walk_at"w";refine C0 inc ok f (h.ky u a) (jJ e) ?_;exact⟨O,O,_,_,O⟩
 ·refine⟨dD (by dsimp only;rw[lM1];lia),?_⟩;walk_at"w";exact⟨_,_,O,Mi.dW λu _=>Ky.und _ e 0,Mi.dW λu a=>(c u a).und,q _ (by rw[Ob.und];exact Mi.dW λu _=>Ky.und _ e 0)⟩
theorem Cs{S:dr}{x:Nat}{cs:List Nat}:fZ (.int x) (.tup (nmD cs)) S=Z (.bl (cs.contains x),S):=yo
theorem Ew{m:Nat}{w:dB}{ws:List Wk}{cs ch:List Nat}{e:E4}{L:List Rw}{n:Nat}{S:dr}{Q:D×dr->Prop}(h:iC m w ws cs)(ok:∀ p∈L,gr p)(E:S[n]? = Z (.lst (ws.map (ddW w ws cs e L))))(g:S.all (Ob.und S.length)=M)(q:Q (Gr m w (eH w ws cs e L ch) cs,S)):W (dv 4 gC [ec w,dM ws cs,.ref n,.tup (nmD ch)] S) Q:=by
 refine jP O (by simp[D.unds,D.und]) ?_;unfold gC;refine jf ?_;unfold mh;have F:=(gE1.mp E).1;have N:=h.few;have I:∀u∈ws,ik (ddW w ws cs e L u):=λu H=>pT ok (h.ky u H);have au:∀S,dz (dM ws cs) (.int 0) S=Z (.tup (eg ws),S):=λS=>rfl;have z:∀o,(S++[o])[n]?=Z (.lst (ws.map (ddW w ws cs e L))):=λo=>by rw[gL1 F];exact E
 have t:∀p∈eH w ws cs e L ch,ik p.2/\p.1∈ws:=λp t=>by
  obtain⟨x,am,rfl⟩:=ci.mp t;have j:=oA am;refine⟨?_,j⟩;unfold kQ;dsimp only;split
  ·exact I _ j
  ·exact mU (h.ky _ j)
 refine d4 (λr V=>V=S++[.lst []]/\r=[Z (ec w),Z (dM ws cs),Z (.ref n),Z (.tup (nmD ch)),Z (.ref S.length),Y,Y,Y,Y]) ?_ ?_
 ·walk_at"w"
 rintro r V ⟨rfl,rfl⟩;refine d4 (λr V=>V=S++[.lst (yz (eH w ws cs e L ch))] /\ ∃l s y7 y8,r=[Z (ec w),Z (dM ws cs),Z (.ref n),Z (.tup (nmD ch)),Z (.ref S.length),l,s,y7,y8]) ?_ ?_
 ·unfold fD;rw[dw];refine Dn (xs:=eg ws) (by simp only[dn,m2,b2,mV,mC,dq,gC1,cK,oS1,au]) ?_;dsimp only;rw[eg,tQ];refine fA (λi r V=>V=S++[.lst ((ws.zipIdx.take i).map (kQ w ws cs e L ch))] /\ ∃l s y7 y8,r=[Z (ec w),Z (dM ws cs),Z (.ref n),Z (.tup (nmD ch)),Z (.ref S.length),l,s,y7,y8]) _ 0 _ _ ⟨by simp,_,_,_,_,O⟩ (λ_ _ _ _=>rfl) ?_ ?_
  ·rintro i d v r V ⟨rfl,l,s,y7,y8,rfl⟩;rw[gP1]at v;obtain⟨⟨u,k⟩,B,rfl⟩:=oM1.mp v;have G:ws[k]?=Z u:=kq (gM1 B);have y:=(gE1.mp B).1;rw[cT]at y;rw[bQ];have C:((ws.zipIdx.take i).map (kQ w ws cs e L ch)).length<=8:=by rw[lM1,aR,cT];lia
   have f:(S++[Ob.lst ((ws.zipIdx.take i).map (kQ w ws cs e L ch))])[S.length]?=Z (.lst ((ws.zipIdx.take i).map (kQ w ws cs e L ch))):=by rw[dL];rfl
   have st:∀a b:Ob,(S++[a]).set S.length b=S++[b]:=λa b=>by rw[cU _ _ (nR1 _),cP];rfl
   have more:(ws.zipIdx.take (i+1)).map (kQ w ws cs e L ch)=(ws.zipIdx.take i).map (kQ w ws cs e L ch)++[kQ w ws cs e L ch (u,k)]:=by rw[cj,B,cg];rfl
   have K:qz (ky w ws cs u) = .tup [.int u.2.2,.str "leave",.non]:=rfl;unfold eO;walk_at"w";unfold jZ fm;rw[dw];refine kj ?_;walk_at"w";refine⟨S.length,_,O,f,?_⟩
   ((try walk_at"w");repeat(simp only[Cs];try walk_at"w"))
   rw[more];unfold kQ;dsimp only;split
   ·refine nK (z _) (i:=k) (x:=ddW w ws cs e L u) (by rw[gP1,G];rfl) ?_;refine(lr f).mpr ⟨dD (by lia),?_⟩;rw[st];exact⟨O,_,_,_,_,O⟩
   ·skip
    refine(lr f).mpr ⟨dD (by lia),?_⟩;rw[st,K];exact⟨O,_,_,_,_,O⟩
  ·rintro r V ⟨rfl,l,s,y7,y8,rfl⟩;refine⟨O,?_,_,_,_,_,O⟩;rw[lM1,bQ,b0];unfold yz eH;rw[bD];rfl
 rintro r V ⟨rfl,l,s,y7,y8,rfl⟩;have A:D.unds 0 (yz (eH w ws cs e L ch))=M:=Mi.dW λp c=>(t p c).1.und;have c1:(S++[Ob.lst (yz (eH w ws cs e L ch))]).all (Ob.und (S++[Ob.lst (yz (eH w ws cs e L ch))]).length)=M:=by
  rw[cM,bA1,lA1];rw[bH]at g;refine⟨bH.mpr λo ao=>gB (bC _ _) (g o ao),?_⟩;rw[bS,Ob.und,fq A];rfl
 have mv:=λQ q=>Ey (m:=m) (w:=w) (ps:=eH w ws cs e L ch) (cs:=cs) (n:=S.length) (S:=S++[Ob.lst (yz (eH w ws cs e L ch))]) (Q:=Q) h.web.len (λp c=>(t p c).1) (by unfold eH;rw[lM1,cT];exact N) h.cl (λp c=>h.lt _ (t p c).2) h.ch (by rw[dL];rfl) c1 q;rw[A5]at mv;walk_at"w";refine mv _ ?_;walk_at"w";rw[pG oj g];exact q
theorem GX{m:Nat}{w:dB}{ws:List Wk}{cs ch:List Nat}{e:E4}{L:List Rw}{S:dr}{Q:D×dr->Prop}(h:iC m w ws cs)(inc:Inc e L)(ok:∀p∈L,gr p)(d:L.length<=4000)(q:Q (Gr m w (eH w ws cs e L ch) cs,S)):W (dv 4 hW [ec w,mcD e L,dM ws cs,.tup (nmD ch)] S) Q:=by
 refine jw O (by simp[D.unds,hH,gK,kE ok,D.und,fy]) ?_;unfold hW
 refine jf ?_;unfold nC
 have b:∀u∈ws,ik (ddW w ws cs e L u):=λu a=>pT ok (h.ky u a);walk_at"w";refine Ft h inc ok d λf c=>?_;walk_at"w";refine Ew h ok O ?_ ?_
 ·rw[bS,bS,gB (br _) c,Ob.und,Mi.dW λu a=>e9 (b u a).und];rfl
 ·walk_at"w";exact⟨oj,q⟩
theorem pi{rm:Nat}:∀ {ws:List Wk} {n k:Nat},(k<n->((ws.zipIdx n).filter fun p=> !(p.2 == k)&&p.1.1 == rm).length=crowd ws rm) /\
  (∀u,n<=k->ws[k-n]?=Z u->u.1=rm->((ws.zipIdx n).filter λp=> !(p.2 == k)&&p.1.1 == rm).length+1=crowd ws rm)
 |[],n,k=>⟨λ_=>rfl,λu _ h=>by simp at h⟩
 |x::ws,n,k=>by
  obtain⟨h1,h2⟩:=pi (rm:=rm) (ws:=ws) (n:=n+1) (k:=k);have c:crowd (x::ws) rm=(if x.1 == rm then 1 else 0)+crowd ws rm:=by
   unfold crowd;rw[cF];split<;>simp<;>lia
  rw[bN,cF,c];constructor
  ·intro d;have:=h1 (by lia);have e:(n == k)=J:=by rw[beq_eq_false_iff_ne];lia
   rw[e];cases hx:(x.1 == rm)with
   |true=>simp[this];lia
   |false=>simp[this]
  ·intro u d a b;by_cases z:k=n
   ·subst z;rw[cP]at a;cases a;rw[b];have:=h1 (by lia);simp[this];lia
   ·have e:(n == k)=J:=by rw[beq_eq_false_iff_ne];lia
    have:=h2 u (by lia) (by rw[show k-n=(k-(n+1))+1 by lia,gC1]at a;exact a) b;rw[e];cases hx:(x.1 == rm)with
    |true=>simp;lia
    |false=>simp;lia
theorem Jd {w x y z:D}{S S':dr}{r:Ev}{m1 m2 b a:FE}{Q:D×dr->Prop}(h1:m1 r S=some (w,S))(h2:m2 r S=some (x,S))(d:b r S=some (y,S))(c:a r S=some (z,S'))
  (q:Q (.ref S'.length,S'++[.dct [(.inr "came",w),(.inr "chalk",x),(.inr "doors",y),(.inr "others",z)]])):
  W (py [(mC (.str "came"),m1),(mC (.str "chalk"),m2),(mC (.str "doors"),b),(mC (.str "others"),a)] r S) Q:=by
 refine W.of ?_ q;simp only[py,Cc,mC,h1,h2,d,c,oS1,oP1,ve,qy];rfl
theorem Ch{w:dB}{ws:List Wk}{cs:List Nat}{a b c d:Bool}{k:Nat}{u:Wk}{row:List (Nat×Nat)}{S:dr}{Q:D×dr->Prop}(g:ws[k]? = Z u)(hr:w[u.1]? = Z row)(I:ws.length<=1000)(q:Q (xP a b c d ws cs u row,S)):W (dv 4 gD [ec w,.tup (fX a b c d),dM ws cs,.int k] S) Q:=by
 refine jw O (by simp[D.unds,hH,gK];rw[D.und];exact⟨pP a b c d,O⟩) ?_;unfold gD;refine jf ?_;unfold mi;have h:∀(S:dr),dz (dM ws cs) (.int 0) S=Z (.tup (eg ws),S):=λS=>rfl;have l:∀(S:dr),dz (dM ws cs) (.int 1) S=Z (.tup (nmD cs),S):=λS=>rfl;refine d4 (λr S=>S=[]/\r=[Z (ec w),Z (.tup (fX a b c d)),Z (dM ws cs),Z (.int k),Z (.int u.1),Z (.int u.2.1),Z (.int u.2.2),Y,Y]) ?_ ?_
 ·((try walk_at"w");repeat(simp only[h];try walk_at"w"))
  refine jT (i:=k) (x:=eO u) (by rw[eg,gP1,g];rfl) ?_;rw[eO];walk_at"w"
 rintro r S ⟨rfl,rfl⟩;refine d4 (λr S=>∃xs,S=[.lst xs]/\(!xs.isEmpty)=decide (1<crowd ws u.1)/\r=[Z (ec w),Z (.tup (fX a b c d)),Z (dM ws cs),Z (.int k),Z (.int u.1),Z (.int u.2.1),Z (.int u.2.2),Z (.ref 0),Y]) ?_ ?_
 ·unfold dH;rw[dw,fe];refine Dn (xs:=eg ws) (by simp only[dn,m2,b2,mV,mC,dq,gC1,cK,oS1,h]) ?_;dsimp only;rw[eg,tQ];refine iB (λp:Wk×Nat=> !(p.2 == k)&&p.1.1 == u.1) (λp:Wk×Nat=>eO p.1) (λr=>∃x y,r=[x,y,Z (.int k),Z (.int u.1)]) O ws.zipIdx _ ⟨_,_,O⟩ ?_ λC _=>?_
  ·rintro⟨v,j⟩ H r ⟨x,y,rfl⟩;have s:((j:Int) == (k:Int))=(j == k):=by rw[bT,beq_iff_eq,beq_iff_eq];lia
   have o:((v.1:Int) == (u.1:Int))=(v.1 == u.1):=by rw[bT,beq_iff_eq,beq_iff_eq];lia
   ((try walk_at"w");repeat(simp only[s,yj,o];try walk_at"w"))
   cases(j == k)with
   |true=>exact⟨O,⟨_,_,O⟩,λz=>by cases z⟩
   |false=>
    cases hh:(v.1 == u.1)with
    |true=>exact⟨O,⟨_,_,O⟩,λ_=>trivial⟩
    |false=>exact⟨O,⟨_,_,O⟩,λz=>by cases z⟩
  ·have t:=cQ (λp:Wk×Nat=> !(p.2 == k)&&p.1.1 == u.1) ws.zipIdx;rw[cT]at t;have m:=(pi (rm:=u.1) (ws:=ws) (n:=0) (k:=k)).2 u (by lia) g O;walk_at"w";refine⟨dD (by rw[lM1];lia),_,O,?_,trivial⟩;rw[<- m];generalize List.filter (λp:Wk×Nat=> !(p.2 == k)&&p.1.1 == u.1) ws.zipIdx=zs;cases zs<;>simp
 rintro r S ⟨xs,rfl,f,rfl⟩;refine d4 (λr S=>S=[.lst xs,.lst []]++[.dct [(.inr "came",.int u.2.1),(.inr "chalk",.int (if cs.contains u.1 then 1 else 0)),(.inr "doors",.int row.length),(.inr "others",.int (if 1<crowd ws u.1 then 1 else 0))]]/\r=[Z (ec w),Z (.tup (fX a b c d)),Z (dM ws cs),Z (.int k),Z (.int u.1),Z (.int u.2.1),Z (.int u.2.2),Z (.ref 0),Z (.ref 2)]) ?_ ?_
 ·unfold dH;rw[dw];refine Jd (S':=[.lst xs,.lst []]) (w:=.int u.2.1) (x:=.int (if cs.contains u.1 then 1 else 0)) (y:=.int row.length) (z:=.int (if 1<crowd ws u.1 then 1 else 0)) O ?_ ?_ ?_ ?_
  ·simp only[mN,dn,dq,b1,m2,b2,mV,gC1,cK,oS1,l,yo,mC,l8]
  ·obtain⟨p,e,rfl⟩:W (dz (ec w) (.int u.1) [.lst xs]) λp=>p=(.tup (row.map pD),[.lst xs]):=yS hr O;simp only[mN,dn,dq,m2,b1,b2,mV,gC1,cK,oS1,e,gX,lM1]
  ·have F:zN (.ref 0) (.ref 1) [.lst xs,.lst []]=some (.bl (!xs.isEmpty),[.lst xs,.lst []]):=yt rfl rfl;have G:eZ dq [some (ec w),some (.tup (fX a b c d)),some (dM ws cs),some (.int k),some (.int u.1),some (.int u.2.1),some (.int u.2.2),some (.ref 0),none] [.lst xs]=some (.ref 1,[.lst xs,.lst []]):=by
    obtain⟨p,e,rfl⟩:W (eZ dq [some (ec w),some (.tup (fX a b c d)),some (dM ws cs),some (.int k),some (.int u.1),some (.int u.2.1),some (.int u.2.2),some (.ref 0),none] [.lst xs]) λp=>p=(.ref 1,[.lst xs,.lst []]):=by
     rw[t8];exact⟨_,O,NK,O⟩
    exact e
   simp only[mN,dn,dq,m2,b1,b2,mV,gC1,cK,oS1,G,F,l8,f];by_cases h1:1<crowd ws u.1
   ·rw[ak h1,ak (by rw[al];lia)]
   ·rw[aj h1,aj (by rw[al];lia)]
  ·walk_at"w"
 rintro r S ⟨rfl,rfl⟩;generalize A:[Ob.lst xs,.lst []]++[Ob.dct [(.inr "came",.int u.2.1),(.inr "chalk",.int (if cs.contains u.1 then 1 else 0)),(.inr "doors",.int row.length),(.inr "others",.int (if 1<crowd ws u.1 then 1 else 0))]]=S2;have E:S2[2]?=Z (Ob.dct [(.inr "came",.int u.2.1),(.inr "chalk",.int (if cs.contains u.1 then 1 else 0)),(.inr "doors",.int row.length),(.inr "others",.int (if 1<crowd ws u.1 then 1 else 0))]):=by rw[<- A];rfl
 walk_at"w";have B:([D.str "came",D.str "chalk",D.str "doors",D.str "others"]:List D)=[0,1,2,3].map tN:=rfl;rw[gh,B];refine kT (iJ a b c d u.2.1 (if cs.contains u.1 then 1 else 0) row.length (if 1<crowd ws u.1 then 1 else 0)) (λr=>∃x,r=[x,Z (.tup (fX a b c d)),Z (.ref 2)]) O _ _ ⟨_,O⟩ ?_ ?_
 ·rintro i hi r ⟨x,rfl⟩;refine⟨([Z (tN i),Z (.tup (fX a b c d)),Z (.ref 2)],S2),O,?_⟩;refine⟨(M,S2),O,O,?_⟩;exact⟨_,xX E hi O O O,O,O,_,O⟩
 ·rintro C _;walk_at"w";refine eh (xs:=[iJ a b c d u.2.1 (if cs.contains u.1 then 1 else 0) row.length (if 1<crowd ws u.1 then 1 else 0) 0,iJ a b c d u.2.1 (if cs.contains u.1 then 1 else 0) row.length (if 1<crowd ws u.1 then 1 else 0) 1,iJ a b c d u.2.1 (if cs.contains u.1 then 1 else 0) row.length (if 1<crowd ws u.1 then 1 else 0) 2,iJ a b c d u.2.1 (if cs.contains u.1 then 1 else 0) row.length (if 1<crowd ws u.1 then 1 else 0) 3]) (by rw[dL];rfl) ?_;exact⟨rf,q⟩
theorem Fu{F:List (TK×D)}{n:Nat}{S:dr}(h:S[n]?=Z (dO F)):zX S n=Z F:=by
 unfold zX;rw[h];cases F<;>rfl
structure RL (e:E4)(F:List (TK×D))(L:List Rw):Prop where
 inc:Inc e L
 ok:∀p∈L,gr p
 len:L.length<=4000
 lk:∀k:Ky,k.Ok->dZ F (k.tk e)=(L.find? λp=>decide (p.1.code e=k.code e)).map (·.2)
def owD(e:E4)(n:Nat):D:=.tup [tO e,.ref n]
theorem EQ{e:E4}{F:List (TK×D)}{L:List Rw}{k:Ky}{n:Nat}{S:dr}{Q:D×dr->Prop}(b:RL e F L)(hk:k.Ok)(f:S[n]?=Z (dO F))(q:Q (mT e L k,S)):W (dv 3 ib [owD e n,.int k.m,k.sg e] S) Q:=by
 refine jP O (by simp[owD,D.unds,D.und]) ?_;unfold ib;refine jf ?_;unfold nI;have d:m2 (b2 dz) (mV 0) (mC (D.int 1)) [Z (owD e n),Z (.int k.m),Z (k.sg e)] S=Z (.ref n,S):=rfl;have g:fits 2=M/\fits 3=M:=⟨M8,M7⟩;have c:d8 (dn (mV 1) (dn (mV 2) dq)) [Z (owD e n),Z (.int k.m),Z (k.sg e)] S=Z (k.d e,S):=by
  obtain⟨p,e,rfl⟩:W (d8 (dn (mV 1) (dn (mV 2) dq)) [some (owD e n),some (.int k.m),some (k.sg e)] S) λp=>p=(k.d e,S):=by
   rw[ql];exact⟨_,O,M8,O⟩
  exact e
 have hc:d8 (dn (mV 1) (dn (mC (D.str "leave")) (dn (mC D.non) dq))) [Z (owD e n),Z (.int k.m),Z (k.sg e)] S=Z (qz k,S):=by
  obtain⟨p,e,rfl⟩:W (d8 (dn (mV 1) (dn (mC (D.str "leave")) (dn (mC D.non) dq))) [some (owD e n),some (.int k.m),some (k.sg e)] S) λp=>p=(qz k,S):=by
   rw[ql];exact⟨_,O,M7,O⟩
  exact e
 have a:fI 3 [owD e n,.int k.m,k.sg e]=[Z (owD e n),Z (.int k.m),Z (k.sg e)]:=rfl;rw[a];refine W.of (x:=(.rt (mT e L k),[Z (owD e n),Z (.int k.m),Z (k.sg e)],S)) ?_ ?_
 ·simp only[ee,wR,d,c,hc,oS1,Fu f,k.keyT e];rw[oP1,b.lk k hk];rfl
 ·dsimp only;rw[yr O];exact q
def jd(ws:List Wk)(dd:Wk->D)(h:Str)(ch:List Nat):List Nat:=ch.filterMap λk=>(ws[k]?).bind λu=>if dh (dd u) == h then Z u.1 else Y
theorem vj{ws:List Wk}{dd:Wk->D}{h:Str}{ch:List Nat}{k:Nat}{u:Wk}(hk:ws[k]?=Z u):jd ws dd h (ch++[k])=jd ws dd h ch++(if dh (dd u) == h then[u.1]else[]):=by
 unfold jd;rw[List.filterMap_append]
 congr 1
 rw[aD,hk];dsimp only[oS1];cases(dh (dd u) == h)<;>rfl
theorem yp(ws:List Wk)(dd:Wk->D)(h:Str)(ch:List Nat):(jd ws dd h ch).length<=ch.length:=List.length_filterMap_le ..
theorem Cz {w:dB}{ws:List Wk}{cs ch:List Nat}{e:E4}{L:List Rw}{h:Str}(l:h≠"leave"){r:Nat}:(jd ws (ddW w ws cs e L) h ch).contains r=tz (eH w ws cs e L ch) h r:=by
 unfold jd tz eH;rw[bT,cw,aM,bU];constructor
 ·rintro⟨k,j,c⟩;obtain⟨u,d,b⟩:=oB1.mp c;split at b
  ·rename_i i;cases b;refine⟨(u,kQ w ws cs e L ch (u,k)),ci.mpr ⟨(u,k),?_,O⟩,?_⟩
   ·exact List.mem_iff_getElem?.mpr ⟨k,by rw[cV,d];simp⟩
   ·unfold kQ;dsimp only;rw[ak (cw.mpr j),i];simp
  ·cases b
 ·rintro⟨p,f,c⟩;obtain⟨⟨u,k⟩,g,rfl⟩:=ci.mp f;rw[bA1,beq_iff_eq]at c;obtain⟨b,a⟩:=c;unfold kQ at a;dsimp only at b a;split at a
  ·rename_i hc;refine⟨k,cw.mp hc,?_⟩;rw[kq g];dsimp only[oS1];rw[ak a,b]
  ·exfalso;rw[beq_iff_eq]at a;exact l a.symm
def v9(w:dB)(ws:List Wk)(dd:Wk->D)(ch:List Nat):List Wk:=ws.zipIdx.map λq=>if ch.contains q.2 then ga w q.1 (dd q.1)else q.1
theorem DA{w:dB}{ws:List Wk}{dd:Wk->D}:v9 w ws dd []=ws:=(ls (λu:Wk=>u) ws).trans (cH _)
theorem AB{w:dB}{ws:List Wk}{dd:Wk->D}{ch:List Nat}{k:Nat}{u:Wk}(hk:ws[k]?=Z u):(v9 w ws dd ch).set k (ga w u (dd u))=v9 w ws dd (ch++[k]):=by
 have a:=(gE1.mp hk).1;apply b4;intro j;unfold v9;by_cases z:k=j
 ·subst z;rw[aH (by rw[lM1,cT];exact a),gP1,cV,hk];simp
 ·rw[gS1 z,gP1,gP1,cV];cases ws[j]? with
  |none=>rfl
  |some v=>
   have:(ch++[k]).contains (0+j)=ch.contains (0+j):=by
    rw[bT,cw,cw,aF,cN];constructor
    ·rintro(h|h)
     ·exact h
     ·lia
    ·exact .inl
   simp only[oP1,this]
theorem DB{w:dB}{ws:List Wk}{dd:Wk->D}{ch:List Nat}:(v9 w ws dd ch).length=ws.length:=by unfold v9;rw[lM1,cT]
theorem ze{w:dB}{ws:List Wk}{cs:List Nat}{u:Wk}:ga w u (qz (ky w ws cs u))=u:=by
 obtain⟨a,b,c⟩:=u;rfl
theorem GH{w:dB}{ws:List Wk}{cs ch:List Nat}{e:E4}{L:List Rw}:v9 w ws (ddW w ws cs e L) ch=(eH w ws cs e L ch).map λp=>ga w p.1 p.2:=by
 unfold v9 eH;rw[bD];apply cD;rintro⟨u,k⟩ _;show _=ga w u (kQ w ws cs e L ch (u,k));unfold kQ;dsimp only;split
 ·rfl
 ·rw[ze]
def V3(S:dr)(a b c:List D):dr:=S++[.lst a,.lst b,.lst c]
theorem GK{S:dr}{a b c:List D}:(V3 S a b c)[S.length]?=Z (.lst a):=by unfold V3;rw[dL];rfl
theorem JV{S:dr}{a b c:List D}:(V3 S a b c)[S.length+1]?=Z (.lst b):=by unfold V3;rw[gE];rfl
theorem JU{S:dr}{a b c:List D}:(V3 S a b c)[S.length+2]?=Z (.lst c):=by unfold V3;rw[gE];rfl
theorem JS{S:dr}{a b c x:List D}:(V3 S a b c).set S.length (.lst x)=V3 S x b c:=by unfold V3;rw[cU _ _ (nR1 _),cP];rfl
theorem Ga{S:dr}{a b c x:List D}:(V3 S a b c).set (S.length+1) (.lst x)=V3 S a x c:=by unfold V3;rw[cU _ _ (by lia),show S.length+1-S.length=1 by lia];rfl
theorem F9{S:dr}{a b c x:List D}:(V3 S a b c).set (S.length+2) (.lst x)=V3 S a b x:=by unfold V3;rw[cU _ _ (by lia),show S.length+2-S.length=2 by lia];rfl
theorem JT{S:dr}{a b c:List D}{n:Nat}{o:Ob}(h:S[n]?=Z o):(V3 S a b c)[n]?=Z o:=by unfold V3;rw[gL1 (gE1.mp h).1];exact h
theorem Ca{S:dr}{a b c:List D}{x:Str}{h:Str}{rm i n:Nat}{xs:List Nat}{r:Ev}{T f:dr}{Q:Fl×Ev×dr->Prop}(d:r[12]? = some (some (.str x)))(j:r[8]? = some (some (.int (rm:Nat))))(hi:r[i]? = some (some (.ref n)))(hn:T[n]?=some (.lst (nmD xs)))(p:xs.length<=1000)(ht:f=T.set n (.lst (nmD (xs++if x == h then[rm]else[]))))(o:T.set n (.lst (nmD xs))=T)(q:Q (.nx,r,f)):
  W (fh (mB (m2 (b2 gEq) (mV 12) (mC (D.str h)))) (fm (ug (b2 kW) (mV i) (dn (mV 8) dq))) kH r T) Q:=by
 have e:mV 12 r T=Z (.str x,T):=by simp[mV,d]
 have k:mV 8 r T=Z (.int (rm:Nat),T):=by simp[mV,j]
 have l:mV i r T=Z (.ref n,T):=by simp[mV,hi]
 unfold fh;rw[dw];have g:mB (m2 (b2 gEq) (mV 12) (mC (D.str h))) r T=Z (x == h,T):=by
  simp only[mB,m2,b2,e,mC,oS1,yv]
 refine⟨_,g,?_⟩;dsimp only;cases hx:(x == h)with
 |true=>
  rw[ak O];rw[hx,ak O]at ht;unfold fm;rw[dw];refine kj ?_;refine⟨_,l,n,nmD xs,O,hn,?_⟩;have m:dn (mV 8) dq r T=Z ([.int (rm:Nat)],T):=by simp only[dn,k,dq,oS1]
  refine⟨_,m,?_⟩;refine(lr hn).mpr ⟨dD (by rw[fg];lia),?_⟩;dsimp only;have:nmD xs++[D.int (rm:Nat)]=nmD (xs++[rm]):=by simp[nmD]
  rw[this,<- ht];exact dA.mpr q
 |false=>
  rw[aj (by decide)];rw[hx,aj (by decide),aN,o]at ht;rw[<- ht];exact dA.mpr q
theorem ER {m:Nat}{w:dB}{ws:List Wk}{cs ch:List Nat}{e:E4}{F:List (TK×D)}{L:List Rw}{n k:Nat}{u:Wk}{S:dr}{chs:List Nat}{y8 y9 y10 y11 y12 y13:Option D}{Q:Fl×Ev×dr->Prop}(h:iC m w ws cs)(K:RL e F L)(hS:S[n]? = some (dO F))(hk:ws[k]? = some u)(au:ch.length<=100)
  (q:∀R U H z C s,Q (.nx,[Z (ec w),Z (owD e n),Z (dM ws cs),Z (.tup (nmD chs)),Z (.ref S.length),Z (.ref (S.length+1)),Z (.ref (S.length+2)),Z (.int (k:Nat)),R,U,H,z,C,s,Y],
   V3 S (eg (v9 w ws (ddW w ws cs e L) (ch++[k]))) (nmD (jd ws (ddW w ws cs e L) "mark" (ch++[k]))) (nmD (jd ws (ddW w ws cs e L) "wipe" (ch++[k]))))):
  W (jc [Z (ec w),Z (owD e n),Z (dM ws cs),Z (.tup (nmD chs)),Z (.ref S.length),Z (.ref (S.length+1)),Z (.ref (S.length+2)),Z (.int (k:Nat)),y8,y9,y10,y11,y12,y13,Y]
   (V3 S (eg (v9 w ws (ddW w ws cs e L) ch)) (nmD (jd ws (ddW w ws cs e L) "mark" ch)) (nmD (jd ws (ddW w ws cs e L) "wipe" ch)))) Q:=by
 have hf:=h.few;have i:=gM1 hk;obtain⟨f,l,_⟩:=h.wk u i;have hd:ik (ddW w ws cs e L u):=pT K.ok (h.ky u i);have e0:∀S,dz (dM ws cs) (.int 0) S=Z (.tup (eg ws),S):=λS=>rfl;have N:∀S,dz (owD e n) (.int 0) S=Z (tO e,S):=λS=>rfl;have eu:∀d,dz (.tup (eg ws)) (.int (k:Nat)) d=Z (eO u,d):=λd=>by
  obtain⟨p,e,h⟩:W (dz (.tup (eg ws)) (.int (k:Nat)) d) λp=>p=(eO u,d):=jT (by rw[eg,gP1,hk];rfl) O;rw[e,h]
 have y:=AB (w:=w) (dd:=ddW w ws cs e L) (ch:=ch) hk;have v:=vj (dd:=ddW w ws cs e L) (h:="mark") (ch:=ch) hk;have I:=vj (dd:=ddW w ws cs e L) (h:="wipe") (ch:=ch) hk;have l1:=yp ws (ddW w ws cs e L) "mark" ch;have l2:=yp ws (ddW w ws cs e L) "wipe" ch;have aq:=DB (w:=w) (ws:=ws) (dd:=ddW w ws cs e L) (ch:=ch);have G:=(gE1.mp hk).1;rw[v,I,<- y]at q;unfold jc;generalize hA:v9 w ws (ddW w ws cs e L) ch=A at *
 generalize hM:jd ws (ddW w ws cs e L) "mark" ch=ao at *
 generalize hP:jd ws (ddW w ws cs e L) "wipe" ch=P at *
 generalize hB:D.tup (nmD chs)=B at *
 refine d4 (λr V=>V=V3 S (eg A) (nmD ao) (nmD P)/\r=[Z (ec w),Z (owD e n),Z (dM ws cs),Z B,Z (.ref S.length),Z (.ref (S.length+1)),Z (.ref (S.length+2)),Z (.int (k:Nat)),Z (.int u.1),Z (.int u.2.1),Z (.int u.2.2),y11,y12,y13,Y]) ?_ ?_
 ·((try walk_at"w");repeat(simp only[e0,eu];try walk_at"w"))
  unfold eO;walk_at"w"
 rintro r V ⟨rfl,rfl⟩;have ex:=hd.eta.1;refine d4 (λr V=>V=V3 S (eg A) (nmD ao) (nmD P)/\r=[Z (ec w),Z (owD e n),Z (dM ws cs),Z B,Z (.ref S.length),Z (.ref (S.length+1)),Z (.ref (S.length+2)),Z (.int (k:Nat)),Z (.int u.1),Z (.int u.2.1),Z (.int u.2.2),Z (.int (dm (ddW w ws cs e L u):Nat)),Z (.str (dh (ddW w ws cs e L u))),Z (tD (dt (ddW w ws cs e L u))),Y]) ?_ ?_
 ·((try walk_at"w");repeat(simp only[N];try walk_at"w"))
  refine Ch hk l (by lia) ?_;rw[xO l];have ld:=λQ q=>EQ (k:=ky w ws cs u) (S:=V3 S (eg A) (nmD ao) (nmD P)) (Q:=Q) K (h.ky u i) (JT hS) q;walk_at"w";refine ld _ ?_;show W _ _;have x:mT e L (ky w ws cs u) = .tup [.int (dm (ddW w ws cs e L u):Nat),.str (dh (ddW w ws cs e L u)),tD (dt (ddW w ws cs e L u))]:=ex;rw[x];walk_at"w"
 rintro r V ⟨rfl,rfl⟩;have g:ga w u (ddW w ws cs e L u)=match dt (ddW w ws cs e L u) with
   |some t=>match f[t]? with
    |some p=>(p.1,p.2+1,dm (ddW w ws cs e L u))
    |none=>(u.1,u.2.1,dm (ddW w ws cs e L u))
   |none=>(u.1,u.2.1,dm (ddW w ws cs e L u)):=by
  unfold ga;rw[l];rfl
 generalize hX:ddW w ws cs e L u=X at *
 generalize hm:dm X=dmx at *
 generalize hh:dh X=dhx at *
 generalize ht:dt X=dtx at *
 refine d4 (λr V=>V=V3 S (eg A) (nmD (ao++if dhx == "mark" then[u.1]else[])) (nmD P)/\r=[Z (ec w),Z (owD e n),Z (dM ws cs),Z B,Z (.ref S.length),Z (.ref (S.length+1)),Z (.ref (S.length+2)),Z (.int (k:Nat)),Z (.int u.1),Z (.int u.2.1),Z (.int u.2.2),Z (.int (dmx:Nat)),Z (.str dhx),Z (tD dtx),Y]) ?_ ?_
 ·refine Ca (S:=S) (a:=[]) (b:=[]) (c:=[]) O O O JV (by lia) Ga.symm Ga ?_;exact⟨O,O,O⟩
 rintro r V ⟨rfl,rfl⟩;generalize hM2:(ao++if dhx == "mark" then[u.1]else[])=M2 at *
 refine d4 (λr V=>V=V3 S (eg A) (nmD M2) (nmD (P++if dhx == "wipe" then[u.1]else[]))/\r=[Z (ec w),Z (owD e n),Z (dM ws cs),Z B,Z (.ref S.length),Z (.ref (S.length+1)),Z (.ref (S.length+2)),Z (.int (k:Nat)),Z (.int u.1),Z (.int u.2.1),Z (.int u.2.2),Z (.int (dmx:Nat)),Z (.str dhx),Z (tD dtx),Y]) ?_ ?_
 ·refine Ca (S:=S) (a:=[]) (b:=[]) (c:=[]) O O O JU (by lia) F9.symm F9 ?_;exact⟨O,O,O⟩
 rintro r V ⟨rfl,rfl⟩;generalize hP2:(P++if dhx == "wipe" then[u.1]else[])=P2 at *
 have j:∀d,dz (ec w) (.int (u.1:Nat)) d=Z (.tup (f.map pD),d):=λd=>by
  obtain⟨p,e,h⟩:W (dz (ec w) (.int (u.1:Nat)) d) λp=>p=(.tup (f.map pD),d):=yS l O;rw[e,h]
 refine d4 (λr V=>V=V3 S (eg A) (nmD M2) (nmD P2) /\ ∃a b:Nat,ga w u X=(a,b,dmx)/\r=[Z (ec w),Z (owD e n),Z (dM ws cs),Z B,Z (.ref S.length),Z (.ref (S.length+1)),Z (.ref (S.length+2)),Z (.int (k:Nat)),Z (.int (a:Nat)),Z (.int (b:Nat)),Z (.int u.2.2),Z (.int (dmx:Nat)),Z (.str dhx),Z (tD dtx),Y]) ?_ ?_
 ·generalize V3 S (eg A) (nmD M2) (nmD P2)=V at *
  cases dtx with
  |none=>
   dsimp only at g;have o:ol (tD Y) .non V=Z (.bl J,V):=rfl
   ((try walk_at"w");repeat(simp only[o];try walk_at"w"))
   exact⟨_,_,g,O⟩
  |some t=>
   dsimp only at g;have o:∀d,ol (tD (Z t)) .non d=Z (.bl M,d):=λd=>rfl;have el:∀d,w1 (tD (Z t)) (.int (f.length:Nat)) d=Z (.bl (decide ((t:Int)<(f.length:Int))),d):=λd=>rfl;by_cases hl:t<f.length
   ·have am:=gG1 hl;rw [am] at g;have e2:∀ d,dz (.tup (f.map pD)) (tD (some t)) d=some (pD f[t],d):=fun d=>by
     obtain⟨p,e,h⟩:W (dz (.tup (f.map pD)) (.int (t:Nat)) d) λp=>p=(pD f[t],d):=jT (by rw[gP1,am];rfl) O;show dz (.tup (f.map pD)) (.int (t:Nat)) d=_;rw[e,h]
    generalize f[t]=p at *
    have wq:∀d,dz (pD p) (.int 0) d=Z (.int p.1,d):=λd=>rfl;have T:∀d,dz (pD p) (.int 1) d=Z (.int p.2,d):=λd=>rfl
    ((try walk_at"w");repeat(simp only[o,j,gX,lM1,el];try walk_at"w"))
    rw[ak (by rw[al];lia)]
    ((try walk_at"w");repeat(simp only[j,e2,wq,T];try walk_at"w"))
    rw[show(1:Int)+(p.2:Int)=((p.2+1:Nat):Int) by lia];exact⟨_,_,g,O⟩
   ·rw[b5 (by lia)]at g
    ((try walk_at"w");repeat(simp only[o,j,gX,lM1,el];try walk_at"w"))
    rw[aj (by rw[al];lia)];exact⟨_,_,g,O⟩
 rintro r V ⟨rfl,a,b,E,rfl⟩;walk_at"w";refine Jw GK (by rw[n3,aq];exact G) ?_;rw[JS];have e3:(eg A).set k (D.tup [.int (a:Nat),.int (b:Nat),.int (dmx:Nat)])=eg (A.set k (ga w u X)):=by
  rw[E];unfold eg;rw[List.map_set];rfl
 rw[e3];exact q _ _ _ _ _ _
theorem ye{m:Nat}{w:dB}{ws:List Wk}{cs ch:List Nat}{e:E4}{F:List (TK×D)}{L:List Rw}{n:Nat}{S:dr}{Q:D×dr->Prop}(h:iC m w ws cs)(rl:RL e F L)(hS:S[n]? = Z (dO F))(B:S.all (Ob.und S.length)=M)(K:∀ k∈ch,k<ws.length)(au:ch.length<=8)(q:Q (Gr m w (eH w ws cs e L ch) cs,S)):W (dv 4 fN [ec w,owD e n,dM ws cs,.tup (nmD ch)] S) Q:=by
 have G:D.unds 0 [ec w,owD e n,dM ws cs,.tup (nmD ch)]=J:=by
  have:(owD e n).und 0=J:=by simp[owD,D.und,D.unds]
  simp[D.unds,this]
 refine jP O G ?_;unfold fN
 refine jf ?_;unfold nJ
 have hf:=h.few;have am:=h.web.len;have hm8:=h.m8;have e0:∀S,dz (dM ws cs) (.int 0) S=Z (.tup (eg ws),S):=λS=>rfl;have R:∀S,dz (dM ws cs) (.int 1) S=Z (.tup (nmD cs),S):=λS=>rfl;refine d4 (λr V=>V=V3 S (eg (v9 w ws (ddW w ws cs e L) [])) (nmD (jd ws (ddW w ws cs e L) "mark" [])) (nmD (jd ws (ddW w ws cs e L) "wipe" []))/\r=[Z (ec w),Z (owD e n),Z (dM ws cs),Z (.tup (nmD ch)),Z (.ref S.length),Z (.ref (S.length+1)),Z (.ref (S.length+2)),Y,Y,Y,Y,Y,Y,Y,Y]) ?_ ?_
 ·rw[DA]
  ((try walk_at"w");repeat(simp only[e0];try walk_at"w"))
  simp[nT,dQ,V3,jd,nmD];exact dA.mpr ⟨by simp,O,by simp⟩
 rintro r V ⟨rfl,rfl⟩;refine d4 (λr V=>V=V3 S (eg (v9 w ws (ddW w ws cs e L) ch)) (nmD (jd ws (ddW w ws cs e L) "mark" ch)) (nmD (jd ws (ddW w ws cs e L) "wipe" ch)) /\ ∃t p s o j l g,r=[Z (ec w),Z (owD e n),Z (dM ws cs),Z (.tup (nmD ch)),Z (.ref S.length),Z (.ref (S.length+1)),Z (.ref (S.length+2)),t,p,s,o,j,l,g,Y]) ?_ ?_
 ·walk_at"w";rw[gh];refine fA (λi r V=>V=V3 S (eg (v9 w ws (ddW w ws cs e L) (ch.take i))) (nmD (jd ws (ddW w ws cs e L) "mark" (ch.take i))) (nmD (jd ws (ddW w ws cs e L) "wipe" (ch.take i))) /\ ∃t p s o j l g,r=[Z (ec w),Z (owD e n),Z (dM ws cs),Z (.tup (nmD ch)),Z (.ref S.length),Z (.ref (S.length+1)),Z (.ref (S.length+2)),t,p,s,o,j,l,g,Y]) (nmD ch) 0 _ _ ⟨O,_,_,_,_,_,_,_,O⟩ (λ_ _ _ _=>rfl) ?_ ?_
  ·rintro i d v r V ⟨rfl,t,p,s,o,j,l,g,rfl⟩;unfold nmD at v;rw[gP1]at v;obtain⟨k,N,rfl⟩:=oM1.mp v;have E:=gM1 N;obtain⟨u,G⟩:∃u,ws[k]?=some u:=⟨_,gG1 (K k E)⟩;have aq:ch.take (i+1)=ch.take i++[k]:=by rw[cj,N];rfl
   rw[bQ]at *
   rw[aq];walk_at"w";refine ER h rl hS G (by rw[aR];lia) λp s o j l g=>?_;exact⟨O,O,_,_,_,_,_,_,_,O⟩
  ·rintro r V ⟨rfl,t,p,s,o,j,l,g,rfl⟩;rw[fg,bQ,b0];exact⟨O,O,_,_,_,_,_,_,_,O⟩
 rintro r V ⟨rfl,t,p,s,o,j,l,g,rfl⟩;have C:=λr=>Cz (w:=w) (ws:=ws) (cs:=cs) (ch:=ch) (e:=e) (L:=L) (h:="mark") (by decide) (r:=r);have H:=λr=>Cz (w:=w) (ws:=ws) (cs:=cs) (ch:=ch) (e:=e) (L:=L) (h:="wipe") (by decide) (r:=r);have I:=GH (w:=w) (ws:=ws) (cs:=cs) (ch:=ch) (e:=e) (L:=L);generalize jd ws (ddW w ws cs e L) "mark" ch=ao at *
 generalize jd ws (ddW w ws cs e L) "wipe" ch=P at *
 generalize v9 w ws (ddW w ws cs e L) ch=A at *
 have gm:∀x:Nat,fZ (.int x) (.ref (S.length+1)) (V3 S (eg A) (nmD ao) (nmD P))=Z (.bl (tz (eH w ws cs e L ch) "mark" x),V3 S (eg A) (nmD ao) (nmD P)):=λx=>by rw[Ct JV,C]
 have wq:∀x:Nat,gY (.int x) (.ref (S.length+2)) (V3 S (eg A) (nmD ao) (nmD P))=Z (.bl (!tz (eH w ws cs e L ch) "wipe" x),V3 S (eg A) (nmD ao) (nmD P)):=λx=>by rw[rA JU,H]
 refine d4 (λr V=>V=V3 S (eg A) (nmD ao) (nmD P)++[.lst (nmD (iS m (eH w ws cs e L ch) cs))] /\ ∃t p s o j l g,r=[Z (ec w),Z (owD e n),Z (dM ws cs),Z (.tup (nmD ch)),Z (.ref S.length),Z (.ref (S.length+1)),Z (.ref (S.length+2)),t,p,s,o,j,l,g,Z (.ref (V3 S (eg A) (nmD ao) (nmD P)).length)]) ?_ ?_
 ·((try walk_at"w");repeat(simp only[oi];try walk_at"w"))
  rw[jN,Int.toNat_natCast,am];refine⟨gF (by lia),?_⟩;refine iB (f:=λx:Nat=>D.int x) (λx:Nat=>tz (eH w ws cs e L ch) "mark" x||(cs.contains x && !tz (eH w ws cs e L ch) "wipe" x)) (λx:Nat=>D.int x) (λr=>∃x,r=[x,Z (.ref (S.length+1)),Z (dM ws cs),Z (.ref (S.length+2))]) O (af m) _ ⟨_,O⟩ ?_ λr' _=>?_
  ·rintro x hx r ⟨y,rfl⟩
   ((try walk_at"w");repeat(simp only[gm,R,yo,wq];try walk_at"w"))
   cases tz (eH w ws cs e L ch) "mark" x with
   |true=>exact⟨O,⟨_,O⟩,λ_=>trivial⟩
   |false=>
    cases cs.contains x with
    |true=>exact⟨O,⟨_,O⟩,λ_=>trivial⟩
    |false=>exact⟨O,⟨_,O⟩,λ_=>trivial⟩
  ·have T:=cQ (λx:Nat=>tz (eH w ws cs e L ch) "mark" x||(cs.contains x && !tz (eH w ws cs e L ch) "wipe" x)) (af m);rw[cW]at T;walk_at"w";exact⟨dD (by rw[lM1];lia),O,_,_,_,_,_,_,_,O⟩
 rintro r V ⟨rfl,t,p,s,o,j,l,g,rfl⟩;generalize z:V3 S (eg A) (nmD ao) (nmD P)++[.lst (nmD (iS m (eH w ws cs e L ch) cs))]=V;have X:V[S.length]?=Z (.lst (eg A)):=by rw[<- z,gL1 (gE1.mp (GK (S:=S) (a:=eg A) (b:=nmD ao) (c:=nmD P))).1];exact GK
 have U:V[(V3 S (eg A) (nmD ao) (nmD P)).length]?=Z (.lst (nmD (iS m (eH w ws cs e L ch) cs))):=by rw[<- z,cO]
 walk_at"w";refine eh X ?_;refine eh U ?_;have e2:D.tup [.tup (eg A),.tup (nmD (iS m (eH w ws cs e L ch) cs))]=Gr m w (eH w ws cs e L ch) cs:=by rw[I];rfl
 rw[e2,wX oj B (by rw[<- z];unfold V3;rw[bf];exact bE _ _)];exact q
def mH:List E4:=[(J,J,J,J),(M,J,J,J),(J,J,M,J),(J,M,J,J),(J,J,J,M),(J,M,J,M),(M,J,J,J)]
def y1(b:Bool)(n:Nat):List Nat:=if b then af (n+1)else[0]
def KS(e:E4)(m:Nat):List Ky:=(y1 e.1 4).flatMap λx=>(y1 e.2.1 1).flatMap λy=>(y1 e.2.2.1 4).flatMap λz=>(y1 e.2.2.2 1).map λw=>⟨m,x,y,z,w⟩
def L8:Ob->Bool
 | .lst xs=>D.unds 0 xs
 |_=>J
theorem yk{o:Ob}(h:L8 o=M):o.und 0=M /\ ∀n,o.sh n=o:=by
 unfold L8 at h;split at h
 ·rename_i xs;exact⟨by rw[Ob.und];exact h,λn=>by rw[Ob.sh,i4 h]⟩
 ·cases h
def Ly(e:E4):Bool:=match ge [tO e] []with
 |some (.ref j,G)=>(match G[j]? with
  |some (.lst xs)=>D.sames xs ((KS e 0).map λk=>k.sg e)
  |_=>J)&&G.all L8
 |_=>J
theorem Fy:∀e∈mH,Ly e=M:=by
 intro e a;simp only[mH,aE,bO,or_false]at a;rcases a with rfl|rfl|rfl|rfl|rfl|rfl|rfl<;>kernel_rfl!
theorem Kk{e:E4}(m a:Nat):(KS e m).map (λk=>k.sg e)=(KS e a).map λk=>k.sg e:=by
 unfold KS;simp only[List.map_flatMap,bD];rfl
theorem A6{e:E4}{S:dr}{Q:D×dr->Prop}(he:e∈mH)(q:∀j G,(∀o∈G,o.und 0=M)->(S++G)[S.length+j]?=Z (.lst ((KS e 0).map λk=>k.sg e))->Q (.ref (S.length+j),S++G)):W (dv 1 ge [tO e] S) Q:=by
 have hc:=Fy e he;unfold Ly at hc;split at hc
 ·rename_i j G f;rw[bA1]at hc;obtain⟨h1,h2⟩:=hc;split at h1
  ·rename_i xs c;have ex:=D.sames_eq h1;subst ex;have b:∀o∈G,L8 o=M:=bH.mp h2;refine⟨_,kf f O (by rw[D.unds,jJ];rfl) (by simp[D.und]),?_⟩;have d:G.map (Ob.sh S.length)=G:=(cD λo a=>(yk (b o a)).2 _).trans (cH _);rw[d];exact q j G (λo a=>(yk (b o a)).1) (by rw[gE];exact c)
  ·cases h1
 ·cases hc
theorem yU{e:E4}{m:Nat}(hm:m<4000):∀k∈KS e m,k.Ok/\k.m=m:=by
 intro k c;unfold KS at c;obtain⟨x,g,c⟩:=cX.mp c;obtain⟨y,i,c⟩:=cX.mp c;obtain⟨z,h,c⟩:=cX.mp c;obtain⟨w,l,rfl⟩:=ci.mp c;have f:∀b n (a:Nat),a∈y1 b n->a<=n:=λb n a d=>by
  unfold y1 at d;split at d
  ·have:=aB.mp d;lia
  ·rw[cN.mp d];exact br _
 have h1:=f _ _ _ g;have h2:=f _ _ _ i;have j:=f _ _ _ h;have o:=f _ _ _ l;exact⟨⟨hm,h1,by show y<=4;lia,j,by show w<=4;lia⟩,O⟩
theorem F2:∀e∈mH,((KS e 0).map λk=>qC e.bs k.xs).Pairwise (· < ·):=by decide+kernel
theorem JI:∀e∈mH,(KS e 0).length<=25:=by decide+kernel
theorem GB(e:E4)(m:Nat):KS e m=(KS e 0).map λk=>{k with m:=m}:=by
 unfold KS;simp only[List.map_flatMap,bD];rfl
theorem JJ{e:E4}(he:e∈mH){m:Nat}:(KS e m).Pairwise λa b=>a.code e<b.code e:=by
 have h:=cJ.mp (F2 e he);rw[GB,cJ];refine h.imp ?_;intro a b c;unfold Ky.code;exact Nat.add_lt_add_left c _
def nW(e:E4)(n:Nat):List Ky:=(af n).flatMap (KS e)
theorem Di{e:E4}(he:e∈mH){n:Nat}(hn:n<=4000):(nW e n).Pairwise λa b=>a.code e<b.code e:=by
 unfold nW;rw[List.pairwise_flatMap];refine⟨λm _=>JJ he,?_⟩;refine List.Pairwise.imp_of_mem ?_ cf;intro m i f c h a g b d;have h1:=aB.mp f;have h2:=aB.mp c;obtain⟨a1,a2⟩:=yU (e:=e) (m:=m) (by lia) a g;obtain⟨b1,b2⟩:=yU (e:=e) (m:=i) (by lia) b d;have c1:=jv a1 e;have c2:=jv b1 e;unfold Ky.code;rw[a2,b2];lia
theorem fG{V G:dr}{i:Nat}{o:Ob}(h:V[i]?=Z o):(V++G)[i]?=Z o:=by
 rw[gL1 (gE1.mp h).1];exact h
theorem B5{c n k:Nat}{U V:dr}{xs:List D}{Q:D×dr->Prop}(s:HS c U V)(h:V[n]?=Z (.lst xs))(hk:k<xs.length)(q:∀x,x∈xs->Q (x,V)):W (dz (.ref n) (.int (k:Nat)) V) Q:=
 nK h (gG1 hk) (q _ (bV hk))
theorem Km{c i e k l:Nat}{U V:dr}{xs:List D}{o:Ob}{E sg:D}{y8 y9:Option D}{Q:Fl×Ev×dr->Prop}(s:HS c U V)(hc:c<=2^45)(hk:V[e]? = some (.lst xs))(am:D.unds 0 xs=true)(X:xs.length<=1000)(B:U.length<=e)(hs:V[k]? = some o)(g:0<k)(hjk:k≠e)(m0:0<l)(m3:l<=3)(H:sg.und 0=true)(R:∀a C F,HS (c+4) U a->a[k]?=some o->a[e]?=some (.lst xs)->Q (.nx,[some (.ref 0),some (.bl true),some E,some (.int (l:Nat)),some (.ref e),some (.int (i:Nat)),some sg,C,F],a))(T:∀a C F x,ik x->HS (c+4) U a->a[k]?=some o->a[e]?=some (.lst (xs++[.tup [.tup [.int (i:Nat),sg],x]]))->Q (.nx,[some (.ref 0),some (.bl true),some E,some (.int (l:Nat)),some (.ref e),some (.int (i:Nat)),some sg,C,F],a)):
  W (gO [Z (.ref 0),Z (.bl M),Z E,Z (.int (l:Nat)),Z (.ref e),Z (.int (i:Nat)),Z sg,y8,y9] V) Q:=by
 have hp:=s.pos;unfold gO;refine d4 (λr a=>∃q,q∈rW/\HS (c+1) U a/\a[k]?=Z o/\a[e]?=Z (.lst xs)/\r=[Z (.ref 0),Z (.bl M),Z E,Z (.int (l:Nat)),Z (.ref e),Z (.int (i:Nat)),Z sg,Z q,y9]) ?_ ?_
 ·walk_at"w";refine draw_W (s.app1 (o:=.lst [.str "leave",.str "leave",.str "mark",.str "wipe"]) rfl) (by lia) (by lia) (by lia) fun d wq t j l1 q=>?_;have em:∀ S,kb (.int (d:Nat)) (.int 1) S=some (.int (d:Nat),S):=fun S=>by
   simp only[kb];rw[ak (u5 (by decide) (by decide)),Int.mul_one]
  have ei:∀S,l8 (.bl M) S=Z (.int 1,S):=λS=>rfl
  ((try walk_at"w");repeat(simp only[ei,em];try walk_at"w"))
  refine B5 (xs:=[.str "leave",.str "leave",.str "mark",.str "wipe"]) t (j.at (by rw[dL];rfl) (by have:=s.len;lia)) (by show d<4;lia) λx h=>?_;refine⟨x,?_,t,j.at (fG hs) g,j.at (fG hk) (by have:=s.len;lia),O⟩;simp only[aE,bO,or_false]at h;rcases h with rfl|rfl|rfl|rfl<;>simp[rW]
 rintro r wq ⟨q,G,t,I,L,rfl⟩;refine d4 (λr a=>∃x,ik x/\HS (c+3) U a/\a[k]?=Z o/\a[e]?=Z (.lst xs)/\r=[Z (.ref 0),Z (.bl M),Z E,Z (.int (l:Nat)),Z (.ref e),Z (.int (i:Nat)),Z sg,Z q,Z x]) ?_ ?_
 ·walk_at"w";refine draw_W t (by lia) (by lia) (by lia) λd P w v l2 ao=>?_;have p:=v.at I g;have m:=v.at L (by have:=t.len;lia);walk_at"w";refine draw_W (w.app1 (o:=.lst [.non,.int 0,.int 1,.int 0,.int 2,.int 1,.int 3,.int 0]) O) (by lia) (by lia) (by lia) λau V3 z b N aq=>?_;walk_at"w";refine B5 (xs:=[.non,.int 0,.int 1,.int 0,.int 2,.int 1,.int 3,.int 0]) z (b.at (by rw[dL];rfl) (by have:=w.len;lia)) (by show au<8;lia) λx h=>?_;refine⟨_,⟨d,q,x,O,by lia,G,?_⟩,z,b.at (fG p) g,b.at (fG m) (by have:=s.len;lia),O⟩;simp only[aE,bO,or_false]at h;rcases h with rfl|rfl|rfl|rfl|rfl|rfl|rfl|rfl<;>simp[uw]
 rintro r P ⟨x,h,w,p,m,rfl⟩;walk_at"w";refine draw_W w (by lia) (by lia) (by lia) λd V3 z b N ao=>?_;have A:=b.at p g;have f:=b.at m (by have:=w.len;lia);walk_at"w";split
 ·refine kj ?_;walk_at"w";refine⟨e,xs,O,f,?_⟩;refine(lr f).mpr ⟨dD (by lia),?_⟩;have K:=(gE1.mp f).1;refine T _ _ _ x h (z.set B ?_) (by rw[gS1 (by lia)];exact A) (by rw[aH K]);rw[Ob.und];refine jg.mpr λy u=>?_;rcases aF.mp u with u|u
  ·exact e9 (jg.mp am y u)
  ·rw[cN.mp u];have h1:=e9 (n:=V3.length) H;have h2:=e9 (n:=V3.length) h.und;simp[D.und,D.unds,h1,h2]
 ·exact R _ _ _ z A f
inductive MI (c:Nat)(U:dr)(e:E4)(mo kr b:Nat)(ks:List Ky)(r:Ev)(V:dr):Prop where
 |mk (L:List Rw) (y6 y7 y8 y9:Option D) (h1:HS c U V) (h2:V[kr]?=some (.lst (L.map (eV e)))) (h3:(L.map (·.1)).Sublist ks) (h4:∀p∈L,ik p.2) (h5:L.length<=b)
  (h6:r=[some (.ref 0),some (.bl true),some (tO e),some (.int (mo:Nat)),some (.ref kr),y6,y7,y8,y9]):MI c U e mo kr b ks r V
theorem DS{e:E4}{L:List Rw}{n:Nat}(hn:n<=4000)(d:(L.map (·.1)).Sublist (nW e n))(c:∀p∈L,ik p.2):∀p∈L,gr p:=λp a=>by
 have:=d.subset (ci.mpr ⟨p,a,O⟩);obtain⟨m,b,f⟩:=cX.mp this;exact⟨(yU (m:=m) (by have:=aB.mp b;lia) _ f).1,c p a⟩
theorem Aj(e:E4)(n:Nat):nW e (n+1)=nW e n++KS e n:=by
 unfold nW;rw[List.range_succ,List.flatMap_append];simp
theorem oX{e:E4}{p:Rw}(h:ik p.2):(eV e p).und 0=M:=by
 simp[eV,D.und,D.unds,Ky.und p.1 e 0,h.und]
theorem Im{c i f g:Nat}{U V:dr}{e:E4}{r:Ev}(he:e∈mH)(hc:c<=2^44)(hi:i<f)(T:f<=3)(E:U.length<=g)(h:MI c U e f g (25*i) (nW e i) r V)(hr:r[5]? = some (some (.int (i:Nat)))):
  W (gM r V) λp=>p.1 = .nx/\MI (c+100) U e f g (25*(i+1)) (nW e (i+1)) p.2.1 p.2.2:=by
 obtain⟨L,F,y7,y8,y9,h1,h2,P,S,h5,rfl⟩:=h;rw[show([Z (.ref 0),Z (.bl M),Z (tO e),Z (.int (f:Nat)),Z (.ref g),F,y7,y8,y9]:Ev)[5]?=Z F from rfl]at hr;cases hr;have b:=h1.pos;have n:=JI e he;have N:(KS e i).length<=25:=by rw[GB,lM1];exact n
 unfold gM;walk_at"w";refine A6 he λj G hG C=>?_;have X:=(gE1.mp h2).1;refine eh C ?_;dsimp only;rw[Kk 0 i];rw[Kk 0 i]at C;refine fA (λt r s=>s[V.length+j]?=Z (.lst ((KS e i).map λk=>k.sg e))/\t<=25/\MI (c+4*t) U e f g (25*i+t) (nW e i++(KS e i).take t) r s/\r[5]?=Z (Z (.int (i:Nat)))) _ 0 _ _ ⟨C,by lia,⟨L,_,_,_,_,h1.app λo ho=>gB (br _) (hG o ho),fG h2,by simpa using P,S,by lia,O⟩,O⟩ ?_ ?_ ?_
 ·rintro t r s ⟨a,_⟩;exact fS a
 ·rintro t d ao r s ⟨a,R,⟨v,w,K,H,I,y,A,u,l,wq,rfl⟩,hr⟩;rw[show([Z (.ref 0),Z (.bl M),Z (tO e),Z (.int (f:Nat)),Z (.ref g),w,K,H,I]:Ev)[5]?=Z w from rfl]at hr;cases hr;rw[gP1]at ao;obtain⟨k,z,rfl⟩:=oM1.mp ao;have am:=(gE1.mp z).1;have B:k.m=i:=(yU (e:=e) (m:=i) (by lia) k (gM1 z)).2;have q:(KS e i).take (t+1)=(KS e i).take t++[k]:=by rw[cj,z];rfl
  rw[bQ]at *
  walk_at"w";refine Km y (by lia) A (Mi.dW λp b=>oX (l p b)) (by rw[lM1];lia) E a (by lia) (by lia) (by lia) T (k.sgu e 0) (λau aq Q b1 b2 b3=>?_) λau aq Q x hx b1 b2 b3=>?_
  ·refine⟨O,b2,by lia,⟨v,_,_,_,_,b1.more (by lia),b3,?_,l,by lia,O⟩,O⟩;rw[q,<- bf];exact u.trans (List.sublist_append_left _ _)
  ·have er:D.tup [.tup [.int (i:Nat),k.sg e],x]=eV e (k,x):=by rw[<- B];rfl
   rw[er]at b3;refine⟨O,b2,by lia,⟨v++[(k,x)],_,_,_,_,b1.more (by lia),by rw[cg];exact b3,?_,λp b=>?_,by rw[lA1];simp;lia,O⟩,O⟩
   ·rw[q,<- bf,cg];exact u.append (List.Sublist.refl _)
   ·rcases aF.mp b with b|b
    ·exact l p b
    ·rw[cN.mp b];exact hx
 ·rintro r s ⟨a,R,⟨v,w,K,H,I,y,A,u,l,wq,rfl⟩,hr⟩;rw[lM1,bQ]at *
  rw[b0,<- Aj]at u;exact⟨O,v,_,_,_,_,y.more (by lia),A,u,l,by lia,O⟩
theorem zv:[D.tup [],.tup [.str "came"],.tup [.str "doors"],.tup [.str "chalk"],.tup [.str "others"],.tup [.str "chalk",.str "others"],.tup [.str "came"]]=mH.map tO:=rfl
theorem zz{c:Nat}{B U:dr}{Q:D×dr->Prop}(s:HS c B U)(hc:c<=2^40)(q:∀e L m,Inc e L->(∀p∈L,gr p)->L.length<=75->HS (c+400) B m->HS (c+400) U m->m.length=U.length->Q (mcD e L,m)):W (dv 2 fM [.ref 0,.bl M] U) Q:=by
 refine pY (c':=c+400) O O s ?_;have G:=s.pos;have T:=s.len;unfold fM;refine jf ?_;unfold kg;refine d4 (λr V=>∃e,e∈mH/\HS (c+1) U V/\r=[Z (.ref 0),Z (.bl M),Z (tO e),Y,Y,Y,Y,Y,Y]) ?_ ?_
 ·have N:D.unds 0 (mH.map tO)=M:=Mi.dW λe _=>jJ e;walk_at"w";rw[zv];have X:=s.here.app1 (o:=.lst (mH.map tO)) (by rw[Ob.und];exact N);refine KF X (by lia) (xs:=mH.map tO) (by rw[cO]) (by lia) (by decide) (by decide) (λx E=>by obtain⟨e,_,rfl⟩:=ci.mp E;exact jJ e) λx K E w ao l3=>?_;obtain⟨e,y,rfl⟩:=ci.mp E;exact⟨e,y,w,O⟩
 rintro r V ⟨e,y,w,rfl⟩;have I:=w.len;refine d4 (λr V=>∃g t,0<g/\g<=3/\U.length<=t/\MI (c+2) U e g t (25*0) (nW e 0) r V) ?_ ?_
 ·walk_at"w";refine draw_W w (by lia) (by lia) (by lia) λd V3 au P l4 v=>?_;walk_at"w";exact⟨d+1,V3.length,by lia,by lia,by lia,[],Y,Y,Y,Y,au.app1 O,by rw[cO];rfl,List.Sublist.refl _,λp G=>(by cases G),by simp,by simp[Int.add_comm]⟩
 rintro r V ⟨g,t,m0,R,F,j⟩;refine d4 (λr V=>MI (c+2+100*g) U e g t (25*g) (nW e g) r V) ?_ ?_
 ·have aq:r[3]? = some (some (.int (g:Nat))):=by
   obtain⟨_,_,_,_,_,_,_,_,_,_,rfl⟩:=j;rfl
  unfold fD;rw[dw,nL];refine W.of (x:=([.int (g:Nat)],V)) (by simp only[dn,dq,mV,aq,oS1]) ?_;unfold Bf;dsimp only;rw[Int.toNat_natCast];refine⟨gF (by lia),?_⟩;refine fA (λi r V=>i<=g/\MI (c+2+100*i) U e g t (25*i) (nW e i) r V) _ 0 _ _ ⟨br _,j⟩ (λ_ _ _ _=>rfl) ?_ ?_
  ·rintro i d v r V ⟨hi,j⟩;have k:=(gE1.mp v).1;rw [fL] at k;have C:d = .int (i:Nat):=by
    rw[jN,gP1,cr k]at v;exact(Option.some.inj v).symm
   subst C;rw[bQ]at *
   obtain⟨L,am,y7,y8,y9,h1,h2,u,z,H,rfl⟩:=j;walk_at"w";refine(Im y (by lia) k R F ⟨L,_,_,_,_,h1,h2,u,z,H,O⟩ O).mono ?_;rintro⟨f,r2,K⟩ ⟨wq,A⟩;exact⟨wq,by lia,A⟩
  ·rintro r V ⟨hi,j⟩;rw[fL,bQ]at j;exact⟨O,j⟩
 rintro r V ⟨L,am,y7,y8,y9,h1,h2,u,z,H,rfl⟩;have ok:=DS (by lia) u z;have inc:Inc e L:=by
  have:=(Di y (n:=g) (by lia)).sublist u;exact List.Pairwise.of_map (S:=λa b:Ky=>a.code e<b.code e) (·.1) (λa b h=>h) this
 walk_at"w";refine eh h2 ?_;exact⟨h1.more (by lia),kE ok,λm a b l=>q e L m inc ok (by lia) a b l⟩
def rwF(e:E4)(L:List Rw):List (TK×D):=L.map λp=>(p.1.tk e,p.2)
theorem Bb{e:E4}{L:List Rw}(ok:∀p∈L,gr p){k:Ky}(hk:k.Ok):dZ (rwF e L) (k.tk e)=(L.find? λp=>decide (p.1.code e=k.code e)).map (·.2):=by
 unfold rwF
 induction L with
 |nil=>rfl
 |cons p L ih=>
  have ih:=ih λq b=>ok q (mC1 _ b);rw[mP1,fU,bm];have a:=xJ (e:=e) (ok p mS1).1 hk;by_cases z:p.1.code e=k.code e
  ·rw[ak (a.mpr z),ah z];rfl
  ·rw[aj (λy=>z (a.mp y)),ai z];exact ih
theorem G5{e:E4}{L:List Rw}(inc:Inc e L)(ok:∀p∈L,gr p):((rwF e L).map (·.1)).Nodup:=by
 unfold rwF;rw[bD];refine cJ.mpr (List.Pairwise.imp_of_mem ?_ inc);intro a b c f d z;have:=(xJ (e:=e) (ok a c).1 (ok b f).1).mp z;lia
theorem yx:∀(ps acc:List (TK×D)),((acc++ps).map (·.1)).Nodup->ps.foldl (λF p=>eY F p.1 p.2) acc=acc++ps
 |[],acc,_=>by simp
 |p::ps,acc,nd=>by
  have e:eY acc p.1 p.2=acc++[p]:=by
   unfold eY;rw[aj];intro y;obtain⟨q,a,e⟩:=bU.mp y;rw[cg,bG]at nd;exact nd.2.2 _ (ci.mpr ⟨q,a,O⟩) _ (ci.mpr ⟨p,mS1,O⟩) (of_decide_eq_true e)
  rw[bg,e,yx ps (acc++[p]) (by rw[bf];exact nd),bf];rfl
theorem pd{e:E4}:∀L:List Rw,jY (L.map (eV e))=Z (rwF e L)
 |[]=>rfl
 |p::L=>by
  rw[mP1,jY,pd L];have:=p.1.keyT e;simp only[eV,xY,this,oP1,oS1];rfl
theorem Jf(F:List (TK×D)):NM F=dO F:=by cases F<;>rfl
theorem Lw{F:List (TK×D)}{n:Nat}(h:∀p∈F,p.2.und 0=M):(dO F).sh n=dO F:=by
 have e:(F.map λp=>(p.1,p.2.sh n))=F:=(cD (g:=id) λp b=>by rw[wu (h p b)];rfl).trans (cH _);cases F with
 |nil=>rfl
 |cons a F=>show Ob.dcT _=Ob.dcT _;rw[e]
theorem yC{F:List (TK×D)}{n:Nat}(h:∀p∈F,p.2.und 0=M):(dO F).und n=M:=by
 cases F with
 |nil=>rfl
 |cons a F=>show Ob.und n (.dcT _)=M;rw[Ob.und];exact Mi.dW λp b=>e9 (h p b)
theorem Gf{e:E4}{L:List Rw}(inc:Inc e L)(ok:∀p∈L,gr p)(a:L.length<=4000):RL e (rwF e L) L:=⟨inc,ok,a,λk b=>Bb ok b⟩
theorem Gj{e:E4}{L:List Rw}{S:dr}{Q:D×dr->Prop}(inc:Inc e L)(ok:∀p∈L,gr p)(o:L.length<=4000)(q:Q (owD e (S.length+1),S++[.lst (L.map (eV e)),dO (rwF e L)])):W (dv 1 gj [mcD e L] S) Q:=by
 have g:D.unds 0 (L.map (eV e))=M:=Mi.dW λp a=>oX (ok p a).2;have d:∀p∈rwF e L,p.2.und 0=M:=λp a=>by
  obtain⟨x,f,rfl⟩:=ci.mp a;exact(ok x f).2.und
 have b:W (gj [mcD e L] []) λp=>p=(owD e 1,[.lst (L.map (eV e)),dO (rwF e L)]):=by
  unfold gj;refine jf ?_;unfold qh;have l:∀S,dz (mcD e L) (.int 0) S=Z (tO e,S):=λS=>rfl;have i:∀S,dz (mcD e L) (.int 1) S=Z (.tup (L.map (eV e)),S):=λS=>rfl;have h:nT (.tup (L.map (eV e))) []=Z (.ref 0,[.lst (L.map (eV e))]):=by simp[nT,dQ]
  have c:pL (.ref 0) [.lst (L.map (eV e))]=Z (.ref 1,[.lst (L.map (eV e)),dO (rwF e L)]):=by
   unfold pL;rw[fR (S:=[.lst (L.map (eV e))]) (n:=0) O];dsimp only;rw[pd,oS1,lM1,ak (by lia)];have:nw (rwF e L)=rwF e L:=by
    unfold nw;rw[yx _ _ (by rw[bi];exact G5 inc ok),bi]
   rw[this,Jf];rfl
  ((try walk_at"w");repeat(simp only[l,i,h,c];try walk_at"w"))
  rfl
 obtain⟨p,j,rfl⟩:=b;refine⟨_,kf j O (by rw[D.unds,kE ok];rfl) (by simp[owD,D.und,D.unds]),?_⟩;have k:(owD e 1).sh S.length=owD e (S.length+1):=by simp[owD,D.sh,D.shs,wu (jJ e)]
 have m:[Ob.lst (L.map (eV e)),dO (rwF e L)].map (Ob.sh S.length)=[Ob.lst (L.map (eV e)),dO (rwF e L)]:=by
  rw[mP1,mP1,bj,Ob.sh,i4 g,Lw d]
 rw[k,m];exact q
theorem Jh(xs:List D)(k:Nat):Mi.gn xs Y (Z (k:Int))=xs.take k:=by
 unfold Mi.gn;rw[HT.uC,HT.oe,List.drop_zero,Nat.sub_zero];by_cases h:k<=xs.length
 ·rw[Nat.min_eq_left h]
 ·rw[Nat.min_eq_right (by lia),b0,b7 (by lia)]
theorem Dm{m hm:FE}{r:Ev}{S:dr}{Q:D×dr->Prop}(h:W (m r S) λp=>∃n,p.1 = .ref n/\W (hm r p.2) λb=>∃(k:Nat) (xs:List D),b.1 = .int (k:Nat)/\b.2[n]?=Z (.lst xs)/\Q (.ref b.2.length,b.2++[.lst (xs.take k)])):W (ic m fv (eW hm) r S) Q:=by
 obtain⟨⟨d,c⟩,j,n,g,⟨⟨l,i⟩,e,k,xs,a,f,q⟩⟩:=h;dsimp only at g e a f q;subst g a;rw[<- Jh]at q;refine W.of ?_ q;unfold ic;rw[j,oS1];dsimp only;rw[show fv r c=Z (Y,c)from rfl,oS1];dsimp only;rw[show eW hm r c=Z (Z (k:Int),i) by unfold eW;rw[e];rfl,oS1];simp only[wp,fR f,oP1,if_true]
theorem Gz{m:FA}{k:Nat}{r:Ev}{S S1:dr}{Q:D×dr->Prop}(hm:m r S=Z ([.int (k:Nat)],S1))(hk:k<=1000)(q:Q (.ref S1.length,S1++[.lst (nmD (af k))])):W (wQ m r S) Q:=by
 have e:jn 0 k=nmD (af k):=by rw[jN];rfl
 rw[<- e]at q;refine W.of ?_ q;unfold wQ;rw[hm,oS1];dsimp only;rw[ak (by
  unfold xT;simp only[bA1,al];lia),Int.toNat_natCast]
theorem BV{m:Nat}:∀{ys:List D},(∀y∈ys,y∈nmD (af m)) -> ∃rs:List Nat,ys=nmD rs /\ ∀r∈rs,r<m
 |[],_=>⟨[],O,λr b=>by cases b⟩
 |y::ys,h=>by
  obtain⟨rs,e,b⟩:=BV λz c=>h z (mC1 _ c);obtain⟨r,h1,rfl⟩:=ci.mp (h y mS1);refine⟨r::rs,by rw[e];rfl,λx a=>?_⟩;rcases aE.mp a with rfl|a
  ·exact aB.mp h1
  ·exact b x a
theorem ya(rs:List Nat)(k:Nat):(nmD rs).take k=nmD (rs.take k):=by unfold nmD;rw[List.map_take]
def m5(xs:List Nat):List Nat:=(i3 (xs.map λ(r:Nat)=>(r:Int))).map Int.toNat
theorem oI(xs:List Nat):(m5 xs).Perm xs:=by
 have:=(fJ (xs.map λ(r:Nat)=>(r:Int))).map Int.toNat
 rw[bD]at this;have e:(Int.toNat∘λ(r:Nat)=>(r:Int))=id:=by funext x;simp
 rw[e,cH]at this;exact this
theorem A0(xs:List Nat):(i3 (xs.map λ(r:Nat)=>(r:Int))).map D.int=nmD (m5 xs):=by
 unfold nmD m5;rw[bD];refine cD λi hi=>?_;obtain⟨x,_,rfl⟩:=ci.mp ((fJ _).mem_iff.mp hi);rfl
theorem Cq(xs:List Nat):lZ (nmD xs)=Z (xs.map λ(r:Nat)=>(r:Int)):=by
 induction xs with
 |nil=>rfl
 |cons x xs ih=>
  show(lZ (nmD xs)).map _=_;rw[ih];rfl
theorem Dl{S:dr}{n:Nat}{xs:List Nat}{Q:D×dr->Prop}(h:S[n]?=Z (.lst (nmD xs)))(a:xs.length<64)(q:Q (.ref S.length,S++[.lst (nmD (m5 xs))])):W (kJ (.ref n) S) Q:=by
 refine W.of ?_ q;unfold kJ;simp only[h];rw[Cq,oS1,ak (by rw[lM1];exact a),A0]
theorem GW{c m lo:Nat}{B U:dr}{Q:D×dr->Prop}(s:HS c B U)(hc:c<=2^44)(hm:m<=8)(v:lo<=m)(q:∀cs e,(∀r∈cs,r<m)->cs.length<=m->lo<=cs.length->HS (c+9) B e->HS (c+9) U e->e.length=U.length->Q (.tup (nmD cs),e)):W (dv 3 h9 [.ref 0,.int m,.int lo] U) Q:=by
 refine pY (c':=c+9) O O s ?_;have H:=s.pos;have C:=s.len;unfold h9;refine jf ?_;unfold nF;refine d4 (λr V=>∃cs,(∀r∈cs,r<m)/\cs.length<=m/\lo<=cs.length/\HS (c+9) U V/\V[V.length-1]?=Z (.lst (nmD cs))/\r=[Z (.ref 0),Z (.int (m:Nat)),Z (.int (lo:Nat)),Z (.ref (V.length-1))]) ?_ ?_
 ·unfold dH;rw [dw];refine Dm ?_;unfold mN dn;rw [dw,dw];refine W.of (x:=(.ref 0,U)) rfl ?_;rw [dw,dw];refine Gz (k:=m) (S1:=U) rfl (by lia) ?_;walk_at"w";have w:=s.here.app1 (o:=.lst (nmD (List.range m))) (by rw [Ob.und];exact fy _);refine wt w (by lia) (xs:=nmD (List.range m)) (by rw [cO]) (by rw [fg,cW];lia) (fy _) fun k ys V p z A g f=>?_;obtain ⟨rs,rfl,n⟩:=BV (m:=m) fun y g=>f.mem_iff.mp g;have G:rs.length=m:=by
   have:=f.length_eq;rw[fg,fg,cW]at this;exact this
  rw[fg,cW]at p;walk_at"w";refine⟨k,O,?_⟩;refine draw_W p (by lia) (by lia) (by lia) λd am F h ao L=>?_;have j:=h.at g (by rw[lA1]at A;lia);walk_at"w";refine⟨lo+d,nmD rs,by push_cast;rfl,j,?_⟩;rw[ya];refine⟨rs.take (lo+d),λr i=>n r (cA i),by rw[aR];lia,by rw[aR];lia,(F.more (by lia)).app1 (by rw[Ob.und];exact fy _),?_,?_⟩
  ·rw[Nat.add_sub_cancel,cO]
  ·rw[Nat.add_sub_cancel]
 rintro r V ⟨cs,h1,h2,K,E,u,rfl⟩;have t:=oI cs;walk_at"w";refine Dl u (by lia) ?_;refine eh (xs:=nmD (m5 cs)) (by rw[cO]) ?_;have I:=t.length_eq;exact⟨E.app1 (by rw[Ob.und];exact fy _),by rw[D.und];exact fy _,λe a b l=>q (m5 cs) e (λr i=>h1 r (t.mem_iff.mp i)) (by lia) (by lia) a b l⟩
theorem vJ{c n:Nat}{B U:dr}{Q:D×dr->Prop}(s:HS c B U)(hc:c<=2^44)(h0:0<n)(p:n<=8)(q:∀ch e,(∀k∈ch,k<n)->ch.length<=n->HS (c+1) B e->HS (c+1) U e->e.length=U.length->Q (.tup (nmD ch),e)):W (dv 2 eI [.ref 0,.int n] U) Q:=by
 refine pY (c':=c+1) O O s ?_;unfold eI;refine jf ?_;unfold ln;have g:∀S,CG (.int 1) (.int (n:Nat)) S=Z (.int ((2^n:Nat):Int),S):=λS=>by
  simp only[CG];rw[ak ⟨by lia,by lia,by decide⟩,Int.toNat_natCast,Int.one_mul]
  push_cast;rfl
 have h2:2^1<=2^n:=Nat.pow_le_pow_right (by decide) h0;have G:2^n<=2^8:=Nat.pow_le_pow_right (by decide) p;refine d4 (λr V=>∃b:Nat,HS (c+1) U V/\r=[Z (.ref 0),Z (.int (n:Nat)),Z (.int (b:Nat))]) ?_ ?_
 ·((try walk_at"w");repeat(simp only[g];try walk_at"w"))
  generalize 2^n=t at *
  refine draw_W s.here (by lia) (by lia) (by lia) λd F w v A E=>?_;walk_at"w";exact⟨d+1,w,by simp[Int.add_comm]⟩
 rintro r V ⟨b,z,rfl⟩;walk_at"w";rw[jN,Int.toNat_natCast];refine⟨gF (by lia),?_⟩;refine iB (f:=λx:Nat=>D.int x) (λk:Nat=>Builtin.bitAnd ((b:Int)/2^k) 1 == 1) (λx:Nat=>D.int x) (λr=>∃x,r=[x,Z (.int (b:Nat))]) O (af n) _ ⟨_,O⟩ ?_ λC _=>?_
 ·rintro k m r ⟨y,rfl⟩;have h:∀ S,CF (.int (b:Nat)) (.int (k:Nat)) S=some (.int ((b:Int)/2^k),S):=fun S=>by
   simp only[CF];rw[ak (by lia),Int.toNat_natCast]
  have o:∀(i:Int) S,yw (.int i) (.int 1) S=Z (.int (Builtin.bitAnd i 1),S):=λi S=>rfl
  ((try walk_at"w");repeat(simp only[h,o];try walk_at"w"))
  exact⟨⟨_,O⟩,λ_=>trivial⟩
 ·have j:=cQ (λk:Nat=>Builtin.bitAnd ((b:Int)/2^k) 1 == 1) (af n);rw[cW]at j;have u:∀k∈(af n).filter λk:Nat=>Builtin.bitAnd ((b:Int)/2^k) 1 == 1,k<n:=λk m=>aB.mp (aA.mp m).1;generalize (af n).filter (λk:Nat=>Builtin.bitAnd ((b:Int)/2^k) 1 == 1)=ch at *
  walk_at"w";refine⟨dD (by rw[lM1];lia),?_⟩;refine eh (xs:=nmD ch) (by rw[cO];rfl) ?_;exact⟨z.app1 (by rw[Ob.und];exact fy _),by rw[D.und];exact fy _,λe a b l=>q ch e u j a b l⟩
def LH(w:dB)(u:Wk):Prop:=∃row,w[u.1]?=Z row/\u.2.1<=row.length/\u.2.2<4000
theorem mn{n k:Nat}{xs:List D}{x:D}{S:dr}{Q:D×dr->Prop}(h:S[n]?=Z (.lst xs))(b:xs.length=k+1)(hx:xs[k]?=Z x)(q:Q (x,S)):W (dz (.ref n) (.int (-1)) S) Q:=by
 refine W.of (x:=(x,S)) ?_ q;simp only[dz,mQ,CI,h,dQ,vW,wT,oS1];rw[aj (show¬ (0:Int) <= -1 by decide)];have e:((-1:Int)+(xs.length:Int)).toNat=k:=by lia
 have a:((xs.length:Int)+(-1:Int)).toNat=k:=by lia
 rw[ak (by lia)]
 first
  |rw[e,oS1,hx];rfl
  |rw[a,oS1,hx];rfl
  |simp[e,a,hx]
theorem AY{m:Nat}{w:dB}{ws:List Wk}{cs:List Nat}(h:iC m w ws cs){u:Wk}(d:u∈ws){x:D}(hx:ik x):LH w (ga w u x):=by
 have c:=hx.eta.2;obtain⟨a,b,h1,h2⟩:=h.wk u d;unfold ga LH;rw[b];have base:∃a,w[(u.1,u.2.1,dm x).1]?=Z a/\(u.1,u.2.1,dm x).2.1<=a.length/\(u.1,u.2.1,dm x).2.2<4000:=⟨a,b,h1,c⟩;cases dt x with
 |none=>exact base
 |some t=>
  dsimp only[oS1];cases ep:a[t]? with
  |none=>exact base
  |some p=>
   obtain⟨r,f,e⟩:=h.web.to a (gM1 b) p (gM1 ep);exact⟨r,f,e,c⟩
theorem zg{m:Nat}{w:dB}{ws:List Wk}{cs ch:List Nat}{e:E4}{L:List Rw}(h:iC m w ws cs)(ok:∀p∈L,gr p):∀p∈eH w ws cs e L ch,ik p.2/\p.1∈ws:=λp b=>by
 obtain⟨x,c,rfl⟩:=ci.mp b;have a:=oA c;refine⟨?_,a⟩;unfold kQ;dsimp only;split
 ·exact pT ok (h.ky _ a)
 ·exact mU (h.ky _ a)
def L9(w:dB)(ps:List Pr):List Wk:=ps.map λp=>ga w p.1 p.2
theorem Le{m:Nat}{w:dB}{ws:List Wk}{cs:List Nat}{ps:List Pr}(h:iC m w ws cs)(hp:∀p∈ps,ik p.2/\p.1∈ws)(e:ps.length<=8):iC m w (L9 w ps) (iS m ps cs):=by
 have b:=h.m8;refine⟨h.web,h.m8,by unfold L9;rw[lM1];exact e,?_,λv d=>?_,λr c=>aB.mp (aA.mp c).1⟩
 ·unfold iS;have:=cQ (λr=>tz ps "mark" r||(cs.contains r && !tz ps "wipe" r)) (af m);rw[cW]at this;exact aC this b
 ·obtain⟨p,a,rfl⟩:=ci.mp d;exact AY h (hp p a).2 (hp p a).1
theorem uz{w:dB}{ws:List Wk}{cs ch:List Nat}{e:E4}{L:List Rw}:(eH w ws cs e L ch).length=ws.length:=by unfold eH;rw[lM1,cT]
abbrev Wh:=List Wk×List Nat
def whD(a:Wh):D:=dM a.1 a.2
theorem kx(a:Wh)(n:Nat):(whD a).und n=M:=e9 gK
theorem n4(b:List Wh)(n:Nat):D.unds n (b.map whD)=M:=Mi.dW λa _=>kx a n
def chD(ch:List Nat):D:=.tup (nmD ch)
theorem kN(chs:List (List Nat))(n:Nat):D.unds n (chs.map chD)=M:=Mi.dW λch _=>by unfold chD;rw[D.und];exact fq (fy _)
def oH(m:Nat)(w:dB)(e:E4)(L:List Rw)(ch:List Nat)(a:Wh):Wh:=(L9 w (eH w a.1 a.2 e L ch),iS m (eH w a.1 a.2 e L ch) a.2)
def eX(m:Nat)(w:dB)(e:E4)(L:List Rw)(chs:List (List Nat))(a:Wh):Wh:=chs.foldl (λa ch=>oH m w e L ch a) a
def WsC(m:Nat)(w:dB)(e:E4)(L:List Rw)(chs:List (List Nat))(a:Wh):List Wh:=(af (chs.length+1)).map λi=>eX m w e L (chs.take i) a
section
variable{m:Nat}{w:dB}{e:E4}{L:List Rw}{chs:List (List Nat)}{a:Wh}
theorem mX:(WsC m w e L chs a).length=chs.length+1:=by unfold WsC;rw[lM1,cW]
theorem sA{i:Nat}(h:i<=chs.length):(WsC m w e L chs a)[i]?=Z (eX m w e L (chs.take i) a):=by
 unfold WsC;rw[gP1,cr (by lia)];rfl
theorem yR{ch:List Nat}:WsC m w e L (chs++[ch]) a=WsC m w e L chs a++[oH m w e L ch (eX m w e L chs a)]:=by
 unfold WsC;rw[lA1,bh,List.range_succ (n:=chs.length+1),cg]
 congr 1
 ·refine cD λi hi=>?_;rw[cG (by have:=aB.mp hi;lia)]
 ·simp only[mP1,bj];rw[b7 (by simp)];unfold eX;rw[cm];rfl
theorem ux{ch:List Nat}(h:iC m w a.1 a.2)(ok:∀p∈L,gr p):iC m w (oH m w e L ch a).1 (oH m w e L ch a).2/\(oH m w e L ch a).1.length=a.1.length:=by
 refine⟨Le h (zg h ok) (by rw[uz];exact h.few),?_⟩;unfold oH L9;rw[lM1,uz]
theorem js(ok:∀p∈L,gr p):∀{chs:List (List Nat)} {a:Wh},iC m w a.1 a.2->iC m w (eX m w e L chs a).1 (eX m w e L chs a).2/\(eX m w e L chs a).1.length=a.1.length
 |[],a,h=>⟨h,O⟩
 |ch::chs,a,h=>by
  obtain⟨h1,h2⟩:=ux (e:=e) (ch:=ch) h ok;obtain⟨c,b⟩:=js ok (chs:=chs) h1;exact⟨c,b.trans h2⟩
theorem LG(ok:∀p∈L,gr p)(h:iC m w a.1 a.2):∀b∈WsC m w e L chs a,iC m w b.1 b.2:=λb c=>by
 obtain⟨i,_,rfl⟩:=ci.mp c;exact(js ok h).1
end
structure ub (m:Nat)(rs cs:List Nat):Prop where
 few:rs.length<=8
 cl:cs.length<=8
 rs:∀r∈rs,r<m
 cs:∀r∈cs,r<m
def eK(rs cs:List Nat):D:=.tup [.tup (nmD rs),.tup (nmD cs)]
def iX(rs cs:List Nat):Wh:=(rs.map λr=>(r,0,0),cs)
theorem t0{m:Nat}{w:dB}{rs cs:List Nat}(hw:jS m w)(hm:m<=8)(h:ub m rs cs):iC m w (iX rs cs).1 (iX rs cs).2:=by
 refine⟨hw,hm,by show(rs.map _).length<=8;rw[lM1];exact h.few,h.cl,λu b=>?_,h.cs⟩;obtain⟨r,a,rfl⟩:=ci.mp b;exact⟨_,gG1 (by rw[hw.len];exact h.rs r a),br _,by show 0<4000;decide⟩
theorem jh(rs cs:List Nat)(n:Nat):(eK rs cs).und n=M:=e9 (by simp[eK,D.und,D.unds,fy])
theorem yL{rs:List Nat}{S:dr}{c:Option D}{Q:List D×Ev×dr->Prop}(h:∀ b,Q (eg (iX rs []).1,b,S)):
  W (fW [] (gN 0) ea (dU (d8 (dn (mV 0) (dn (mC (D.int 0)) (dn (mC (D.int 0)) dq))))) (nmD rs) [c] S) Q:=by
 refine kT (f:=λr:Nat=>D.int r) (λr:Nat=>eO (r,0,0)) (λr=>∃x,r=[x]) O rs _ ⟨_,O⟩ ?_ λb _=>?_
 ·rintro a d r ⟨x,rfl⟩;walk_at"w";exact⟨O,_,O⟩
 ·have e:(rs.map λr:Nat=>eO (r,0,0))=eg (iX rs []).1:=by unfold eg iX;rw[bD];rfl
  rw[e];exact h b
theorem FQ{rs cs:List Nat}{S:dr}{Q:D×dr->Prop}(c:rs.length<=1000)(q:Q (whD (iX rs cs),S)):W (dv 1 lY [eK rs cs] S) Q:=by
 refine jw O (by rw[D.unds,jh];rfl) ?_;unfold lY;refine jf ?_;unfold yO;refine d4 (λr V=>V=[]/\r=[Z (eK rs cs),Z (.tup (nmD rs)),Z (.tup (nmD cs))]) ?_ ?_
 ·unfold eK;walk_at"w"
 rintro r V ⟨rfl,rfl⟩;walk_at"w";rw[gh];refine yL λb=>?_;have a:(eg (iX rs []).1).length=rs.length:=by rw[n3];exact lM1 _
 walk_at"w";refine⟨dD (by rw[a];lia),?_⟩;refine eh (xs:=eg (iX rs []).1) O ?_;exact⟨kx (iX rs cs) 0,q⟩
theorem vc{rs cs:List Nat}{S:dr}{Q:D×dr->Prop}(e:rs.length<=1000)(q:Q (whD (iX rs cs),S)):W (dv 1 fz [eK rs cs] S) Q:=by
 refine jw O (by rw[D.unds,jh];rfl) ?_;unfold fz;refine jf ?_;unfold mj;have c:∀S,dz (eK rs cs) (.int 0) S=Z (.tup (nmD rs),S):=λS=>rfl;have b:∀S,dz (eK rs cs) (.int 1) S=Z (.tup (nmD cs),S):=λS=>rfl
 ((try walk_at"w");repeat(simp only[c];try walk_at"w"))
 rw[gh];refine yL λd=>?_;have a:(eg (iX rs []).1).length=rs.length:=by rw[n3];exact lM1 _
 walk_at"w";refine⟨dD (by rw[a];lia),?_⟩;refine eh (xs:=eg (iX rs []).1) O ?_
 ((try walk_at"w");repeat(simp only[b];try walk_at"w"))
 exact⟨kx (iX rs cs) 0,q⟩
theorem wa{m:Nat}{w:dB}{e:E4}{L:List Rw}{chs:List (List Nat)}{a:Wh}{S:dr}{Q:D×dr->Prop}(h:iC m w a.1 a.2)(inc:Inc e L)(ok:∀ p∈L,gr p)(u:L.length<=4000)(hc:chs.length<=400)(q:Q (.ref S.length,S++[.lst ((WsC m w e L chs a).map whD)])):W (dv 4 hV [ec w,mcD e L,whD a,.tup (chs.map chD)] S) Q:=by
 have o:=kN chs 0;refine Gv O (by simp[D.unds,hH,kx,kE ok,D.und,o]) ?_;unfold hV;refine jf ?_;unfold nB;refine d4 (λr V=>V=[.lst ((WsC m w e L [] a).map whD)]/\r=[Z (ec w),Z (mcD e L),Z (whD a),Z (.tup (chs.map chD)),Z (.ref 0),Y]) ?_ ?_
 ·walk_at"w";exact⟨O,trivial⟩
 rintro r V ⟨rfl,rfl⟩;refine d4 (λr V=>∃g,V=[.lst ((WsC m w e L chs a).map whD)]/\r=[Z (ec w),Z (mcD e L),Z (whD a),Z (.tup (chs.map chD)),Z (.ref 0),g]) ?_ ?_
 ·walk_at"w";rw[gh];refine fA (λi r V=>∃g,V=[.lst ((WsC m w e L (chs.take i) a).map whD)]/\r=[Z (ec w),Z (mcD e L),Z (whD a),Z (.tup (chs.map chD)),Z (.ref 0),g]) (chs.map chD) 0 _ _ ⟨_,O,O⟩ (λ_ _ _ _=>rfl) ?_ ?_
  ·rintro i d j r V ⟨g,rfl,rfl⟩;rw[gP1]at j;obtain⟨ch,k,rfl⟩:=oM1.mp j;have t:=(gE1.mp k).1;have s:chs.take (i+1)=chs.take i++[ch]:=by rw[cj,k];rfl
   have l:(chs.take i).length=i:=by rw[aR];lia
   rw[bQ]at *
   rw[s,yR];have f:=js (e:=e) (m:=m) (w:=w) ok (chs:=chs.take i) h;have c:((WsC m w e L (chs.take i) a).map whD).length=i+1:=by rw[lM1,mX,l]
   have n:((WsC m w e L (chs.take i) a).map whD)[i]?=Z (whD (eX m w e L (chs.take i) a)):=by
    rw[gP1,sA (by lia),b7 (by lia)];rfl
   generalize v:eX m w e L (chs.take i) a=b at *
   walk_at"w";unfold k9 fm;rw[dw];refine kj ?_;walk_at"w";refine⟨0,_,O,O,?_⟩
   ((try walk_at"w");repeat(simp only[mP];try walk_at"w"))
   refine mn O c n ?_;walk_at"w";refine GX (ws:=b.1) (cs:=b.2) (ch:=ch) f.1 inc ok u ?_;refine(lr O).mpr ⟨dD (by rw[c];lia),?_⟩;refine⟨_,?_,O⟩;rw[cg];rfl
  ·rintro r V ⟨g,rfl,rfl⟩;rw[lM1,bQ,b0];exact⟨O,_,O,O⟩
 rintro r V ⟨g,rfl,rfl⟩;walk_at"w";exact⟨_,O,n4 _ 0,q⟩
theorem wo{c m most:Nat}{w:dB}{B U:dr}{Q:D×dr->Prop}(hw:jS m w)(m0:0<m)(m8:m<=8)(P:0<most)(C:most<=8)(s:HS c B U)(hc:c<=2^40)(q:∀rs cs e,ub m rs cs->0<rs.length->rs.length<=most->HS (c+30) B e->HS (c+30) U e->e.length=U.length->Q (eK rs cs,e)):W (dv 3 fC [.ref 0,ec w,.int most] U) Q:=by
 refine pY (c':=c+30) O O s ?_;have hp:=s.pos;have N:=s.len;have h:=hw.len;unfold fC;refine jf ?_;unfold jQ;refine d4 (λr V=>∃rs,(∀x∈rs,x<m)/\rs.length<=m/\0<rs.length/\rs.length<=most/\HS (c+9) U V/\r=[Z (.ref 0),Z (ec w),Z (.int (most:Nat)),Z (.tup (nmD rs))]) ?_ ?_
 ·unfold dH;rw [dw];refine LJ ?_;refine LJ ?_;refine Dm ?_;unfold mN dn;rw [dw,dw];refine W.of (x:=(.ref 0,U)) rfl ?_;rw [dw,dw];refine Gz (k:=m) (S1:=U) (by
   have el:∀S,eB (ec w) S=Z (.int (m:Nat),S):=λS=>by rw[oi,h]
   show(eB (ec w) U).bind _=_;rw[el];rfl) (by lia) ?_
  walk_at"w";have I:=s.here.app1 (o:=.lst (nmD (af m))) (by rw[Ob.und];exact fy _);refine wt I (by lia) (xs:=nmD (af m)) (by rw[cO]) (by rw[fg,cW];lia) (fy _) λk ys V v K ao j f=>?_;obtain⟨rs,rfl,u⟩:=BV (m:=m) λy j=>f.mem_iff.mp j;have R:rs.length=m:=by
   have:=f.length_eq;rw[fg,fg,cW]at this;exact this
  rw[fg,cW]at v;walk_at"w";refine⟨k,O,?_⟩;refine draw_W v (by lia) (by lia) (by lia) λd am i g aq T=>?_;have t:=g.at j (by rw[lA1]at ao;lia);walk_at"w";refine⟨d+1,nmD rs,by push_cast;rw[Int.add_comm],t,?_⟩;rw[ya];have n:=i.app1 (o:=.lst (nmD (rs.take (d+1)))) (by rw[Ob.und];exact fy _);refine Dl (xs:=rs.take (d+1)) (by rw[cO]) (by rw[aR];lia) ?_;refine eh (xs:=nmD (m5 (rs.take (d+1)))) (by rw[cO]) ?_;have F:=oI (rs.take (d+1));have G:=F.length_eq;rw[aR]at G;refine⟨m5 (rs.take (d+1)),λx wq=>u x (cA (F.mem_iff.mp wq)),by lia,by lia,by lia,(n.app1 (by rw[Ob.und];exact fy _)).more (by lia),O⟩
 rintro r V ⟨rs,h1,h2,z,A,au,rfl⟩;have E:∀cs:List Nat,D.tup [.tup (nmD rs),.tup (nmD cs)]=eK rs cs:=λcs=>rfl;walk_at"w";refine draw_W au (by lia) (by lia) (by lia) λd am i g aq T=>?_;walk_at"w";split
 ·((try walk_at"w");repeat(simp only[oi];try walk_at"w"))
  rw[h];refine GW (lo:=0) i (by lia) m8 (br _) λcs V3 p H _ n L l3=>?_;walk_at"w";rw[E];exact⟨n.more (by lia),jh rs cs 0,λe a b l=>q rs cs e ⟨by lia,by lia,h1,p⟩ z A a b l⟩
 ·have:=E [];rw[show nmD []=[]from rfl]at this;rw[this];exact⟨i.more (by lia),jh rs [] 0,λe a b l=>q rs [] e ⟨by lia,by simp,h1,λr X=>by cases X⟩ z A a b l⟩
mutual
def vd(S:dr):D->Bool
 | .non=>M
 | .bl _=>M
 | .int _=>M
 | .str _=>M
 | .tup xs=>hL S xs
 | .rol xs=>hL S xs
 | .ref n=>match S[n]? with
  |some (.lst _)=>M
  |some (.dct _)=>M
  |some (.dcT _)=>M
  |_=>J
 | .fn _=>J
def hL(S:dr):List D->Bool
 |[]=>M
 |d::ds=>vd S d&&hL S ds
end
mutual
theorem JR{S T:dr}:∀{d:D},vd S d=M->d.und 0=M->vd T d=M
 | .non,_,_=>by rw[vd]
 | .bl _,_,_=>by rw[vd]
 | .int _,_,_=>by rw[vd]
 | .str _,_,_=>by rw[vd]
 | .tup xs,v,h=>by rw[D.und]at h;rw[vd]at v ⊢;exact oE v h
 | .rol xs,v,h=>by rw[D.und]at h;rw[vd]at v ⊢;exact oE v h
 | .ref k,_,h=>by simp[D.und]at h
 | .fn x,v,_=>by simp[vd]at v
theorem oE{S T:dr}:∀{ds:List D},hL S ds=M->D.unds 0 ds=M->hL T ds=M
 |[],_,_=>by rw[hL]
 |d::ds,v,h=>by
  rw[D.unds,bA1]at h;rw[hL,bA1]at v;rw[hL,JR v.1 h.1,oE v.2 h.2];rfl
end
theorem jU{S:dr}{d:D}:∀{ds:List D},hL S ds=M->d∈ds->vd S d=M
 |[],_,h=>by cases h
 |x::ds,h,m=>by
  rw[hL,bA1]at h;rcases aE.mp m with z|z
  ·rw[z];exact h.1
  ·exact jU h.2 z
theorem sj{n:Nat}{f:FN}{ds:List D}{S:dr}{Q:D×dr->Prop}(hn:ds.length=n)(b:fj S)(hv:hL S ds=M)(h:∀T,fj T->hL T ds=M->W (f ds T) λp=>(∃G,p.2=T++G)/\p.1.und 0=M/\Q (p.1,S)):W (dv n f ds S) Q:=by
 cases hu:D.unds 0 ds with
 |true=>exact jw hn hu ((h [] rfl (oE hv hu)).mono λp q=>⟨q.2.1,q.2.2⟩)
 |false=>
  refine jP hn hu ((h S b hv).mono ?_);rintro⟨d,V⟩ ⟨⟨G,e⟩,a,q⟩;dsimp only at e a q;subst e;rw[pG a b];exact q
def vg:D->Bool
 | .tup _=>M
 |_=>J
def isI:D->Bool
 | .int _=>M
 |_=>J
def K6:D->Bool
 | .bl _=>M
 |_=>J
theorem ly{S:dr}{d:D}(h:vd S d=M):mL S .tuple d=Z (vg d):=by
 cases d with
 |ref n=>
  rw[vd]at h;rw[mL];split at h<;>first|(rename_i e;rw[e];rfl)|rfl|cases h
 |fn x=>simp[vd]at h
 |_=>rfl
theorem wd{S:dr}{d:D}(h:vd S d=M):mL S .int d=Z (isI d||K6 d):=by
 cases d with
 |ref n=>
  rw[vd]at h;rw[mL];split at h<;>first|(rename_i e;rw[e];rfl)|rfl|cases h
 |fn x=>simp[vd]at h
 |_=>rfl
theorem sH{S:dr}{d:D}(h:vd S d=M):mL S .bool d=Z (K6 d):=by
 cases d with
 |ref n=>
  rw[vd]at h;rw[mL];split at h<;>first|(rename_i e;rw[e];rfl)|rfl|cases h
 |fn x=>simp[vd]at h
 |_=>rfl
theorem NU{S:dr}{d:D}(h:vd S d=M):hL S [d]=M:=by rw[hL,hL,h];rfl
theorem vd1'{S:dr}{d:D}{ds:List D}(h:hL S (d::ds)=M):vd S d=M:=jU h mS1
theorem DC{d:D}{S:dr}{Q:D×dr->Prop}(c:fj S)(hv:vd S d=M)(q:Q (.bl (isI d),S)):W (dv 1 iL [d] S) Q:=by
 refine sj O c (NU hv) λT _ a=>?_;have h1:=wd (vd1' a);have h2:=sH (vd1' a);unfold iL;refine jf ?_;unfold p9
 ((try walk_at"w");repeat(simp only[gx,h1,h2];try walk_at"w"))
 cases d with
 |int i=>exact⟨⟨[],(aN T).symm⟩,O,q⟩
 |bl b=>exact⟨⟨[],(aN T).symm⟩,O,q⟩
 |_=>exact⟨⟨[],(aN T).symm⟩,O,q⟩
theorem Gx{f g:FN}{a b c:FE}{r:Ev}{S:dr}{Q:D×dr->Prop}:W (EL f g a b c r S) Q↔W (a r S) λp=>W (b r p.2) λq=>W (f [p.1,q.1] q.2) λt=>W (match t.1 with | .bl k=>if k=true then(c r t.2).bind λz=>g [q.1,z.1] z.2 else some (.bl false,t.2)|_=>none) Q:=by
 unfold EL;simp only[dw]
 try exact Iff.rfl
def jx(m:Nat):D->Bool
 | .int i=>decide (0<=i)&&decide (i<m)
 |_=>J
theorem FP{m:Nat}{d:D}(h:isI d=J):jx m d=J:=by
 cases d with
 |int i=>cases h
 |_=>rfl
theorem Dc{d:D}(h:isI d=M):∃i,d = .int i:=by
 cases d with
 |int i=>exact⟨i,O⟩
 |_=>cases h
theorem Fz{r:Ev}{S:dr}{m i:Nat}{j:Int}{c:FE}{Q:D×dr->Prop}(hi:r[i]?=Z (Z (.int j)))(hc:c r S=Z (.int m,S))(q:Q (.bl (decide (0<=j)&&decide (j<m)),S)):W (EL (b2 (gR λi j=>decide (i<=j))) (b2 w1) (mC (D.int (0))) (mV i) c r S) Q:=by
 have e:mV i r S=Z (.int j,S):=by unfold mV;rw[hi]
 rw[Gx];unfold mC;rw[dA];dsimp only;rw[e,dA];dsimp only;unfold b2 gR;dsimp only;rw[dA];dsimp only;cases h:decide (0<=j)with
 |false=>
  rw[aj (by decide),dA];rw[h]at q;exact q
 |true=>
  rw[ak O,hc,dw,dA];rw[h]at q;exact W.of O q
theorem FM{m:Nat}{d:D}{S:dr}{Q:D×dr->Prop}(e:fj S)(hv:vd S d=M)(q:Q (.bl (jx m d),S)):W (dv 2 gP [d,.int m] S) Q:=by
 refine sj O e (by rw[hL,hv,hL,hL,vd];rfl) λT c b=>?_;have a:=vd1' b;unfold gP;refine jf ?_;unfold qa;walk_at"w";refine DC c a ?_;walk_at"w";cases hw:isI d with
 |false=>
  rw[aj (by decide)];rw[FP hw]at q
  first|exact⟨⟨[],(aN T).symm⟩,rfl,q⟩|(rw[dA];exact⟨⟨[],(aN T).symm⟩,O,q⟩)
 |true=>
  rw[ak O];obtain⟨i,rfl⟩:=Dc hw;refine Fz (m:=m) O O ?_
  try walk_at"w"
  exact⟨⟨[],(aN T).symm⟩,O,q⟩
mutual
def bd(k:Nat):D->Bool
 | .tup xs=>decide (xs.length<=k)&&As k xs
 | .non=>M
 | .bl _=>M
 | .int _=>M
 | .str _=>M
 | .rol _=>J
 | .ref _=>M
 | .fn _=>J
def As(k:Nat):List D->Bool
 |[]=>M
 |d::ds=>bd k d&&As k ds
end
mutual
theorem kO{k k':Nat}(h:k<=k'):∀{d:D},bd k d=M->bd k' d=M
 | .tup xs,q=>by
  rw[bd,bA1,al]at q;rw[bd,vM h q.2,ah (by lia)];rfl
 | .non,_=>by rw[bd]
 | .bl _,_=>by rw[bd]
 | .int _,_=>by rw[bd]
 | .str _,_=>by rw[bd]
 | .rol _,q=>by simp[bd]at q
 | .ref _,_=>by rw[bd]
 | .fn _,q=>by simp[bd]at q
theorem vM{k k':Nat}(h:k<=k'):∀{ds:List D},As k ds=M->As k' ds=M
 |[],_=>by rw[As]
 |d::ds,q=>by
  rw[As,bA1]at q;rw[As,kO h q.1,vM h q.2];rfl
end
theorem t5{k:Nat}:∀xs:List D,As k xs=xs.all (bd k)
 |[]=>by rw[As];rfl
 |x::xs=>by rw[As,t5 xs];rfl
theorem wc{S:dr}:∀xs:List D,hL S xs=xs.all (vd S)
 |[]=>by rw[hL];rfl
 |x::xs=>by rw[hL,wc xs];rfl
theorem kA{n:Nat}:∀xs:List D,D.unds n xs=xs.all (D.und n)
 |[]=>rfl
 |x::xs=>by rw[D.unds,kA xs];rfl
structure Ok (k:Nat)(S:dr)(d:D):Prop where
 v:vd S d=true
 u:d.und S.length=true
 b:bd k d=true
theorem Ok.tup{k:Nat}{S:dr}{xs:List D}(b:xs.length<=k)(h:∀x∈xs,Ok k S x):Ok k S (.tup xs):=by
 refine⟨?_,?_,?_⟩
 ·rw[vd,wc,bH];exact λx a=>(h x a).v
 ·rw[D.und,kA,bH];exact λx a=>(h x a).u
 ·rw[bd,t5,bA1,al,bH];exact⟨b,λx a=>(h x a).b⟩
theorem Ok.of{k:Nat}{S:dr}{xs:List D}(h:Ok k S (.tup xs)):xs.length<=k /\ ∀x∈xs,Ok k S x:=by
 obtain⟨h1,h2,a⟩:=h;rw[vd,wc,bH]at h1;rw[D.und,kA,bH]at h2;rw[bd,t5,bA1,al,bH]at a;exact⟨a.1,λx b=>⟨h1 x b,h2 x b,a.2 x b⟩⟩
theorem Ok.more{k k':Nat}{S:dr}{d:D}(h:Ok k S d)(hk:k<=k'):Ok k' S d:=⟨h.v,h.u,kO hk h.b⟩
mutual
theorem F8{k:Nat}{S:dr}:∀{d:D},bd k d=M->d.und 0=M->vd S d=M
 | .non,_,_=>by rw[vd]
 | .bl _,_,_=>by rw[vd]
 | .int _,_,_=>by rw[vd]
 | .str _,_,_=>by rw[vd]
 | .tup xs,v,h=>by
  rw[D.und]at h;rw[bd,bA1]at v;rw[vd];exact AE v.2 h
 | .rol xs,v,h=>by simp[bd]at v
 | .ref k,_,h=>by simp[D.und]at h
 | .fn x,v,_=>by simp[bd]at v
theorem AE{k:Nat}{S:dr}:∀{ds:List D},As k ds=M->D.unds 0 ds=M->hL S ds=M
 |[],_,_=>by rw[hL]
 |d::ds,v,h=>by
  rw[D.unds,bA1]at h;rw[As,bA1]at v;rw[hL,F8 v.1 h.1,AE v.2 h.2];rfl
end
theorem Ok.shut{k:Nat}{S:dr}{d:D}(h:d.und 0=M)(hb:bd k d=M):Ok k S d:=⟨F8 hb h,e9 h,hb⟩
theorem Ok.lst{k n:Nat}{S:dr}{xs:List D}(h:S[n]?=Z (.lst xs)):Ok k S (.ref n):=⟨by rw[vd,h],by rw[D.und,al];exact(gE1.mp h).1,by rw[bd]⟩
theorem Ok.dct{k n:Nat}{S:dr}{xs:List (Key×D)}(h:S[n]?=Z (.dct xs)):Ok k S (.ref n):=⟨by rw[vd,h],by rw[D.und,al];exact(gE1.mp h).1,by rw[bd]⟩
theorem Ok.nm{k:Nat}{S:dr}{rs:List Nat}(h:rs.length<=k):Ok k S (.tup (nmD rs)):=Ok.tup (by rw[fg];exact h) λx a=>by
 obtain⟨i,_,rfl⟩:=ci.mp a;exact .shut O (by rw[bd])
mutual
theorem sG{S S':dr}(h:∀n,vd S (.ref n)=M->vd S' (.ref n)=M):∀{d:D},vd S d=M->vd S' d=M
 | .non,_=>by rw[vd]
 | .bl _,_=>by rw[vd]
 | .int _,_=>by rw[vd]
 | .str _,_=>by rw[vd]
 | .tup xs,q=>by rw[vd]at q ⊢;exact oD h q
 | .rol xs,q=>by rw[vd]at q ⊢;exact oD h q
 | .ref n,q=>h n q
 | .fn x,q=>by simp[vd]at q
theorem oD{S S':dr}(h:∀n,vd S (.ref n)=M->vd S' (.ref n)=M):∀{ds:List D},hL S ds=M->hL S' ds=M
 |[],_=>by rw[hL]
 |d::ds,q=>by
  rw[hL,bA1]at q;rw[hL,sG h q.1,oD h q.2];rfl
end
mutual
theorem AF{A B:dr}:∀{d:D},vd (A++B) d=M->d.und A.length=M->vd A d=M
 | .non,_,_=>by rw[vd]
 | .bl _,_,_=>by rw[vd]
 | .int _,_,_=>by rw[vd]
 | .str _,_,_=>by rw[vd]
 | .tup xs,q,u=>by rw[vd]at q ⊢;rw[D.und]at u;exact sF q u
 | .rol xs,q,u=>by rw[vd]at q ⊢;rw[D.und]at u;exact sF q u
 | .ref n,q,u=>by
  rw[D.und,al]at u;rw[vd]at q ⊢;rw[gL1 u]at q;exact q
 | .fn x,q,_=>by simp[vd]at q
theorem sF{A B:dr}:∀{ds:List D},hL (A++B) ds=M->D.unds A.length ds=M->hL A ds=M
 |[],_,_=>by rw[hL]
 |d::ds,q,u=>by
  rw[hL,bA1]at q;rw[D.unds,bA1]at u;rw[hL,AF q.1 u.1,sF q.2 u.2];rfl
end
theorem Ff{o:Ob}{n:Nat}(h:Hnd o n):∃xs,o = .lst xs:=by
 obtain⟨g,m,c,rfl,_⟩:=h;exact⟨_,O⟩
theorem Ok.on{k n n':Nat}{o o':Ob}{T G:dr}{d:D}(h:Ok k (o::T) d)(ho:Hnd o' n'):Ok k (o'::(T++G)) d:=by
 refine⟨sG (λi hi=>?_) h.v,AI (by simp) h.u,h.b⟩;obtain⟨xs,rfl⟩:=Ff ho;cases i with
 |zero=>rw[vd];rfl
 |succ i=>
  rw[vd,gC1]at hi ⊢;cases e:T[i]? with
  |none=>rw[e]at hi;cases hi
  |some x=>
   rw[gL1 (gE1.mp e).1,e];rw[e]at hi;exact hi
abbrev ClT(T:dr):Prop:=T.all (Ob.und (T.length+1))=M
theorem yI{m k n':Nat}{f:FN}{ds:List D}{o:Ob}{T:dr}{Q:D×dr->Prop}(hn:ds.length=m)(d:D.unds 0 ds=J)(g:ClT T)(h:W (f ds (o::T)) λp=>∃x o' G,p=(x,o'::(T++G))/\Hnd o' n'/\ClT (T++G)/\Ok k (o'::(T++G)) x)(q:∀x o' G,Hnd o' n'->ClT (T++G)->Ok k (o'::(T++G)) x->Q (x,o'::(T++G))):W (dv m f ds (o::T)) Q:=by
 refine jP hn d (h.mono ?_);rintro p ⟨x,o',G,rfl,c,hc,b⟩;unfold gc;split
 ·rename_i a;have e:(o'::(T++G)).take (o::T).length=o'::(T++[]):=by rw[aN,lC1,List.take_succ_cons,cI]
  rw[e];refine q x o' [] c (by rw[aN];exact g) ⟨?_,?_,b.b⟩
  ·rw[bA1]at a;rw[aN];refine AF (A:=o'::T) (B:=G) (by rw[bt];exact b.v) ?_;have:=a.1
   rwa [lC1]at this
  ·rw[bA1]at a;rw[aN];have:=a.1
   rwa [lC1]at this
 ·exact q x o' G c hc b
theorem C3{T G:dr}(h:ClT T)(hg:∀o∈G,o.und ((T++G).length+1)=M):ClT (T++G):=by
 rw[ClT,bH]at h ⊢;intro o a;rcases aF.mp a with a|a
 ·exact gB (by rw[lA1];lia) (h o a)
 ·exact hg o a
def EK(k:Nat)(r:Ev)(o:Ob)(T:dr)(e:FE):Prop:=∀G,ClT (T++G)->W (e r (o::(T++G))) λp=>∃G',p.2=o::(T++(G++G'))/\ClT (T++(G++G'))/\Ok k (o::(T++(G++G'))) p.1
def AK(k:Nat)(r:Ev)(o:Ob)(T:dr)(n:Nat)(a:FA):Prop:=∀G,ClT (T++G)->W (a r (o::(T++G))) λp=>∃G',p.2=o::(T++(G++G'))/\ClT (T++(G++G'))/\p.1.length=n /\ ∀x∈p.1,Ok k (o::(T++(G++G'))) x
section
variable{k n N:Nat}{r:Ev}{o:Ob}{T:dr}{e:FE}{a:FA}{d:D}
theorem gZ(ho:Hnd o N)(h:∀S,e r S=Z (d,S))(hd:Ok k (o::T) d):EK k r o T e:=λG a=>by
 refine W.of (h _) ⟨[],by rw[aN],by rw[aN];exact a,?_⟩;rw[aN];exact hd.on (n:=N) ho
theorem iU:AK k r o T 0 dq:=λG a=>W.of O ⟨[],by rw[aN],by rw[aN];exact a,O,λx h=>by cases h⟩
theorem dN(ho:Hnd o N)(he:EK k r o T e)(ha:AK k r o T n a):AK k r o T (n+1) (dn e a):=λG j=>by
 unfold dn;rw[dw];refine(he G j).mono ?_;rintro⟨d,S⟩ ⟨G1,f,h1,h2⟩;dsimp only at f h2 ⊢;subst f;rw[dw];refine(ha (G++G1) h1).mono ?_;rintro⟨l,S⟩ ⟨G2,c,h,g,b⟩;dsimp only at c g b ⊢;subst c;rw[bf]at h b;refine dA.mpr ⟨G1++G2,by rw[bf],h,by rw[lC1,g],λx i=>?_⟩;rcases aE.mp i with z|z
 ·rw[z];have:=h2.on (n:=N) (G:=G2) ho
  rwa [bf,bf]at this
 ·exact b x z
theorem mS(ha:AK k r o T n a)(hn:n<=k)(hk:k<=1000):EK k r o T (d8 a):=λG d=>by
 rw[ql];refine(ha G d).mono ?_;rintro⟨l,S⟩ ⟨G1,b,h1,h2,c⟩;dsimp only at b h2 c ⊢;subst b;exact⟨dD (by lia),G1,O,h1,.tup (by lia) c⟩
theorem HU{k:Nat}{S:dr}{L:List D}(h:∀x∈L,Ok k S x):D.unds S.length L=M:=by rw[kA,bH];exact λx a=>(h x a).u
theorem lE(b:ClT T){L:List D}(h:∀x∈L,Ok k (o::T) x):ClT (T++[.lst L]):=C3 b λx a=>by
 rw[cN.mp a,Ob.und];refine i0 ?_ (HU h);simp
theorem Cg(ha:AK k r o T n a)(hn:n<=1000)(G:dr)(e:ClT (T++G)):W (eZ a r (o::(T++G))) λp=>∃b L,p=(.ref (T++(G++b)).length.succ,o::(T++(G++b)++[.lst L]))/\ClT (T++(G++b)++[.lst L])/\L.length=n /\ ∀x∈L,Ok k (o::(T++(G++b))) x:=by
 rw[t8];refine(ha G e).mono ?_;rintro⟨l,S⟩ ⟨G1,d,h1,h2,c⟩;dsimp only at d h2 c ⊢;subst d;exact⟨dD (by lia),G1,l,O,lE h1 c,h2,c⟩
theorem I7(ho:Hnd o N)(ha:AK k r o T n a)(hn:n<=1000):EK k r o T (eZ a):=λG b=>by
 refine(Cg ha hn G b).mono ?_;rintro p ⟨G1,L,rfl,h1,h2,c⟩;refine⟨G1++[.lst L],by simp,by simpa using h1,.lst (xs:=L) ?_⟩;rw[cE,gC1,show T++(G++(G1++[Ob.lst L]))=(T++(G++G1))++[Ob.lst L] by simp,dL];rfl
theorem Fq:EK k r o T px:=λG b=>by
 refine W.of (x:=(.ref (T++G).length.succ,o::(T++G++[.dct []]))) O ⟨[.dct []],by simp,?_,.dct (xs:=[]) ?_⟩
 ·rw[<- bf];exact C3 b λx a=>by rw[cN.mp a];rfl
 ·rw[cE,gC1,<- bf,dL];rfl
theorem I9(ho:Hnd o N)(h:d.und 0=M)(hb:bd k d=M):EK k r o T (mC d):=gZ ho (λ_=>rfl) (.shut h hb)
end
theorem xc{xs:List D}{lo hi:Option Int}:(∀x∈Mi.gn xs lo hi,x∈xs)/\(Mi.gn xs lo hi).length<=xs.length:=by
 unfold Mi.gn;refine⟨λx a=>cY (cA a),?_⟩;rw[aR,aW];lia
theorem Fw(xs:List D)(k:Nat):Mi.gn xs (Z (k:Int)) Y=xs.drop k:=by
 unfold Mi.gn;rw[HT.uC,HT.oe];by_cases h:k<=xs.length
 ·rw[Nat.min_eq_left h,b7 (by simp)]
 ·rw[Nat.min_eq_right (by lia),List.drop_length,List.drop_of_length_le (by lia)];simp
section
variable{k n m N:Nat}{r:Ev}{o:Ob}{T:dr}{a:FA}{d:D}{S:dr}
theorem lG{e f:FE}{xs ys:List D}(ha:∀S,e r S=Z (.tup xs,S))(hb:∀S,f r S=Z (.tup ys,S))(a:xs.length+ys.length<=1000):∀S,m2 (b2 eE) e f r S=Z (.tup (xs++ys),S):=λS=>by
 unfold m2;rw[ha,oS1,hb,oS1];show(if xs.length+ys.length<=da then _ else _)=_;rw[ak (aC a (by decide))]
theorem BJ{xs ys:List D}(h:Ok m (o::T) (.tup xs))(hs:∀y∈ys,y∈xs)(b:ys.length<=k)(hk:m<=k):Ok k (o::T) (.tup ys):=.tup b λy a=>(h.of.2 y (hs y a)).more hk
theorem lz{xs ys:List D}(h:Ok k (o::T) (.tup xs))(h':Ok k (o::T) (.tup ys))(b:xs.length+ys.length<=k):Ok k (o::T) (.tup (xs++ys)):=.tup (by rw[lA1];exact b) λy a=>by
 rcases aF.mp a with z|z
 ·exact h.of.2 y z
 ·exact h'.of.2 y z
end
section
variable{k N:Nat}{o:Ob}{T:dr}{xs:List D}{x2:Option D}
end
theorem jI{d:D}(h:vg d=M):∃xs,d = .tup xs:=by
 cases d with
 |tup xs=>exact⟨xs,O⟩
 |_=>cases h
def Lo(d:D):Prop:=∀i,d = .int i->i.natAbs.log2<1920
theorem sN{o:Ob}{n:Nat}{T:dr}(ho:Hnd o n)(a:ClT T):fj (o::T):=by
 unfold fj;rw[bS,ho.und,lC1];exact a
theorem n6{n:Nat}{o:Ob}{T:dr}{k:Int}{Q:D×dr->Prop}(ho:Hnd o n)(j:ClT T)(hn:n<=2^50)(hk:0<k)(b:k<2^62)(q:∀(d:Nat) o',Hnd o' (n+1)->(d:Int)<k->Q (.int d,o'::T)):W (dv 2 dy [.ref 0,.int k] (o::T)) Q:=by
 have s:HS n (o::T) (o::T):=.self O ho (sN ho j);refine draw_W s hn hk b λd h a g l f=>?_;obtain⟨o',e,c⟩:=a.hand;have:h=o'::T:=by
  refine b4 λi=>?_;cases i with
  |zero=>rw[e];rfl
  |succ i=>
   by_cases hi:i+1<(o::T).length
   ·rw[g.same (i+1) hi (by lia)];rfl
   ·rw[b5 (by lia),b5 (by simpa using hi)]
 subst this;exact q d o' c f
theorem qT{f:FN}{a b:FE}{r:Ev}{S:dr}{Q:D×dr->Prop}(h:W (a r S) λp=>W (b r p.2) λq=>W (f [p.1,q.1] q.2) Q):W (m2 f a b r S) Q:=by
 unfold m2;rw[dw];exact h.mono λp c=>by rw[dw];exact c
theorem KG{k n p:Nat}{o:Ob}{T:dr}{L:List D}{Q:D×dr->Prop}(ho:Hnd o n)(hn:n<=2^40)(c:ClT T)(hp:T[p]? = Z (.lst L))(h:0<L.length)(g:L.length<=1000)(hx:∀ x∈L,Ok k (o::T) x)(q:∀x o' G,Hnd o' (n+1)->ClT (T++G)->Ok k (o'::(T++G)) x->Q (x,o'::(T++G))):W (dv 2 ft [.ref 0,.ref (p+1)] (o::T)) Q:=by
 refine yI (k:=k) (n':=n+1) O O c ?_ q;have e:∀o:Ob,(o::T)[p+1]?=Z (.lst L):=λo=>by rw[gC1];exact hp
 have el:eB (.ref (p+1)) (o::T)=Z (.int L.length,o::T):=by unfold eB;rw[fR (e o)];rfl
 unfold ft;refine jf ?_;unfold mW
 ((try walk_at"w");repeat(simp only[el];try walk_at"w"))
 refine n6 ho c (by lia) (by lia) (by lia) λd f b j=>?_;have a:d<L.length:=by lia
 refine nK (i:=d) (x:=L[d]) (e f) (gG1 a) ?_;refine⟨L[d],f,[],by rw[aN],b,by rw[aN];exact c,?_⟩;exact(hx _ (bV a)).on (n:=n+1) b
inductive Pj (k:Nat)(o:Ob)(T:dr)(d:D)(y:Option D)(n:Nat):Ev->dr->Prop
 |mk (G:dr) (L:List D) (p:Nat):(T++G)[p]?=some (.lst L)->L.length=n->ClT (T++G)->(∀x∈L,Ok k (o::(T++G)) x)->Pj k o T d y n [some (.ref 0),some d,some (.ref (p+1)),y] (o::(T++G))
section
variable{k n m N:Nat}{r:Ev}{o:Ob}{T:dr}{a:FA}{d:D}{S:dr}{y:Option D}
theorem Ba{x2:Option D}{V:dr}(G:dr)(g:V=o::(T++G))(f:ClT (T++G))(ho:Hnd o N)(ha:AK k [Z (.ref 0),Z d,x2,y] o T n a)(hn:n<=1000):W (dH (eZ a) (gN 2) [Z (.ref 0),Z d,x2,y] V) λp=>p.1 = .nx/\Pj k o T d y n p.2.1 p.2.2:=by
 subst g;unfold dH;rw[dw];refine(Cg ha hn G f).mono ?_;rintro p ⟨G1,L,rfl,h1,h2,b⟩;refine W.of O ⟨O,?_⟩;have e:T++(G++G1)++[Ob.lst L]=T++(G++(G1++[Ob.lst L])):=by simp
 dsimp only;show Pj k o T d y n [Z (.ref 0),Z d,Z (.ref ((T++(G++G1)).length+1)),y] (o::(T++(G++G1)++[Ob.lst L]));rw[e]at h1 ⊢;refine .mk _ L _ ?_ h2 h1 λx c=>?_
 ·rw[<- e,dL];rfl
 ·have:=(b x c).on (n:=N) (G:=[Ob.lst L]) ho
  rwa [e]at this
theorem yb(ho:Hnd o N)(ha:∀x2,AK k [Z (.ref 0),Z d,x2,y] o T n a)(hn:n+m<=1000)(h:Pj k o T d y m r S):W (dH (m2 (b2 eE) (mV 2) (eZ a)) (gN 2) r S) λp=>p.1 = .nx/\Pj k o T d y (m+n) p.2.1 p.2.2:=by
 obtain⟨G,L,p,h1,h2,v,s⟩:=h;have e:=(gE1.mp h1).1;unfold dH m2;rw[dw,dw];refine W.of (x:=(.ref (p+1),o::(T++G))) O ?_;rw[dw];refine(Cg (ha _) (by lia) G v).mono ?_;rintro q ⟨G1,b,rfl,t,l,u⟩;dsimp only[b2];have j:T++(G++G1)++[Ob.lst b]=(T++G)++(G1++[Ob.lst b]):=by simp
 refine(xp (xs:=L) (ys:=b) ?_ ?_).mpr ⟨dD (by lia),?_⟩
 ·rw[gC1,j,gL1 e];exact h1
 ·rw[cE,gC1,dL];rfl
 refine W.of O ⟨O,?_⟩;have i:o::(T++(G++G1)++[Ob.lst b])++[Ob.lst (L++b)]=o::(T++(G++(G1++[Ob.lst b,Ob.lst (L++b)]))):=by simp
 have f:∀x∈L++b,Ok k (o::(T++(G++G1))) x:=λx c=>by
  rcases aF.mp c with z|z
  ·have:=(s x z).on (n:=N) (G:=G1) ho
   rwa [bf]at this
  ·exact u x z
 have hc:ClT (T++(G++(G1++[Ob.lst b,Ob.lst (L++b)]))):=by
  have:=lE (o:=o) t λx c=>(f x c).on (n:=N) (G:=[Ob.lst b]) ho;have g:T++(G++G1)++[Ob.lst b]++[Ob.lst (L++b)]=T++(G++(G1++[Ob.lst b,Ob.lst (L++b)])):=by simp
  rwa [g]at this
 show Pj k o T d y (m+n) [Z (.ref 0),Z d,Z (.ref ((T++(G++G1)++[Ob.lst b]).length+1)),y] (o::(T++(G++G1)++[Ob.lst b])++[Ob.lst (L++b)]);rw[i];refine .mk _ (L++b) _ ?_ (by rw[lA1,h2,l]) hc λx c=>?_
 ·rw[show T++(G++(G1++[Ob.lst b,Ob.lst (L++b)]))=(T++(G++G1)++[Ob.lst b])++[Ob.lst (L++b)] by simp,dL];rfl
 ·have:=(f x c).on (n:=N) (G:=[Ob.lst b,Ob.lst (L++b)]) ho;simpa using this
theorem CY{xs:List D}{x2:Option D}(ho:Hnd o N)(hd:Ok m (o::T) (.tup xs)):EK k [Z (.ref 0),Z (.tup xs),x2,y] o T (mN (b1 nT) (dn (mV 1) dq)):=λG b=>by
 refine W.of (x:=(.ref (T++G).length.succ,o::(T++G++[.lst xs]))) O ⟨[.lst xs],by simp,?_,.lst (xs:=xs) ?_⟩
 ·rw[<- bf];exact lE (k:=m) (o:=o) b λx a=>(hd.of.2 x a).on (n:=N) ho
 ·rw[cE,gC1,<- bf,dL];rfl
end
theorem w9{k N:Nat}{o:Ob}{T:dr}{r:Ev}{e:FE}{i:Int}(ho:Hnd o N)(h:∀S,e r S=Z (.int i,S)):EK k r o T e:=gZ ho h (.shut O (by rw[bd]))
theorem HW{k N:Nat}{o:Ob}{T:dr}{xs:List D}(hd:Ok k (o::T) (.tup xs))(lo hi:Option Int):Ok (2*k+2) (o::T) (.tup (Mi.gn xs lo hi)):=BJ hd (xc (xs:=xs)).1 (by have:=(xc (xs:=xs) (lo:=lo) (hi:=hi)).2;have:=hd.of.1;lia) (by lia)
theorem C1{xs:List D}{a:Nat}(ha:a<=xs.length):(Mi.gn xs Y (Z (a:Int))).length=a/\(Mi.gn xs (Z (a:Int)) Y).length=xs.length-a/\(Mi.gn xs (Z (a:Int)) (Z ((a:Int)+1))).length<=1:=by
 refine⟨by rw[Jh,aR];lia,by rw[Fw,aW],?_⟩;unfold Mi.gn;rw[aR,aW,HT.oe,show((a:Int)+1)=((a+1:Nat):Int) by push_cast;rfl,HT.oe];lia
theorem GU{i:Int}{x2 y:Option D}{S:dr}(h:i.natAbs.log2<1920):mN (b1 Fg) (dn (mV 1) dq) [Z (.ref 0),Z (.int i),x2,y] S=Z (.str (Str.ofString (toString i)),S):=by
 show(if i.natAbs.log2<1920 then _ else Y)=_;rw[ak h]
theorem gp{T:Ty}{m:FE}{r:Ev}{S:dr}{Q:D×dr->Prop}:W (gx T m r S) Q↔W (m r S) λp=>W (mL p.2 T p.1) λb=>Q (.bl b,p.2):=by
 unfold gx;rw[dw];simp only[lp]
theorem M0{c:FT}{b k:FS}{r:Ev}{T:dr}{Q:Fl×Ev×dr->Prop}(C:Bool->dr->Prop)(hc:W (c r T) λp=>C p.1 p.2)(h1:∀V,C M V->W (b r V) λp=>∃d,p.1 = .rt d/\Q (.rt d,p.2))(h0:∀V,C J V->W (k r V) Q):W (dG (fh c b kH) k r T) Q:=by
 obtain⟨⟨t,V⟩,g,e⟩:=hc;dsimp only at e;cases t with
 |true=>
  obtain⟨⟨f,p⟩,j,d,h,a⟩:=h1 V e;dsimp only at h a;subst h;refine⟨(.rt d,p),?_,a⟩;simp only[dG,fh,g,j,oS1,if_true]
 |false=>
  obtain⟨p,i,a⟩:=h0 V e;refine⟨p,?_,a⟩;simp only[dG,fh,kH,g,oS1,bF1,if_false];exact i
theorem Ok.cast{k:Nat}{S S':dr}{d:D}(h:Ok k S d)(e:S=S'):Ok k S' d:=e ▸ h
theorem Ok.hand{k n:Nat}{o o':Ob}{T:dr}{d:D}(h:Ok k (o::T) d)(ho:Hnd o' n):Ok k (o'::T) d:=(h.on (n:=n) (G:=[]) ho).cast (by rw[aN])
theorem Gk{o:Ob}{n k:Nat}{T:dr}{d:D}{Q:D×dr->Prop}(ho:Hnd o n)(hn:n<=2^39)(B:ClT T)(hd:Ok k (o::T) d)(u:Lo d)(hk:1<=k)(ao:k<=50)(q:∀x o' G,Hnd o' (n+2)->ClT (T++G)->Ok (2*k+2) (o'::(T++G)) x->Q (x,o'::(T++G))):W (dv 2 gQ [.ref 0,d] (o::T)) Q:=by
 refine yI (k:=2*k+2) (n':=n+2) O O B ?_ q;unfold gQ;refine jf ?_;unfold qi;refine d4 (Pj (2*k+2) o T d Y 19) ?_ ?_
 ·refine Ba [] (by rw[aN]) (by rw[aN];exact B) ho ?_ (by lia);have z:∀r,EK (2*k+2) r o T (mC (D.int 0)):=λr=>I9 ho O (by rw[bd]);have F:∀r,EK (2*k+2) r o T (d8 (dn (mC (D.int 0)) (dn (mC (D.int 0)) (dn (mC (D.int 0)) dq)))):=λr=>mS (dN ho (z r) (dN ho (z r) (dN ho (z r) iU))) (by lia) (by lia);have c:∀{r} {d:D},d.und 0=M->bd (2*k+2) d=M->EK (2*k+2) r o T (mC d):=λh H=>I9 ho h H;exact(dN ho (c O (by rw[bd])) (dN ho (c O (by rw[bd])) (dN ho (c O (by rw[bd])) (dN ho (w9 (i:= -1) ho λ_=>rfl) (dN ho (z _) (dN ho (c O (by rw[bd])) (dN ho (c O (by rw[bd])) (dN ho (c O (by rw[bd])) (dN ho (c O (by rw[bd])) (dN ho (c O (by rw[bd])) (dN ho (c O (by rw[bd])) (dN ho (mS iU (by lia) (by lia)) (dN ho (c O (by rw[bd])) (dN ho (c O (by rw[bd])) (dN ho (mS (dN ho (z _) iU) (by lia) (by lia)) (dN ho (F _) (dN ho (I7 ho (dN ho (z _) iU) (by lia)) (dN ho Fq (dN ho (mS (dN ho (F _) iU) (by lia) (by lia)) iU)))))))))))))))))))
 rintro r S h;refine d4 (λr S=>∃o' y c,Hnd o' (n+1)/\0<c/\c<=50/\Pj (2*k+2) o' T d y c r S) ?_ ?_
 ·obtain⟨G,L,p,h1,h2,f,g⟩:=h;have s:mL (o::(T++G)) .tuple d=Z (vg d):=ly (hd.on (n:=n) ho).v;cases ht:vg d with
  |false=>
   ((try walk_at"w");repeat(simp only[gp,s,ht];try walk_at"w"))
   exact⟨o,Y,19,ho.more (by lia),by lia,by lia,.mk G L p h1 h2 f g⟩
  |true=>
   obtain⟨xs,rfl⟩:=jI ht;have X:=hd.of.1;unfold fh;rw[dw];refine W.of (x:=(M,o::(T++G))) O ?_;dsimp only;rw[ak O];refine d4 (λr S=>∃o' a,Hnd o' (n+1)/\a<=xs.length/\S=o'::(T++G)/\r=[Z (.ref 0),Z (.tup xs),Z (.ref (p+1)),Z (.int (a:Nat))]) ?_ ?_
   ·walk_at"w";refine n6 ho f (by lia) (by lia) (by lia) λa o' b C=>?_;exact⟨o',a,b,by lia,O,O⟩
   rintro r S ⟨o',a,b,C,rfl,rfl⟩;have e:=hd.hand b;obtain⟨V,aq,U⟩:=C1 (xs:=xs) C;have wq:(Mi.gn xs (Z ((a:Int)+1)) Y).length<=xs.length:=xc.2;have c:=HW (N:=n) e;have h2:Ok (2*k+2) (o'::T) (.tup xs):=e.more (by lia);refine d4 (Pj (2*k+2) o' T (.tup xs) (Z (.int (a:Nat))) 4) ?_ ?_
   ·refine Ba G O f b ?_ (by lia);exact dN b (gZ b (lG (xs:=Mi.gn xs Y (Z (a:Int))) (ys:=Mi.gn xs (Z ((a:Int)+1)) Y) (λ_=>rfl) (λ_=>rfl) (by lia)) (lz (c _ _) (c _ _) (by lia))) (dN b (gZ b (lG (xs:=Mi.gn xs Y (Z (a:Int))++Mi.gn xs (Z (a:Int)) (Z ((a:Int)+1))) (ys:=Mi.gn xs (Z (a:Int)) Y) (lG (λ_=>rfl) (λ_=>rfl) (by lia)) (λ_=>rfl) (by rw[lA1];lia)) (lz (lz (c _ _) (c _ _) (by lia)) (c _ _) (by rw[lA1];lia))) (dN b (gZ (d:=.tup xs.reverse) b (λ_=>rfl) (BJ e (λy j=>List.mem_reverse.mp j) (by rw[b8];lia) (by lia))) (dN b (CY b e) iU)))
   intro r S h;refine(yb (n:=5) b (λx2=>?_) (by lia) h).mono ?_
   ·have am:Ok (2*k+2) (o'::T) (.tup [.int 0]):=.tup (by simp) λy j=>by rw[cN.mp j];exact .shut O (by rw[bd])
    have v:Ok (2*k+2) (o'::T) (.tup [.tup xs]):=.tup (by simp) λy j=>by rw[cN.mp j];exact h2
    exact dN b (gZ b (lG (xs:=Mi.gn xs Y (Z (a:Int))++[.int 0]) (ys:=Mi.gn xs (Z (a:Int)) Y) (lG (λ_=>rfl) (λ_=>rfl) (by simp;lia)) (λ_=>rfl) (by rw[lA1];simp;lia)) (lz (lz (c _ _) am (by simp;lia)) (c _ _) (by rw[lA1];simp;lia))) (dN b (gZ b (lG (xs:=Mi.gn xs (Z (a:Int)) Y) (ys:=Mi.gn xs Y (Z (a:Int))) (λ_=>rfl) (λ_=>rfl) (by lia)) (lz (c _ _) (c _ _) (by lia))) (dN b (I9 b O (by rw[bd])) (dN b (mS iU (by lia) (by lia)) (dN b (gZ b (lG (xs:=xs) (ys:=[.tup xs]) (λ_=>rfl) (λ_=>rfl) (by simp;lia)) (lz h2 v (by simp;lia))) iU))))
   rintro p ⟨R,K⟩;exact⟨R,o',_,9,b,by lia,by lia,K⟩
 rintro r S ⟨o',y,c,b,l,hc,h⟩;refine d4 (λr S=>∃c,0<c/\c<=60/\Pj (2*k+2) o' T d y c r S) ?_ ?_
 ·obtain ⟨G,L,p,h1,h2,f,g⟩:=h;have s:=(hd.on (n:=n+1) (G:=G) b).v;have I:=wd s;have P:=sH s;have t:W (mI (mTr (gx .int (mV 1))) (iz (mTr (gx .bool (mV 1)))) [some (.ref 0),some d,some (.ref (p+1)),y] (o'::(T++G))) fun q=>q=(isI d,o'::(T++G)):=by
   ((try walk_at"w");repeat(simp only[gp,I,P];try walk_at"w"))
   cases d<;>simp[isI,K6]
  obtain⟨_,au,rfl⟩:=t;unfold fh;rw[dw];refine W.of au ?_;dsimp only;cases hw:isI d with
  |false=>
   rw[aj (by decide)];exact W.of O ⟨O,c,l,by lia,.mk G L p h1 h2 f g⟩
  |true=>
   obtain⟨i,rfl⟩:=Dc hw;rw[ak O];refine(yb (n:=8) b (λx2=>?_) (by lia) (.mk G L p h1 h2 f g)).mono λp A=>⟨A.1,c+8,by lia,by lia,A.2⟩;exact dN b (w9 (i:=i+1) b λ_=>rfl) (dN b (w9 (i:=i-1) b λ_=>rfl) (dN b (w9 (i:=i+1) b λ_=>rfl) (dN b (w9 (i:=i-1) b λ_=>rfl) (dN b (w9 (i:=i+2) b λ_=>rfl) (dN b (gZ (d:=.str (Str.ofString (toString i))) b (λS=>GU (u i O)) (.shut O (by rw[bd]))) (dN b (mS (dN b (w9 (i:=i) b λ_=>rfl) iU) (by lia) (by lia)) (dN b (gZ (d:=.bl (i == 1)) b (λ_=>rfl) (.shut O (by rw[bd]))) iU)))))))
 rintro r S ⟨c,l,hc,⟨G,L,p,h1,h2,f,g⟩⟩;walk_at"w";refine KG (k:=2*k+2) b (by lia) f h1 (by lia) (by lia) g λx v G2 w m E=>?_;rw[bf]at m E ⊢;exact⟨x,v,G++G2,O,w,m,E⟩
def vZ:Nat->D->Prop
 |0,d=>Lo d
 |n+1,d=>Lo d /\ ∀xs,d = .tup xs -> ∀x∈xs,vZ n x
theorem vZ.lo:∀{n:Nat} {d:D},vZ n d->Lo d
 |0,_,h=>h
 |_+1,_,h=>h.1
theorem BX{xs:List D}{S:dr}:zN (.tup xs) (.tup []) S=Z (.bl (!xs.isEmpty),S):=by
 cases xs<;>rfl
theorem Js:∀ (e:Nat) {fuel n k:Nat} {o:Ob} {T:dr} {d:D} {Q:D×dr->Prop},e<fuel->Hnd o n->n+10*(e+1)<=2^39->ClT T->Ok k (o::T) d->vZ e d->1<=k->k<=50 ->
  (∀x o' G,Hnd o' (n+10*(e+1))->ClT (T++G)->Ok (2*k+2) (o'::(T++G)) x->Q (x,o'::(T++G)))->W (dv 3 (fT fuel) [.ref 0,d,.int (e:Nat)] (o::T)) Q:=by
 intro e
 induction e with
 |zero=>
  intro fuel n k o T d Q au E L s B j F l q;obtain⟨f,rfl⟩:∃f,fuel=f+1:=⟨fuel-1,by lia⟩;refine yI (k:=2*k+2) (n':=n+10*(0+1)) O O s ?_ q;rw[fT];refine jf ?_;unfold ig;refine M0 (λb V=>b=J/\V=o::T) ?_ ?_ ?_
  ·have N:decide ((0:Int)<((0:Nat):Int))=J:=by decide
   ((try walk_at"w");repeat(simp only[N];try walk_at"w"))
  ·rintro V ⟨h,_⟩;cases h
  rintro V ⟨_,rfl⟩;walk_at"w";refine Gk E (by lia) s B j F l λx o' G u hc C=>?_;exact⟨x,o',G,O,u.more (by lia),hc,C⟩
 |succ e ih=>
  intro fuel n k o T d Q au E L s B j F l q;obtain⟨f,rfl⟩:∃f,fuel=f+1:=⟨fuel-1,by lia⟩;refine yI (k:=2*k+2) (n':=n+10*(e+1+1)) O O s ?_ q;rw[fT];refine jf ?_;unfold ig;have am:=ly B.v;have t:decide ((0:Int)<((e+1:Nat):Int))=M:=ah (by lia);refine M0 (λb V=>∃w,V=w::T/\Hnd w (n+1)/\(b=M -> ∃xs,d = .tup xs/\0<xs.length)) ?_ ?_ ?_
  ·cases ht:vg d with
   |false=>
    ((try walk_at"w");repeat(simp only[gp,am,ht,t];try walk_at"w"))
    exact⟨o,O,E.more (by lia),λh=>by cases h⟩
   |true=>
    obtain⟨xs,rfl⟩:=jI ht;cases he:xs.isEmpty with
    |true=>
     ((try walk_at"w");repeat(simp only[gp,am,ht,t,BX];try walk_at"w"))
     simp only[he]
     try walk_at"w"
     exact⟨o,O,E.more (by lia),λh=>by cases h⟩
    |false=>
     ((try walk_at"w");repeat(simp only[gp,am,ht,t,BX];try walk_at"w"))
     simp only[he];walk_at"w";refine n6 E s (by lia) (by lia) (by lia) λc w g hc=>?_;walk_at"w";refine⟨w,O,g,λ_=>⟨xs,O,?_⟩⟩;cases xs with
     |nil=>cases he
     |cons x xs=>exact Nat.succ_pos _
  ·rintro V ⟨w,rfl,g,h⟩;obtain⟨xs,rfl,ao⟩:=h O;have I:=B.hand g;obtain⟨P,z⟩:=I.of;refine d4 (λr V=>∃v a,Hnd v (n+2)/\a<xs.length/\V=v::T/\r=[Z (.ref 0),Z (.tup xs),Z (.int ((e+1:Nat):Int)),Z (.int (a:Nat))]) ?_ ?_
   ·walk_at"w";refine n6 g s (by lia) (by lia) (by lia) λa v m H=>?_;exact⟨v,a,m,by lia,O,O⟩
   rintro r V ⟨v,a,m,H,rfl,rfl⟩;walk_at"w";refine W.of (x:=(.tup (Mi.gn xs Y (Z (a:Int))),v::T)) O ?_;rw[Jh];walk_at"w";refine jT (i:=a) (x:=xs[a]) (gG1 H) ?_;walk_at"w";rw[show(((e+1:Nat):Int)-1)=(e:Int) by lia];refine ih (by lia) m (by lia) s ((z _ (bV H)).hand m) (j.2 xs O _ (bV H)) F l λx K G A hc C=>?_;walk_at"w";rw[aR];refine⟨dD (by lia),?_⟩;refine W.of (x:=(.tup (Mi.gn xs (Z ((a:Int)+1)) Y),K::(T++G))) O ?_;rw[show((a:Int)+1)=((a+1:Nat):Int) by push_cast;rfl,Fw];walk_at"w";refine⟨dD (by rw[aW];simp;lia),?_⟩;refine⟨_,O,_,K,G,O,A.more (by lia),hc,Ok.tup ?_ λy p=>?_⟩
   ·simp;lia
   ·have old:∀y∈xs,Ok (2*k+2) (K::(T++G)) y:=λy p=>((z y p).on (n:=n+2+10*(e+1)) A).more (by lia);simp only[bf,bt,bi,aF,aE]at p;rcases p with p|rfl|p
    ·exact old y (cA p)
    ·exact C
    ·exact old y (cY p)
  ·rintro V ⟨w,rfl,g,_⟩;walk_at"w";refine Gk g (by lia) s (B.hand g) j.lo F l λx o' G u hc C=>?_;exact⟨x,o',G,O,u.more (by lia),hc,C⟩
def Up(T V:dr):Prop:=(∃G,V=T++G)/\fj V
theorem Up.refl{T:dr}(h:fj T):Up T T:=⟨⟨[],by rw[aN]⟩,h⟩
theorem Up.trans{T V U:dr}(a:Up T V)(b:Up V U):Up T U:=by
 obtain⟨⟨G,rfl⟩,_⟩:=a;obtain⟨⟨c,rfl⟩,h⟩:=b;exact⟨⟨G++c,by rw[bf]⟩,h⟩
theorem Up.app{T V:dr}{o:Ob}(a:Up T V)(h:o.und 0=M):Up T (V++[o]):=by
 refine a.trans ⟨⟨_,O⟩,oJ a.2 λx b=>?_⟩;rw[cN.mp b];exact gB (br _) h
theorem Up.vd{T V:dr}{d:D}(a:Up T V)(h:vd T d=M):vd V d=M:=by
 obtain⟨⟨G,rfl⟩,_⟩:=a;refine sG (λn b=>?_) h;rw[Law.vd]at b ⊢;cases e:T[n]? with
 |none=>rw[e]at b;cases b
 |some x=>
  rw[gL1 (gE1.mp e).1,e];rw[e]at b;exact b
theorem iE{α:Type}{f:α->Bool}(xs:List α):(Ob.lst (xs.map λx=>D.bl (f x))).und 0=M:=by
 rw[Ob.und];exact Mi.dW λ_ _=>rfl
theorem pF{c:FT}{k:FS}{r:Ev}{T:dr}{b:Bool}{Q:Fl×Ev×dr->Prop}(hc:W (c r T) λp=>Up T p.2/\p.1 = !b)(h0:b=J -> ∀V,Up T V->Q (.rt (.bl J),r,V))(h1:b=M -> ∀V,Up T V->W (k r V) Q):W (dG (fh c (ee (mC (D.bl J))) kH) k r T) Q:=by
 obtain⟨⟨f,V⟩,e,a,d⟩:=hc;dsimp only at a d;subst d;unfold dG fh;rw[e,oS1];cases b with
 |false=>exact dA.mpr (h0 O V a)
 |true=>exact h1 O V a
theorem K9{c:FT}{r:Ev}{T:dr}{b:Bool}{Q:Fl×Ev×dr->Prop}(hc:W (c r T) λp=>Up T p.2/\p.1 = !b)(h0:b=J -> ∀V,Up T V->Q (.rt (.bl J),r,V))(h1:b=M -> ∀V,Up T V->Q (.nx,r,V)):W (fh c (ee (mC (D.bl J))) kH r T) Q:=by
 obtain⟨⟨f,V⟩,e,a,d⟩:=hc;dsimp only at a d;subst d;unfold fh;rw[e,oS1];cases b with
 |false=>exact dA.mpr (h0 O V a)
 |true=>exact dA.mpr (h1 O V a)
theorem qo{α:Type}{n:Nat}{S:dr}{xs:List α}{f:α->Bool}{Q:D×dr->Prop}(h:S[n]?=Z (.lst (xs.map λx=>.bl (f x))))(q:Q (.bl (xs.all f),S)):W (lB (.ref n) S) Q:=by
 refine W.of ?_ q;unfold lB;rw[fR h,oS1];dsimp only;rw[vQ (f:=f)];simp
theorem xn{α:Type}{n:Nat}{xs:List α}{f:α->Bool}{S:dr}{Q:D×dr->Prop}(h:S[n]?=Z (.lst (xs.map λx=>D.bl (f x))))(q:Q (.bl (xs.any f),S)):W (nU (.ref n) S) Q:=by
 refine W.of ?_ q;unfold nU;rw[fR h,oS1];dsimp only;have:∀xs:List α,Mi.Dg (xs.map λx=>D.bl (f x))=Z (xs.any f):=by
  intro xs
  induction xs with
  |nil=>rfl
  |cons x xs ih=>rw[mP1,Mi.Dg,ih];rfl
 rw[this];rfl
theorem xm{a:FE}{b:FA}{r:Ev}{S:dr}{Q:List D×dr->Prop}(h:W (a r S) λp=>W (b r p.2) λq=>Q (p.1::q.1,q.2)):W (dn a b r S) Q:=by
 unfold dn;rw[dw];simp only[dw,dA];exact h
theorem kY{f:G1}{a:FE}{r:Ev}{S:dr}{Q:D×dr->Prop}(h:W (a r S) λp=>W (f p.1 p.2) Q):W (mN (b1 f) (dn a dq) r S) Q:=by
 unfold mN;rw[dw];exact xm (h.mono λp b=>W.of O b)
theorem xj{e:FE}{f:D->Bool}{keep:List Nat}{r P:Ev}{T:dr}{xs:List D}{i:Nat}(hi:r[i]? = some (some (.tup xs)))(g:xs.length<=1000)(c:ju 1 keep r=none::P)(hg:∀ x∈xs,W (e (some x::P) T) fun p=>p=(.bl (f x),T)):
  W (mN (b1 lB) (dn (d6 1 keep (e6 (mV i)) (gN 0) ea (dU e)) dq) r T) λp=>p=(.bl (xs.all f),T++[.lst (xs.map λx=>.bl (f x))]):=by
 have b:∀S,mV i r S=Z (.tup xs,S):=λS=>by unfold mV;rw[hi]
 refine kY ?_;rw[fe,iV,b,dA];dsimp only;rw[gh];dsimp only;rw[c];refine(λh=>by rwa [cH]at h:∀{Q},W (fW [] (gN 0) ea (dU e) (xs.map id) (Y::P) T) Q->W (fW [] (gN 0) ea (dU e) xs (Y::P) T) Q) ?_;refine kT (f:=id) (λx=>D.bl (f x)) (λr=>∃x,r=x::P) O xs _ ⟨_,O⟩ ?_ ?_
 ·rintro x a r ⟨y,rfl⟩;unfold gN ea;rw[dA];dsimp only;rw[dA];refine⟨O,?_⟩;refine(hg x a).mono ?_;rintro p rfl;exact⟨O,O,_,O⟩
 ·rintro d _;refine⟨dD (by rw[lM1];lia),?_⟩;refine qo (xs:=xs) (f:=f) (by rw[dL];rfl) ?_;rfl
def natD:D->Nat
 | .int i=>i.toNat
 |_=>0
theorem yK{m:Nat}{d:D}(h:jx m d=M):d = .int (natD d:Nat)/\natD d<m:=by
 cases d with
 |int i=>
  rw[jx,bA1,al,al]at h;rw[natD,Int.toNat_of_nonneg h.1];exact⟨O,by lia⟩
 |_=>cases h
theorem wK{m:Nat}{xs:List D}(h:xs.all (jx m)=M):xs=nmD (xs.map natD) /\ ∀r∈xs.map natD,r<m:=by
 rw[bH]at h;refine⟨?_,λr b=>?_⟩
 ·unfold nmD;rw[bD]
  conv=>lhs;rw[<- cH xs]
  exact cD λx a=>(yK (h x a)).1
 ·obtain⟨x,a,rfl⟩:=ci.mp b;exact(yK (h x a)).2
def inc(rs:List Nat):Bool:=(af (rs.length-1)).all λi=>decide (rs.getD i 0<rs.getD (i+1) 0)
theorem yn{rs:List Nat}:inc rs=M ↔ ∀i,(h:i+1<rs.length)->rs[i]<rs[i+1]:=by
 unfold inc;rw[bH];constructor
 ·intro h i hi;have:=of_decide_eq_true (h i (aB.mpr (by lia)));rw[bM,bM,gG1 hi,gG1 (by lia:i<rs.length)]at this;exact this
 ·intro h i hi;have hi:=aB.mp hi;rw[al,bM,bM,gG1 (by lia:i+1<rs.length),gG1 (by lia:i<rs.length)];exact h i (by lia)
theorem IZ{rs:List Nat}(h:inc rs=M):rs.Pairwise (· < ·):=by
 have a:=yn.mp h;rw[cb];intro i j hi e d;have b:∀k,(h:i+k+1<rs.length)->rs[i]<rs[i+k+1]:=by
  intro k
  induction k with
  |zero=>intro c;exact a i c
  |succ k ih=>intro c;exact bq (ih (by lia)) (a (i+k+1) (by lia))
 have:=b (j-i-1) (by lia);simp only[show i+(j-i-1)+1=j by lia]at this;exact this
theorem Fd(rs:List Nat):(rs.zip (rs.drop 1)).any (λp=>decide (p.2<=p.1)) = !inc rs:=by
 rw[bT,Bool.not_eq_true',<- Bool.not_eq_true,yn,bU];constructor
 ·rintro⟨p,b,a⟩ h;obtain⟨i,hi,rfl⟩:=bW.mp b;rw[List.length_zip,aW]at hi;have h1:=h i (by lia);rw[List.getElem_zip,List.getElem_drop,al]at a;dsimp only at a;simp only[Nat.add_comm 1 i]at a;lia
 ·intro h;refine Classical.byContradiction λd=>h λi hi=>Classical.byContradiction λc=>?_;refine d ⟨(rs[i],rs[i+1]),?_,ah (by show rs[i+1]<=rs[i];lia)⟩;refine bW.mpr ⟨i,by rw[List.length_zip,aW];lia,?_⟩;rw[List.getElem_zip,List.getElem_drop];simp only[Nat.add_comm 1 i]
theorem G8{rs:List Nat}{S:dr}{Q:D×dr->Prop}(c:rs.length<=1000)(q:Q (.bl (inc rs),S)):W (dv 1 hY [.tup (nmD rs)] S) Q:=by
 refine jw O (by rw[D.unds,D.und,fy];rfl) ?_;unfold hY;refine jf ?_;unfold nD;walk_at"w";rw[fg];refine⟨tZ (by lia) (by lia),?_⟩;rw[jN,show((rs.length:Int)-1).toNat=rs.length-1 by lia];have a:∀(i:Nat) (h:i<rs.length) (S:dr),dz (.tup (nmD rs)) (.int (i:Nat)) S=Z (.int (rs[i]:Nat),S):=λi h S=>by
  obtain⟨p,e,rfl⟩:W (dz (.tup (nmD rs)) (.int (i:Nat)) S) λp=>p=(.int (rs[i]:Nat),S):=jT (by unfold nmD;rw[gP1,gG1 h];rfl) O;exact e
 refine kT (f:=λj:Nat=>D.int j) (λi=>D.bl (decide (rs.getD i 0<rs.getD (i+1) 0))) (λb=>∃x,b=[x,Z (.tup (nmD rs))]) O (af (rs.length-1)) _ ⟨_,O⟩ ?_ ?_
 ·rintro i hi b ⟨x,rfl⟩;have hi:=aB.mp hi;have h1:i<rs.length:=by lia
  have h2:i+1<rs.length:=by lia
  ((try walk_at"w");repeat(simp only[a i h1];try walk_at"w"))
  rw[show((i:Int)+1)=((i+1:Nat):Int) by push_cast;rfl]
  ((try walk_at"w");repeat(simp only[a (i+1) h2];try walk_at"w"))
  refine⟨?_,_,O⟩;rw[bM,bM,gG1 h1,gG1 h2];simp
 ·rintro b _;refine⟨dD (by rw[lM1,cW];lia),?_⟩;walk_at"w";refine qo (n:=0) (xs:=af (rs.length-1)) (f:=λi=>decide (rs.getD i 0<rs.getD (i+1) 0)) O ?_
  first|exact⟨rfl,q⟩|(walk_at"w";exact⟨O,q⟩)
def xh(m:Nat):D->Bool
 | .tup xs=> !xs.isEmpty&&(xs.all (jx m)&&inc (xs.map natD))
 |_=>J
def iR(m:Nat):D->Bool
 | .tup xs=>xs.all (xh m)
 |_=>J
structure ChX (n:Nat)(ch:List Nat):Prop where
 lt:∀k∈ch,k<n
 pw:ch.Pairwise (· < ·)
 ne:0<ch.length
theorem CP{n:Nat}:∀{ch:List Nat} {a:Nat},ch.Pairwise (· < ·)->(∀k∈ch,k<n/\a<=k)->ch.length<=n-a
 |[],_,_,_=>br _
 |x::ch,a,h,hk=>by
  rw[b9]at h;have h1:=hk x mS1;have:=CP (a:=x+1) h.2 λk b=>⟨(hk k (mC1 _ b)).1,h.1 k b⟩;rw[lC1];lia
theorem ChX.few{n:Nat}{ch:List Nat}(h:ChX n ch):ch.length<=n:=CP (a:=0) h.pw λk b=>⟨h.lt k b,br _⟩
theorem Ji{m:Nat}{d:D}(h:xh m d=M):∃ch,d=chD ch/\ChX m ch:=by
 cases d with
 |tup xs=>
  rw[xh,bA1,bA1,Bool.not_eq_true']at h;obtain⟨h1,h2,a⟩:=h;obtain⟨e,b⟩:=wK h2;refine⟨xs.map natD,by unfold chD;rw[<- e],b,IZ a,?_⟩;cases xs with
  |nil=>cases h1
  |cons x xs=>simp
 |_=>cases h
theorem ox{m:Nat}{d:D}(h:iR m d=M):∃chs:List (List Nat),d = .tup (chs.map chD) /\ ∀ch∈chs,ChX m ch:=by
 cases d with
 |tup xs=>
  rw[iR,bH]at h
  induction xs with
  |nil=>exact⟨[],O,λch hc=>by cases hc⟩
  |cons x xs ih=>
   obtain⟨chs,e,hc⟩:=ih λy b=>h y (mC1 _ b);obtain⟨ch,rfl,f⟩:=Ji (h x mS1);refine⟨ch::chs,by rw[mP1,<- (D.tup.inj e)],λc a=>?_⟩;rcases aE.mp a with z|z
   ·rw[z];exact f
   ·exact hc c z
 |_=>cases h
theorem Dd{k:Nat}{xs:List D}{x:D}(h:bd k (.tup xs)=M)(hx:x∈xs):bd k x=M:=by
 rw[bd,t5,bA1,bH]at h;exact h.2 x hx
theorem jK{k:Nat}{xs:List D}(h:bd k (.tup xs)=M):xs.length<=k:=by
 rw[bd,bA1,al]at h;exact h.1
theorem xE{S:dr}{xs:List D}{x:D}(h:vd S (.tup xs)=M)(hx:x∈xs):vd S x=M:=by
 rw[vd]at h;exact jU h hx
def Gu:D->Bool
 | .tup xs=>xs.isEmpty
 |_=>J
theorem wU{m:Nat}{d:D}{S:dr}{Q:D×dr->Prop}(u:fj S)(hv:vd S d=M)(hb:bd 1000 d=M)(q:Q (.bl (xh m d),S)):W (dv 2 gt [.int m,d] S) Q:=by
 refine sj O u (by rw[hL,hL,hv,hL,vd];rfl) λT n j=>?_;have g:vd T d=M:=jU j (by simp);have h1:=ly g;unfold gt;refine jf ?_;unfold nE;refine pF (b:=vg d && !Gu d) ?_ ?_ ?_
 ·cases ht:vg d with
  |false=>
   ((try walk_at"w");repeat(simp only[gp,h1,ht];try walk_at"w"))
   exact⟨Up.refl n,O⟩
  |true=>
   obtain⟨xs,rfl⟩:=jI ht
   ((try walk_at"w");repeat(simp only[gp,h1,ht];try walk_at"w"))
   refine⟨Up.refl n,?_⟩;cases xs with
   |nil=>rfl
   |cons x xs=>exact beq_eq_false_iff_ne.mpr (by push_cast [lC1];lia)
 ·intro a V c;refine ⟨c.1,rfl,?_⟩;have:xh m d=false:=by
   cases d with
   |tup xs=>
    rw[xh];rw[show vg (.tup xs)=M from rfl,cC]at a;rw[Gu]at a;rw[a];rfl
   |_=>rfl
  rw[this]at q;exact q
 ·intro a V c;rw[bA1]at a;obtain⟨xs,rfl⟩:=jI a.1;have k:=a.2;rw[Gu]at k;have t:xh m (.tup xs)=(xs.all (jx m)&&inc (xs.map natD)):=by rw[xh,k];rfl
  rw[t]at q;have s:=xj (e:=mN (dv 2 gP) (dn (mV 0) (dn (mV 1) dq))) (f:=jx m) (keep:=[0]) (r:=fI 2 [.int m,.tup xs]) (P:=[Z (.int m)]) (T:=V) (xs:=xs) (i:=1) O (jK hb) O λx o=>by
   walk_at"w";exact FM c.2 (c.vd (xE g o)) O
  obtain⟨p,e,rfl⟩:=s;have h:=c.app (iE (f:=jx m) xs);unfold ee;rw[dw];unfold gv;rw[dw];refine W.of e ?_;cases hall:xs.all (jx m)with
  |false=>
   rw[hall]at q;walk_at"w";exact⟨h.1,O,q⟩
  |true=>
   obtain⟨l,_⟩:=wK hall;rw[hall,cC]at q;walk_at"w";rw[l];refine G8 (by rw[lM1];exact jK hb) ?_;walk_at"w";refine⟨?_,O,q⟩;rw[<- l];exact h.1
theorem ml{m:Nat}{d:D}{S:dr}{Q:D×dr->Prop}(j:fj S)(hv:vd S d=M)(hb:bd 1000 d=M)(q:Q (.bl (iR m d),S)):W (dv 2 fF [.int m,d] S) Q:=by
 refine sj O j (by rw[hL,hL,hv,hL,vd];rfl) λT k b=>?_;have a:vd T d=M:=jU b (by simp);have h1:=ly a;unfold fF;refine jf ?_;unfold lm;unfold ee;rw[dw];unfold gv;rw[dw];cases ht:vg d with
 |false=>
  ((try walk_at"w");repeat(simp only[gp,h1,ht];try walk_at"w"))
  have:iR m d=J:=by
   cases d with
   |tup xs=>cases ht
   |_=>rfl
  rw[this]at q;exact⟨⟨[],(aN T).symm⟩,O,q⟩
 |true=>
  obtain⟨xs,rfl⟩:=jI ht;rw[iR]at q;have g:gx .tuple (mV 1) (fI 2 [.int m,.tup xs]) T=Z (.bl M,T):=by
   obtain⟨p,e,rfl⟩:W (gx .tuple (mV 1) (fI 2 [.int m,.tup xs]) T) λp=>p=(.bl true,T):=by
    ((try walk_at"w");repeat(simp only[gp,h1,ht];try walk_at"w"))
   exact e
  refine W.of g ?_;dsimp only;have h:=xj (e:=mN (dv 2 gt) (dn (mV 1) (dn (mV 0) dq))) (f:=xh m) (keep:=[0]) (r:=fI 2 [.int m,.tup xs]) (P:=[Z (.int m)]) (T:=T) (xs:=xs) (i:=1) O (jK hb) O λx c=>by
   walk_at"w";exact wU k (xE a c) (Dd hb c) O
  obtain⟨p,e,rfl⟩:=h;rw[e];walk_at"w";exact⟨⟨_,O⟩,O,q⟩
theorem C7{r:Ev}{S:dr}{j:Int}{a b:Int}{Q:D×dr->Prop}(h1:r[1]?=Z (Z (.int a)))(h0:r[0]?=Z (Z (.int j)))(h2:r[2]?=Z (Z (.int b)))(q:Q (.bl (decide (a<=j)&&decide (j<=b)),S)):W (EL (b2 (gR λi j=>decide (i<=j))) (b2 (gR λi j=>decide (i<=j))) (mV 1) (mV 0) (mV 2) r S) Q:=by
 have d:∀S,mV 0 r S=Z (.int j,S):=λS=>by unfold mV;rw[h0]
 have c:∀S,mV 1 r S=Z (.int a,S):=λS=>by unfold mV;rw[h1]
 have e:∀S,mV 2 r S=Z (.int b,S):=λS=>by unfold mV;rw[h2]
 rw[Gx,c,dA];dsimp only;rw[d,dA];dsimp only;unfold b2 gR;dsimp only;rw[dA];dsimp only;cases h:decide (a<=j)with
 |false=>
  rw[aj (by decide),dA];rw[h]at q;exact q
 |true=>
  rw[ak O,e,dw,dA];rw[h]at q;exact W.of O q
theorem BS{m:Nat}{d:D}{S:dr}{Q:D×dr->Prop}(g:fj S)(hv:vd S d=M)(q:Q (.bl (jx m d),S)):W (dv 3 eA [d,.int 0,.int ((m:Int)-1)] S) Q:=by
 refine sj O g (by rw[hL,hL,hL,hv,hL,vd,vd];rfl) λT h f=>?_;have c:=vd1' f;have h1:=wd c;have h2:=sH c;unfold eA;refine jf ?_;unfold iq
 ((try walk_at"w");repeat(simp only[gp,h1,h2];try walk_at"w"))
 cases d with
 |int i=>
  simp only[isI,K6,Bool.or_false,Bool.not_false,if_true];have e:(decide ((0:Int)<=i)&&decide (i<=(m:Int)-1))=jx m (.int i):=by rw[jx];congr 1;rw[decide_eq_decide];lia
  try walk_at"w"
  refine C7 (a:=0) (j:=i) (b:=(m:Int)-1) O O O ?_;rw[e];exact⟨⟨[],(aN T).symm⟩,O,q⟩
 |bl b=>
  simp only[isI,K6,Bool.or_true,b6,if_true];exact⟨⟨[],(aN T).symm⟩,O,q⟩
 |_=>exact⟨⟨[],(aN T).symm⟩,O,q⟩
theorem u9{c:List (Nat×List D)}{g:FG}{b:FS}{Q:Fl×Ev×dr->Prop}(I:Nat->Ev->dr->Prop):∀ (items:List D) (k:Nat) (r:Ev) (S:dr),I k r S ->
  (∀i r S,I i r S->qx S c=M) ->
  (∀i d,items[i]?=Z d -> ∀r S,I (k+i) r S->W (g d r S) λp=>W (b p.1 p.2) λq=>(q.1 = .nx/\I (k+i+1) q.2.1 q.2.2) \/ ∃v,q.1 = .rt v/\Q (.rt v,q.2)) ->
  (∀r S,I (k+items.length) r S->Q (.nx,r,S))->W (jO c g b items r S) Q:=by
 intro items
 induction items with
 |nil=>intro k r S hi a _ j;rw[jO];dsimp only;rw[ak (a _ _ _ hi),dA];exact j r S (by simpa using hi)
 |cons d ds ih=>
  intro k r S hi a l j;rw[jO];dsimp only;rw[ak (a _ _ _ hi),dw];obtain⟨p,n,⟨f,o,u⟩,s,h⟩:=l 0 d O r S (by simpa using hi);refine⟨p,n,?_⟩;dsimp only;rw[dw];refine⟨_,s,?_⟩;dsimp only at h ⊢;rcases h with⟨rfl,e⟩|⟨v,rfl,m⟩
  ·exact ih (k+1) o u e a (fun i d t r S e=>by
    have:=l (i+1) d t r S (by rw[show k+(i+1)=k+1+i by lia];exact e);rw[show k+(i+1)+1=k+1+i+1 by lia]at this;exact this) λr S e=>j r S (by rw[lC1,show k+(ds.length+1)=k+1+ds.length by lia];exact e)
  ·exact dA.mpr m
theorem Gd{a b:FS}{r:Ev}{S:dr}{Q:Fl×Ev×dr->Prop}(h:W (a r S) λp=>(p.1 = .nx/\W (b p.2.1 p.2.2) Q) \/ ∃v,p.1 = .rt v/\Q (.rt v,p.2)):W (dG a b r S) Q:=by
 obtain⟨⟨f,c,d⟩,e,h⟩:=h;unfold dG;rw[e];dsimp only at h;rcases h with⟨rfl,h⟩|⟨v,rfl,h⟩
 ·exact h
 ·exact dA.mpr h
theorem LL{m:FA}{r:Ev}{S:dr}{xs ys:List D}{Q:An×dr->Prop}(hm:m r S=Z ([.tup xs,.tup ys],S))(q:Q (⟨ui xs ys,[]⟩,S)):W (Cy m r S) Q:=by
 refine W.of ?_ q;unfold Cy;rw[hm];rfl
theorem F5:∀a b:List Nat,ui (nmD a) (nmD b)=(a.zip b).map λp=>D.tup [.int p.1,.int p.2]
 |[],_=>rfl
 |_::_,[]=>rfl
 |x::a,y::b=>by
  have:=F5 a b;unfold nmD at this ⊢;rw[mP1,mP1,ui,bX,mP1,this]
theorem Lq{d:D}{r:Ev}{T:dr}{i:Nat}(b:fj T)(hi:r[i]?=Z (Z d))(hv:vd T d=M):W (wP (iz (mTr (gx .tuple (mV i)))) (mB (m2 (b2 gEq) (mV i) (d8 dq))) r T) λp=>Up T p.2/\p.1 = !(vg d && !Gu d):=by
 have h1:=ly hv;have e:∀S,mV i r S=Z (d,S):=λS=>by unfold mV;rw[hi]
 have a:gx .tuple (mV i) r T=Z (.bl (vg d),T):=by
  obtain⟨p,e,rfl⟩:W (gx .tuple (mV i) r T) λp=>p=(.bl (vg d),T):=by
   rw[gp,e,dA];dsimp only;rw[h1,dA]
  exact e
 have ne:∀xs:List D,gEq (.tup xs) (.tup []) T=Z (.bl xs.isEmpty,T):=λxs=>by cases xs<;>rfl
 cases ht:vg d with
 |false=>
  rw[ht]at a;refine W.of (x:=(M,T)) ?_ ⟨Up.refl b,O⟩;simp only[wP,iz,mTr,a,oS1,ms,oP1,Bool.not_false,if_true]
 |true=>
  obtain⟨xs,rfl⟩:=jI ht;rw[ht]at a;refine W.of (x:=(xs.isEmpty,T)) ?_ ⟨Up.refl b,by rw[Gu,cC,Bool.not_not]⟩;have c:mB (m2 (b2 gEq) (mV i) (d8 dq)) r T=Z (xs.isEmpty,T):=by
   obtain⟨p,e,rfl⟩:W (mB (m2 (b2 gEq) (mV i) (d8 dq)) r T) λp=>p=(xs.isEmpty,T):=by
    unfold mB m2;rw[dw,dw,e,dA];dsimp only
    ((try walk_at"w");repeat(simp only[ne];try walk_at"w"))
   exact e
  simp only[wP,iz,mTr,a,oS1,ms,oP1,b6,bF1,if_false,c]
theorem zB{m:Nat}{k d:D}{T:dr}{Q:Fl×Ev×dr->Prop}(u:fj T)(hv:vd T d=M)(hb:bd 1000 d=M)(q:∀V,Up T V->Q (if xh m d=M then .nx else .rt (.bl J),[Z (.int (m:Nat)),Z k,Z d],V)):W (fK [Z (.int (m:Nat)),Z k,Z d] T) Q:=by
 unfold fK;have g:xh m d=(vg d && !Gu d&&(match d with | .tup xs=>xs.all (jx m)&&inc (xs.map natD)|_=>false)):=by
  cases d with
  |tup xs=>rw[xh,Gu];rfl
  |_=>rfl
 refine pF (b:=vg d && !Gu d) (Lq u O hv) (λh V c=>?_) λh V c=>?_
 ·have:=q V c;rw[g,h,aL]at this;exact this
 rw[h,cC]at g;rw[bA1]at h;obtain⟨xs,rfl⟩:=jI h.1;dsimp only at g;have w:=xj (e:=mN (dv 3 eA) (dn (mV 0) (dn (mC (D.int 0)) (dn (m2 (b2 gSub) (mV 1) (mC (D.int 1))) dq)))) (f:=jx m) (keep:=[0]) (r:=[Z (.int (m:Nat)),Z k,Z (.tup xs)]) (P:=[Z (.int (m:Nat))]) (T:=V) (xs:=xs) (i:=2) O (jK hb) O λx v=>by
  walk_at"w";exact BS c.2 (c.vd (xE hv v)) O
 obtain⟨p,e,rfl⟩:=w;have o:=c.app (iE (f:=jx m) xs);have hc:W (iz (mTr (mN (b1 lB) (dn (d6 1 [0] (e6 (mV 2)) (gN 0) ea (dU (mN (dv 3 eA) (dn (mV 0) (dn (mC (D.int 0)) (dn (m2 (b2 gSub) (mV 1) (mC (D.int 1))) dq)))))) dq))) [Z (.int (m:Nat)),Z k,Z (.tup xs)] V) λp=>Up V p.2/\p.1 = !xs.all (jx m):=by
  refine W.of (x:=(!xs.all (jx m),V++[.lst (xs.map λx=>.bl (jx m x))])) ?_ ⟨⟨⟨_,O⟩,o.2⟩,O⟩;simp only[iz,mTr,e,oS1,ms,oP1]
 refine pF (b:=xs.all (jx m)) hc (λh2 U l=>?_) λh2 U l=>?_
 ·have:=q U (c.trans l);rw[g,h2,aL]at this;exact this
 rw[h2,cC]at g;obtain⟨t,_⟩:=wK h2;have A:=jK hb;have j:=c.trans l;refine K9 (b:=inc (xs.map natD)) ?_ (λs wq n=>?_) λs wq n=>?_
 ·unfold mTr;rw [dw];refine kY ?_;rw [fe];have z:dn (mV 2) (dn (ic (mV 2) (eW (mC (D.int 1))) fv) dq) [some (.int (m:Nat)),some k,some (.tup xs)] U=some ([.tup (nmD (xs.map natD)),.tup (nmD ((xs.map natD).drop 1))],U):=by
   have:nmD ((xs.map natD).drop 1)=Mi.gn xs (Z ((1:Nat):Int)) Y:=by
    rw[Fw]
    conv=>rhs;rw[t]
    unfold nmD;rw[List.map_drop]
   rw[this,<- t];rfl
  refine LL z ?_;rw[F5];refine kT (f:=λp:Nat×Nat=>D.tup [.int p.1,.int p.2]) (λp=>D.bl (decide (p.2<=p.1))) (λr=>∃a b,r=[a,b]) O _ _ ⟨_,_,O⟩ ?_ ?_
  ·rintro⟨x,y⟩ _ r ⟨a,b,rfl⟩;walk_at"w";refine⟨?_,_,_,O⟩;simp
  ·rintro B _;refine⟨dD (by rw[lM1,List.length_zip,lM1];lia),?_⟩;refine xn (xs:=(xs.map natD).zip ((xs.map natD).drop 1)) (f:=λp=>decide (p.2<=p.1)) (by rw[dL];rfl) ?_;rw[Fd];exact W.of O ⟨⟨⟨_,O⟩,((Up.refl j.2).app (iE _)).2⟩,O⟩
 ·have:=q wq (j.trans n);rw[g,s]at this;exact this
 ·have:=q wq (j.trans n);rw[g,s]at this;exact this
theorem li{m:Nat}{d:D}{S:dr}{Q:D×dr->Prop}(n:fj S)(hv:vd S d=M)(hb:bd 1000 d=M)(q:Q (.bl (iR m d),S)):W (dv 2 eG [.int m,d] S) Q:=by
 refine sj O n (by rw[hL,hL,hv,hL,vd];rfl) λT o j=>?_;have e:vd T d=M:=jU j (by simp);have h1:=ly e;unfold eG;refine jf ?_;unfold iT;refine pF (b:=vg d) ?_ (λh V f=>?_) λh V f=>?_
 ·((try walk_at"w");repeat(simp only[gp,h1];try walk_at"w"))
  exact⟨Up.refl o,trivial⟩
 ·have:iR m d=false:=by
   cases d with
   |tup xs=>cases h
   |_=>rfl
  rw[this]at q;exact⟨f.1,O,q⟩
 obtain⟨xs,rfl⟩:=jI h;rw[iR]at q;refine Gd ?_;unfold fD;rw[dw,iV];refine W.of (x:=(.tup xs,V)) O ?_;dsimp only;rw[gh];dsimp only;refine u9 (λi r U=>Up T U/\(xs.take i).all (xh m)=M /\ ∃x2,r=[Z (.int (m:Nat)),Z (.tup xs),x2]) xs 0 _ _ ⟨f,O,_,O⟩ (λ_ _ _ _=>rfl) ?_ ?_
 ·rintro i x k r U ⟨c,a,x2,rfl⟩;have g:=gM1 k;walk_at"w";refine zB c.2 (c.vd (xE e g)) (Dd hb g) λwq l=>?_;rw[bQ]at a ⊢;cases hc:xh m x with
  |true=>
   refine .inl ⟨O,c.trans l,?_,_,O⟩;rw[cj,k,cM,a];simp[hc]
  |false=>
   refine .inr ⟨_,O,.inr ⟨_,O,(c.trans l).1,O,?_⟩⟩;have:xs.all (xh m)=J:=by
    rw[<- Bool.not_eq_true,bH];intro h;rw[h x g]at hc;cases hc
   rw[this]at q;exact q
 ·rintro r U ⟨c,a,x2,rfl⟩;rw[bQ,b0]at a;rw[a]at q;refine .inl ⟨O,?_⟩;walk_at"w";exact⟨c.1,O,q⟩
theorem om{α:Type}[DecidableEq α]{S:dr}{n:Nat}{f:α->D}(h:∀a b,lC S n (f a) (f b)=Z (decide (a=b))):∀as bs:List α,vV (lC S n) (as.map f) (bs.map f)=Z (decide (as=bs))
 |[],[]=>rfl
 |[],b::bs=>by rw[ai (by simp)];rfl
 |a::as,[]=>by rw[ai (by simp)];rfl
 |a::as,b::bs=>by
  rw[mP1,mP1,vV,h,om h as bs,oS1,oP1];refine congrArg Z ?_;rw[bT,bA1,al,al,al,List.cons.injEq]
theorem I0{S:dr}{n:Nat}(a b:List Nat):lC S (n+2) (.tup (nmD a)) (.tup (nmD b))=Z (decide (a=b)):=by
 rw[show n+2=n+1+1 from rfl,Lp];refine om (λx y=>?_) a b;show Z ((x:Int) == (y:Int))=_;refine congrArg Z ?_;rw[bT,beq_iff_eq,al];lia
theorem Lj{S:dr}{n:Nat}(u v:Wk):lC S (n+2) (eO u) (eO v)=Z (decide (u=v)):=by
 rw[show n+2=n+1+1 from rfl];show lC S (n+1+1) (.tup [.int (u.1:Nat),.int (u.2.1:Nat),.int (u.2.2:Nat)]) (.tup [.int (v.1:Nat),.int (v.2.1:Nat),.int (v.2.2:Nat)])=_;rw[Lp];have:=om (S:=S) (n:=n+1) (f:=λx:Nat=>D.int x) (λx y=>by
  show Z ((x:Int) == (y:Int))=_;refine congrArg Z ?_;rw[bT,beq_iff_eq,al];lia) [u.1,u.2.1,u.2.2] [v.1,v.2.1,v.2.2]
 simp only[mP1,bj]at this;rw[this];refine congrArg Z ?_;rw[decide_eq_decide];obtain⟨a,b,c⟩:=u;obtain⟨d,e,f⟩:=v;simp
theorem Gs{S:dr}(a b:Wh):gEq (whD a) (whD b) S=Z (.bl (decide (a=b)),S):=by
 show(lC S (57+2+1) (.tup [.tup (a.1.map eO),.tup (nmD a.2)]) (.tup [.tup (b.1.map eO),.tup (nmD b.2)])).map _=_;have h1:lC S (57+2) (.tup (a.1.map eO)) (.tup (b.1.map eO))=Z (decide (a.1=b.1)):=by
  rw[show 57+2=56+2+1 from rfl,Lp];exact om Lj a.1 b.1
 rw[Lp,vV,h1,vV,I0,vV];simp only[oS1,oP1,bP];refine congrArg Z ?_;refine congrArg (λz=>(D.bl z,S)) ?_;rw[bT,bA1,al,al,al];obtain⟨x,y⟩:=a;obtain⟨z,w⟩:=b;simp
def nQ(a:Wh):Bool:=match a.1 with
 |[]=>M
 |u::us=>us.all λv=>decide (v.1=u.1)
theorem E5{a:Wh}{S:dr}{Q:D×dr->Prop}(h0:0<a.1.length)(k:a.1.length<=100)(q:Q (.bl (nQ a),S)):W (dv 1 iM [whD a] S) Q:=by
 refine jw O (by rw[D.unds,kx];rfl) ?_;obtain⟨ws,cs⟩:=a;cases ws with
 |nil=>cases h0
 |cons u d=>
  dsimp only at k;rw[nQ]at q;dsimp only at q;have i:∀S,dz (whD (u::d,cs)) (.int 0) S=Z (.tup ((u::d).map eO),S):=λS=>rfl;have h:∀S,dz (.tup ((u::d).map eO)) (.int 0) S=Z (eO u,S):=λS=>by
   obtain⟨p,e,rfl⟩:W (dz (.tup ((u::d).map eO)) (.int ((0:Nat):Int)) S) λp=>p=(eO u,S):=jT O O;exact e
  have g:∀S,dz (eO u) (.int 0) S=Z (.int (u.1:Nat),S):=λS=>rfl;unfold iM;refine jf ?_;unfold vN;refine d4 (λr V=>V=[]/\r=[Z (whD (u::d,cs)),Z (.int (u.1:Nat))]) ?_ ?_
  ·rw [show fI 2 [whD (u::d,cs)]=[some (whD (u::d,cs)),none] from rfl];have j:m2 (b2 dz) (m2 (b2 dz) (m2 (b2 dz) (mV 0) (mC (D.int 0))) (mC (D.int 0))) (mC (D.int 0)) [some (whD (u::d,cs)),none] []=some (.int (u.1:Nat),[]):=by
    simp only[m2,b2,mV,mC,cK,oS1,i,h,g]
   unfold dH;rw[dw];refine W.of j ?_;exact W.of O ⟨O,O,O⟩
  rintro r V ⟨rfl,rfl⟩;unfold ee;rw[dw];refine kY ?_;rw[fe,iV];refine W.of (x:=(.tup ((u::d).map eO),[])) O ?_;dsimp only;rw[gh];dsimp only;rw[show ju 3 [1] [Z (whD (u::d,cs)),Z (D.int (u.1:Nat))]=[Y,Y,Y,Z (.int (u.1:Nat))]from rfl];refine kT (f:=eO) (λv=>D.bl (decide (v.1=u.1))) (λr=>∃a b c,r=[a,b,c,Z (.int (u.1:Nat))]) O (u::d) _ ⟨_,_,_,O⟩ ?_ ?_
  ·rintro v _ r ⟨a,b,c,rfl⟩;unfold eO;walk_at"w";refine⟨?_,_,_,_,O⟩;refine congrArg D.bl ?_;rw[bT,beq_iff_eq,al];lia
  ·rintro l _;refine⟨dD (by rw[lM1];lia),?_⟩;refine qo (n:=0) (xs:=u::d) (f:=λv=>decide (v.1=u.1)) O ?_;rw[bS,ah O,cC];exact W.of O ⟨O,q⟩
theorem IP{n:Nat}{S:dr}{kvs:List (Key×D)}(h:S[n]?=Z (.dct kvs)):pI (.ref n) S=Z (.int kvs.length,S):=by
 simp only[pI,h]
theorem wA{l:List Wk}:mE (l.map λv=>D.tup [.int (v.1:Nat),.bl M])=Z (l.map λv=>((.inl (v.1:Nat):Key),D.bl M)):=by
 induction l with
 |nil=>rfl
 |cons v l ih=>rw[mP1,mE,ih];rfl
theorem IM{a:Wh}{S:dr}{Q:D×dr->Prop}(h0:0<a.1.length)(k:a.1.length<=100)(q:Q (.bl (nQ a),S)):W (dv 1 gk [whD a] S) Q:=by
 refine jw O (by rw[D.unds,kx];rfl) ?_;obtain⟨ws,cs⟩:=a;cases ws with
 |nil=>cases h0
 |cons u c=>
  dsimp only at k;rw[nQ]at q;dsimp only at q;unfold gk;refine jf ?_;unfold qj;rw[show fI 1 [whD (u::c,cs)]=[Z (whD (u::c,cs))]from rfl];unfold ee;rw[dw];refine qT ?_;refine kY ?_;refine kY ?_;rw[fe,iV];refine W.of (x:=(.tup ((u::c).map eO),[])) O ?_;dsimp only;rw[gh];dsimp only;rw[show ju 1 [] [Z (whD (u::c,cs))]=[Y]from rfl];refine kT (f:=eO) (λv=>D.tup [.int (v.1:Nat),.bl M]) (λr=>∃a,r=[a]) O (u::c) _ ⟨_,O⟩ ?_ ?_
  ·rintro v _ r ⟨a,rfl⟩;unfold eO;walk_at"w";refine jT (i:=0) O ?_;walk_at"w";exact⟨_,O⟩
  ·rintro l _;refine ⟨dD (by rw [lM1];lia),?_⟩;dsimp only;have e:pK (.ref 0) [.lst ((u::c).map fun v=>D.tup [.int (v.1:Nat),.bl true])]=some (.ref 1,[.lst ((u::c).map fun v=>D.tup [.int (v.1:Nat),.bl true]),.dct (vq ((u::c).map fun v=>((.inl (v.1:Nat):Key),D.bl true)))]):=by
    unfold pK;rw[fR (n:=0) O];dsimp only;rw[wA,oS1,ak (by rw[lM1];lia)];rfl
   refine W.of e ?_;refine W.of (IP (n:=1) O) ?_;refine W.of (x:=(.int 1,_)) O ?_;have b:=zP (α:=Nat) (f:=λx:Nat=>(.inl (x:Int):Key)) (λx y h=>by have:=Sum.inl.inj h;lia) (d:=.bl M) u.1 (c.map λv=>v.1);have j:(u.1::c.map λv=>v.1).map (λx:Nat=>((.inl (x:Int):Key),D.bl M))=(u::c).map λv=>((.inl (v.1:Nat):Key),D.bl M):=by rw[mP1,mP1,bD];rfl
   rw[j]at b;generalize vq ((u::c).map λv=>((.inl (v.1:Nat):Key),D.bl M))=F at b ⊢;refine W.of (x:=(.bl (((F.length:Nat):Int) == 1),_)) O ?_;have g:(((F.length:Nat):Int) == 1)=c.all λv=>decide (v.1=u.1):=by
    rw[List.all_map]at b;rw[bT]at b ⊢;rw[beq_iff_eq]at b ⊢;exact⟨λh=>b.mp (by lia),λh=>by have:=b.mpr h;lia⟩
   rw[g];exact W.of O ⟨O,q⟩
theorem Df{g:FN}{r:Ev}{T:dr}{n i:Nat}{b:List Wh}(hi:r[i]? = some (some (.ref n)))(hn:T[n]? = some (.lst (b.map whD)))(h:b.length<=1000)(hg:∀ a∈b,∀ Q:D×dr->Prop,Q (.bl (nQ a),T)->W (dv 1 g [whD a] T) Q):
  W (mN (b1 nU) (dn (d6 1 [] (e6 (mV i)) (gN 0) ea (dU (mN (dv 1 g) (dn (mV 0) dq)))) dq) r T) λp=>p=(.bl (b.any nQ),T++[.lst (b.map λa=>.bl (nQ a))]):=by
 have c:∀S,mV i r S=Z (.ref n,S):=λS=>by unfold mV;rw[hi]
 refine kY ?_;rw[fe,iV,c,dA];dsimp only;refine eh hn ?_;dsimp only;rw[show ju 1 [] r=[Y]from rfl];refine kT (f:=whD) (λa=>D.bl (nQ a)) (λr=>∃x,r=[x]) (fS hn) b _ ⟨_,O⟩ ?_ ?_
 ·rintro a d r ⟨y,rfl⟩;walk_at"w";refine hg a d _ ?_;exact⟨O,O,_,O⟩
 ·rintro e _;refine⟨dD (by rw[lM1];lia),?_⟩;refine xn (xs:=b) (f:=nQ) (by rw[dL];rfl) ?_;rfl
def GV(n:Nat)(chs:List (List Nat)):Bool:=(af n).all λk=>chs.any λch=>ch.contains k
def Jc(n m:Nat)(w:dB)(e:E4)(L:List Rw)(a:Wh)(c1 c2:List (List Nat)):Bool:=
 GV n c2&&(decide (eX m w e L c1 a=eX m w e L (c1++c2) a) && !((WsC m w e L (c1++c2) a).any nQ))
def Nb:D->List Nat
 | .tup ys=>ys.map natD
 |_=>[]
def Fx:D->List (List Nat)
 | .tup xs=>xs.map Nb
 |_=>[]
theorem mf(chs:List (List Nat)):Fx (.tup (chs.map chD))=chs:=by
 rw[Fx,bD]
 conv=>rhs;rw[<- cH chs]
 refine cD λch _=>?_;show Nb (chD ch)=ch;unfold chD nmD;rw[Nb,bD]
 conv=>rhs;rw[<- cH ch]
 refine cD λx _=>?_;show natD (.int (x:Nat))=x;rw[natD,Int.toNat_natCast]
def xa(n m:Nat)(w:dB)(e:E4)(L:List Rw)(a:Wh)(x y:D):Bool:=(iR n x&&iR n y)&&Jc n m w e L a (Fx x) (Fx y)
theorem Jk{n:Nat}{f:FN}{as bs:List D}{S:dr}{Q:D×dr->Prop}(hn:(as++bs).length=n)(b:fj S)(ha:D.unds 0 as=M)(hv:hL S bs=M)(h:∀T,fj T->hL T bs=M->W (f (as++bs) T) λp=>(∃G,p.2=T++G)/\p.1.und 0=M/\Q (p.1,S)):W (dv n f (as++bs) S) Q:=by
 cases hu:D.unds 0 (as++bs)with
 |true=>
  have c:D.unds 0 bs=M:=by
   rw[kA,cM,bA1]at hu;rw[kA];exact hu.2
  exact jw hn hu ((h [] rfl (oE hv c)).mono λp q=>⟨q.2.1,q.2.2⟩)
 |false=>
  refine jP hn hu ((h S b hv).mono ?_);rintro⟨d,V⟩ ⟨⟨G,e⟩,a,q⟩;dsimp only at e a q;subst e;rw[pG a b];exact q
theorem K7{x:Nat}{ch:List Nat}{S:dr}:fZ (.int (x:Nat)) (chD ch) S=Z (.bl (ch.contains x),S):=Cs
theorem AZ{k:Nat}{cs:List (List Nat)}{V:dr}{r:Ev}(d:cs.length<=1000)(h0:r[0]? = some (some (.int (k:Nat))))(h1:r[1]? = some (some (.tup (cs.map chD)))):
  W (mN (b1 nU) (dn (d6 1 [0] (e6 (mV 1)) (gN 0) ea (dU (m2 (b2 fZ) (mV 1) (mV 0)))) dq) r V) λp=>p.1 = .bl (cs.any λch=>ch.contains k) /\ ∃xs,p.2=V++[.lst xs]/\(Ob.lst xs).und 0=M:=by
 have b:∀S,mV 1 r S=Z (.tup (cs.map chD),S):=λS=>by unfold mV;rw[h1]
 have a:ju 1 [0] r=[Y,Z (.int (k:Nat))]:=by unfold ju;simp[h0]
 refine kY ?_;rw[fe,iV,b,dA];dsimp only;rw[gh];dsimp only;rw[a];refine kT (f:=chD) (λch=>D.bl (ch.contains k)) (λr=>∃x,r=[x,Z (.int (k:Nat))]) O cs _ ⟨_,O⟩ ?_ ?_
 ·rintro ch _ r ⟨y,rfl⟩
  ((try walk_at"w");repeat(simp only[K7];try walk_at"w"))
  exact⟨_,O⟩
 ·rintro c _;refine⟨dD (by rw[lM1];lia),?_⟩;refine xn (xs:=cs) (f:=λch=>ch.contains k) (by rw[dL];rfl) ?_;exact⟨O,_,O,iE _⟩
theorem DK{n:Nat}{cs:List (List Nat)}{V:dr}{r:Ev}(hn:n<=100)(s:cs.length<=1000)(j:fj V)(l:r[5]? = some (some (.int (n:Nat))))(m:r[4]? = some (some (.tup (cs.map chD)))):
  W (mN (b1 lB) (dn (d6 1 [4] (nS (dn (mV 5) dq)) (gN 0) ea (dU (mN (b1 nU) (dn (d6 1 [0] (e6 (mV 1)) (gN 0) ea (dU (m2 (b2 fZ) (mV 1) (mV 0)))) dq)))) dq) r V) λp=>p.1 = .bl (GV n cs)/\Up V p.2:=by
 have q:∀S,dn (mV 5) dq r S=Z ([.int (n:Nat)],S):=λS=>by simp only[dn,dq,mV,l,oS1]
 have h:ju 1 [4] r=[Y,Z (.tup (cs.map chD))]:=by unfold ju;simp[m]
 refine kY ?_;rw[fe,nL,q,dA];unfold Bf;dsimp only;rw[Int.toNat_natCast];refine⟨gF (by lia),?_⟩;rw[h,jN];refine iA (λi a r S=>i<=n/\Up V S/\a=(af i).map (λk=>D.bl (cs.any λch=>ch.contains k)) /\ ∃x,r=[x,Z (.tup (cs.map chD))]) _ 0 [] _ _ ⟨br _,Up.refl j,O,_,O⟩ (λ_ _ _ _ _=>rfl) ?_ ?_
 ·rintro i d b a r S ⟨hi,e,rfl,x,rfl⟩;have c:=(gE1.mp b).1;rw[lM1,cW]at c;rw[gP1,cr c]at b;have b:=(Option.some.inj b).symm;subst b;rw[bQ]at *
  unfold gN ea;rw[dA];dsimp only;rw[dA,ak O];refine(AZ (k:=i) s O O).mono ?_;rintro⟨p,U⟩ ⟨h1,xs,h2,o⟩;dsimp only at h1 h2 ⊢;subst h1 h2;exact⟨by lia,e.app o,by rw[List.range_succ,cg];rfl,_,O⟩
 ·rintro xs r S ⟨hi,e,g,x,rfl⟩;rw[lM1,cW,bQ]at *
  rw[bi]at g;subst g;refine⟨dD (by rw[lM1,cW];lia),?_⟩;refine qo (xs:=af n) (f:=λk=>cs.any λch=>ch.contains k) (by rw[dL];rfl) ?_;exact⟨O,e.app (iE _)⟩
theorem Bd{m:FE}{r:Ev}{S:dr}{Q:Fl×Ev×dr->Prop}(h:W (m r S) λp=>Q (.rt p.1,r,p.2)):W (ee m r S) Q:=by
 unfold ee;rw[dw];exact h.mono λp a=>dA.mpr a
theorem pV{n:Nat}{x y:D}{i j k:Nat}{g:FN}{r:Ev}{T:dr}(l:fj T)(hk:r[k]? = some (some (.int (n:Nat))))(hi:r[i]? = some (some x))(f:r[j]? = some (some y))(hg:∀ d,d=x\/d=y->W (dv 2 g [.int n,d] T) fun p=>p=(.bl (iR n d),T)):
  W (wP (iz (mTr (mN (dv 2 g) (dn (mV k) (dn (mV i) dq))))) (iz (mTr (mN (dv 2 g) (dn (mV k) (dn (mV j) dq))))) r T) λp=>Up T p.2/\p.1 = !(iR n x&&iR n y):=by
 have a:∀S,mV k r S=Z (.int (n:Nat),S):=λS=>by unfold mV;rw[hk]
 have h:∀S,mV i r S=Z (x,S):=λS=>by unfold mV;rw[hi]
 have e:∀S,mV j r S=Z (y,S):=λS=>by unfold mV;rw[f]
 obtain⟨_,c,rfl⟩:=hg x (.inl O);obtain⟨_,b,rfl⟩:=hg y (.inr O);have c1:mN (dv 2 g) (dn (mV k) (dn (mV i) dq)) r T=Z (.bl (iR n x),T):=by simp only[mN,dn,dq,a,h,oS1,c]
 have c2:mN (dv 2 g) (dn (mV k) (dn (mV j) dq)) r T=Z (.bl (iR n y),T):=by simp only[mN,dn,dq,a,e,oS1,b]
 refine W.of (x:=(!(iR n x&&iR n y),T)) ?_ ⟨Up.refl l,O⟩;simp only[wP,iz,mTr,c1,c2,oS1,ms,oP1];cases iR n x<;>cases iR n y<;>rfl
abbrev rS(w:dB)(e:E4)(L:List Rw)(rs cs:List Nat)(c1 c2:List (List Nat))(y6:Option D):Ev:=[Z (ec w),Z (mcD e L),Z (eK rs cs),Z (.tup (c1.map chD)),Z (.tup (c2.map chD)),Z (.int (rs.length:Nat)),y6]
section
variable{m:Nat}{w:dB}{e:E4}{L:List Rw}{rs cs:List Nat}
theorem DR{x y:D}{S:dr}{Q:D×dr->Prop}(hw:jS m w)(hm:m<=8)(hst:ub m rs cs)(r0:0<rs.length)(inc:Inc e L)(ok:∀ p∈L,gr p)(hl:L.length<=4000)(hS:fj S)(hx:vd S x=M)(hy:vd S y=M)(P:bd 150 x=M)(v:bd 150 y=M)(q:Q (.bl (xa rs.length m w e L (iX rs cs) x y),S)):W (dv 5 gb [ec w,mcD e L,eK rs cs,x,y] S) Q:=by
 refine Jk (as:=[ec w,mcD e L,eK rs cs]) (bs:=[x,y]) O hS (by rw[D.unds,D.unds,D.unds,hH,kE ok,jh];rfl) (by rw[hL,hL,hL,hx,hy];rfl) λT F u=>?_;have G:vd T x=M:=jU u (by simp);have H:vd T y=M:=jU u (by simp);have hf:=hst.few;unfold gb;refine jf ?_;unfold ll;refine d4 (λr V=>V=T/\r=[Z (ec w),Z (mcD e L),Z (eK rs cs),Z x,Z y,Z (.int (rs.length:Nat)),Y]) ?_ ?_
 ·have s0:∀S,dz (eK rs cs) (.int 0) S=Z (.tup (nmD rs),S):=λS=>rfl
  ((try walk_at"w");repeat(simp only[s0,fg];try walk_at"w"))
 rintro r V ⟨rfl,rfl⟩;refine pF (b:=iR rs.length x&&iR rs.length y) (pV F O O O λd j=>?_) (λh U l=>?_) λh U l=>?_
 ·rcases j with rfl|rfl
  ·exact ml F G (kO (by lia) P) O
  ·exact ml F H (kO (by lia) v) O
 ·unfold xa at q;rw[h,aL]at q;exact⟨l.1,O,q⟩
 unfold xa at q;rw[h,cC]at q;rw[bA1]at h;obtain⟨c1,rfl,h1⟩:=ox h.1;obtain⟨c2,rfl,h2⟩:=ox h.2;rw[mf,mf]at q;have R:=jK P;have l2:=jK v
 rw[lM1]at R l2;unfold Jc at q;refine pF (b:=GV rs.length c2) ?_ (λE wq N=>?_) λE wq N=>?_
 ·obtain⟨⟨d,aq⟩,X,j,k⟩:=DK (n:=rs.length) (cs:=c2) (V:=U) (r:=(rS w e L rs cs c1 c2 Y)) (by lia) (by lia) l.2 O O;dsimp only at j k;subst j;refine W.of (x:=(!GV rs.length c2,aq)) ?_ ⟨k,O⟩;simp only[iz,mTr,X,oS1,ms,oP1]
 ·rw[E,aL]at q;exact⟨(l.trans N).1,O,q⟩
 rw[E,cC]at q;have ao:=l.trans N;have B:=t0 hw hm hst;have hbl:(iX rs cs).1.length=rs.length:=lM1 ..
 have z:=λS Q q=>FQ (rs:=rs) (cs:=cs) (S:=S) (Q:=Q) (by lia) q;generalize iX rs cs=a at *
 refine d4 (λr au=>au=wq++[.lst ((WsC m w e L (c1++c2) a).map whD)]/\r=(rS w e L rs cs c1 c2 (Z (.ref wq.length)))) ?_ ?_
 ·walk_at"w";refine z _ _ ?_;walk_at"w";refine⟨dD (by rw[lM1,lM1];lia),?_⟩;rw[<- cg];refine wa B inc ok hl (by rw[lA1];lia) ?_;exact⟨O,O⟩
 rintro r au ⟨rfl,rfl⟩;have hws:=LG (chs:=c1++c2) (e:=e) ok B;have o:((WsC m w e L (c1++c2) a).map whD).length=(c1++c2).length+1:=by rw[lM1,mX]
 have c:(wq++[Ob.lst ((WsC m w e L (c1++c2) a).map whD)])[wq.length]?=Z (.lst ((WsC m w e L (c1++c2) a).map whD)):=by rw[cO]
 have C:((WsC m w e L (c1++c2) a).map whD)[c1.length]?=Z (whD (eX m w e L c1 a)):=by
  rw[gP1,sA (by rw[lA1];lia),cI];rfl
 have am:((WsC m w e L (c1++c2) a).map whD)[(c1++c2).length]?=Z (whD (eX m w e L (c1++c2) a)):=by
  rw[gP1,sA (nR1 _),b0];rfl
 have t:Up V (wq++[Ob.lst ((WsC m w e L (c1++c2) a).map whD)]):=ao.app (by rw[Ob.und];exact n4 _ _);refine Bd ?_;unfold gv;rw[dw];have s:=Df (g:=iM) (r:=(rS w e L rs cs c1 c2 (Z (.ref wq.length)))) (i:=6) O c (by rw[mX,lA1];lia) λb I Q q=>by
  obtain⟨i,_,rfl⟩:=ci.mp I;have h2:=js (e:=e) ok (chs:=(c1++c2).take i) B;exact E5 (by rw[h2.2];lia) (by rw[h2.2];lia) q
 obtain⟨_,en,rfl⟩:=s;generalize mN (b1 nU) (dn (d6 1 [] (e6 (mV 6)) (gN 0) ea (dU (mN (dv 1 iM) (dn (mV 0) dq)))) dq)=A at *
 have K:W (m2 (b2 gEq) (m2 (b2 dz) (mV 6) (mN (b1 eB) (dn (mV 3) dq))) (m2 (b2 dz) (mV 6) (m1 (b1 mP) (mC (D.int 1)))) (rS w e L rs cs c1 c2 (Z (.ref wq.length))) (wq++[.lst ((WsC m w e L (c1++c2) a).map whD)])) λp=>p=(.bl (decide (eX m w e L c1 a=eX m w e L (c1++c2) a)),wq++[.lst ((WsC m w e L (c1++c2) a).map whD)]):=by
  refine qT ?_;refine qT ?_;refine W.of (x:=(.ref wq.length,_)) O ?_;refine kY ?_;refine W.of (x:=(.tup (c1.map chD),_)) O ?_;dsimp only;rw[gX,lM1];refine dA.mpr ?_;refine nK c C ?_;refine qT ?_;refine W.of (x:=(.ref wq.length,_)) O ?_;refine W.of (x:=(.int (-1),_)) O ?_;refine mn c o am ?_;exact W.of (Gs _ _) O
 obtain⟨_,eq,rfl⟩:=K;refine W.of eq ?_;dsimp only;cases j:decide (eX m w e L c1 a=eX m w e L (c1++c2) a)with
 |false=>
  rw[j,aL]at q;walk_at"w";exact⟨t.1,O,q⟩
 |true=>
  rw[j,cC]at q
  ((try walk_at"w");repeat(simp only[en];try walk_at"w"))
  exact⟨by simpa using(t.app (iE (f:=nQ) (WsC m w e L (c1++c2) a))).1,O,q⟩
end
theorem LB{n:Nat}{f:FN}{ds:List D}{S:dr}{Q:D×dr->Prop}(hn:ds.length=n)(c:D.unds 0 ds=J)(b:fj S)(h:W (f ds S) λp=>(∃G,p.2=S++G)/\p.1.und 0=M/\Q (p.1,S)):W (dv n f ds S) Q:=by
 refine jP hn c (h.mono ?_);rintro⟨d,V⟩ ⟨⟨G,e⟩,a,q⟩;dsimp only at e a q;subst e;rw[pG a b];exact q
theorem LN{n k:Nat}{S:dr}{xs ys:List D}{Q:D×dr->Prop}(h1:S[n]?=Z (.lst xs))(h2:S[k]?=Z (.lst ys))(a:xs.length+ys.length<=10000)(q:Q (.non,S.set n (.lst (xs++ys)))):W (CJ (.ref n) (.ref k) S) Q:=by
 refine W.of ?_ q;simp only[CJ,h1,h2];rw[ak (aC a (by decide))]
theorem pO{n:Nat}:∀{cs:List (List Nat)},(∀ch∈cs,ch.length<=n)->cs.flatten.length<=n*cs.length
 |[],_=>by simp
 |c::cs,h=>by
  have h1:=h c mS1;have h2:=pO (cs:=cs) λx a=>h x (mC1 _ a);rw[a0,lA1,lC1,Nat.mul_succ];lia
theorem DL{n:Nat}{cs:List (List Nat)}:(af n).all (λk=>cs.flatten.contains k)=GV n cs:=by
 unfold GV
 congr 1
 funext k
 rw[bT,cw,bU,cR];constructor
 ·rintro⟨l,h1,h2⟩;exact⟨l,h1,cw.mpr h2⟩
 ·rintro⟨l,h1,h2⟩;exact⟨l,h1,cw.mp h2⟩
theorem FW{n a:Nat}{cs:List Nat}{V:dr}{r:Ev}(hn:n<=100)(hk:V[a]? = some (.lst (nmD cs)))(c:r[5]? = some (some (.int (n:Nat))))(d:r[9]? = some (some (.ref a))):
  W (mN (b1 lB) (dn (d6 1 [9] (nS (dn (mV 5) dq)) (gN 0) ea (dU (m2 (b2 fZ) (mV 0) (mV 1)))) dq) r V) λp=>p.1 = .bl ((af n).all λk=>cs.contains k) /\ ∃xs,p.2=V++[.lst xs]:=by
 have g:∀S,dn (mV 5) dq r S=Z ([.int (n:Nat)],S):=λS=>by simp only[dn,dq,mV,c,oS1]
 have b:ju 1 [9] r=[Y,Z (.ref a)]:=by unfold ju;simp[d]
 refine kY ?_;rw[fe,nL,g,dA];unfold Bf;dsimp only;rw[Int.toNat_natCast];refine⟨gF (by lia),?_⟩;rw[b,jN];refine kT (f:=λi:Nat=>D.int i) (λk=>D.bl (cs.contains k)) (λr=>∃x,r=[x,Z (.ref a)]) O _ _ ⟨_,O⟩ ?_ ?_
 ·rintro k _ r ⟨y,rfl⟩;have e:=Ct (x:=k) hk
  ((try walk_at"w");repeat(simp only[e];try walk_at"w"))
  exact⟨_,O⟩
 ·rintro h _;refine⟨dD (by rw[lM1,cW];lia),?_⟩;refine qo (xs:=af n) (f:=λk=>cs.contains k) (by rw[dL];rfl) ?_;exact⟨O,_,O⟩
def rD(w:dB)(e:E4)(kd:Nat)(rs cs:List Nat)(c1 c2:List (List Nat))(a:Wh)(y7 y8 y9 y10:Option D):Ev:=[Z (ec w),Z (owD e kd),Z (eK rs cs),Z (.tup (c1.map chD)),Z (.tup (c2.map chD)),Z (.int (rs.length:Nat)),Z (whD a),y7,y8,y9,y10]
section
variable{m kd:Nat}{w:dB}{e:E4}{L:List Rw}{rs cs:List Nat}{c1 c2:List (List Nat)}{a:Wh}
theorem zV{n:Nat}{U:dr}{y8:Option D}{Q:Fl×Ev×dr->Prop}(h:iC m w a.1 a.2)(hn:a.1.length=n)(am:n<=8)(inc:Inc e L)(ok:∀ p∈L,gr p)(G:L.length<=4000)(C:fj U)(hd:U[kd]? = some (dO (rwF e L)))(h1:∀ ch∈c1,ChX n ch)(h2:∀ ch∈c2,ChX n ch)(I:c1.length<=200)(K:c2.length<=200)(q:∀l,Q (.nx,rD w e kd rs cs c1 c2 a (some (.ref U.length)) l none none,U++[.lst ((WsC m w e L (c1++c2) a).map whD)])):
  W (fD (e6 (m2 (b2 eE) (mV 3) (mV 4))) (gN 8) jD (rD w e kd rs cs c1 c2 a (Z (.ref U.length)) y8 Y Y) (U++[.lst [whD a]])) Q:=by
 unfold fD;rw[dw,iV];refine qT ?_;refine W.of (x:=(.tup (c1.map chD),_)) O ?_;refine W.of (x:=(.tup (c2.map chD),_)) O ?_;walk_at"w";refine⟨dD (by rw[lM1,lM1];lia),?_⟩;rw[<- cg];rw[gh];refine fA (λi r V=>V=U++[.lst ((WsC m w e L ((c1++c2).take i) a).map whD)] /\ ∃l,r=rD w e kd rs cs c1 c2 a (Z (.ref U.length)) l Y Y) _ 0 _ _ ⟨O,_,O⟩ (λ_ _ _ _=>rfl) ?_ ?_
 ·rintro i d o r V ⟨rfl,l,rfl⟩;rw[gP1]at o;obtain⟨ch,j,rfl⟩:=oM1.mp o;have F:=(gE1.mp j).1;have E:(c1++c2).take (i+1)=(c1++c2).take i++[ch]:=by rw[cj,j];rfl
  have y:((c1++c2).take i).length=i:=by rw[aR];lia
  have A:ChX n ch:=by
   rcases aF.mp (gM1 j)with z|z
   ·exact h1 ch z
   ·exact h2 ch z
  rw[bQ]at *
  have c:=js (e:=e) (m:=m) (w:=w) ok (chs:=(c1++c2).take i) h;rw[hn]at c;have f:((WsC m w e L ((c1++c2).take i) a).map whD).length=i+1:=by rw[lM1,mX,y]
  have t:((WsC m w e L ((c1++c2).take i) a).map whD)[i]?=Z (whD (eX m w e L ((c1++c2).take i) a)):=by
   rw[gP1,sA (by lia),b7 (by lia)];rfl
  have u:=yR (m:=m) (w:=w) (e:=e) (L:=L) (chs:=(c1++c2).take i) (a:=a) (ch:=ch);have g:(U++[Ob.lst ((WsC m w e L ((c1++c2).take i) a).map whD)])[U.length]?=Z (.lst ((WsC m w e L ((c1++c2).take i) a).map whD)):=by rw[cO]
  have v:fj (U++[Ob.lst ((WsC m w e L ((c1++c2).take i) a).map whD)]):=((Up.refl C).app (by rw[Ob.und];exact n4 _ _)).2;have s:(U++[Ob.lst ((WsC m w e L ((c1++c2).take i) a).map whD)])[kd]?=Z (dO (rwF e L)):=fG hd;rw[E];generalize eX m w e L ((c1++c2).take i) a=b at *
  unfold rD at *
  walk_at"w";unfold jD fm;rw[dw];refine kj ?_;walk_at"w";refine⟨U.length,_,O,g,?_⟩
  ((try walk_at"w");repeat(simp only[mP];try walk_at"w"))
  refine mn g f t ?_;walk_at"w";refine ye (ws:=b.1) (cs:=b.2) (ch:=ch) c.1 (Gf inc ok G) s v (λk B=>by rw[c.2];exact A.lt k B) (by have:=A.few;lia) ?_;refine(lr g).mpr ⟨dD (by rw[f,lA1]at *;lia),?_⟩;refine⟨?_,_,O⟩;have H:(WsC m w e L ((c1++c2).take i) a).map whD++[Gr m w (eH w b.1 b.2 e L ch) b.2]=(WsC m w e L ((c1++c2).take i++[ch]) a).map whD:=by rw[u,cg];rfl
  rw[H,cU _ _ (nR1 _),cP];rfl
 ·rintro r V ⟨rfl,l,rfl⟩;rw[lM1,bQ,b0];exact q l
theorem AX{n:Nat}{V:dr}{y7 y8 y10:Option D}{Q:Fl×Ev×dr->Prop}(u:n<=8)(p:fj V)(h2:∀ ch∈c2,ChX n ch)(z:c2.length<=200)(q:∀c j,Up V j->j[V.length]?=some (.lst (nmD c2.flatten))->Q (.nx,rD w e kd rs cs c1 c2 a y7 c (some (.ref V.length)) y10,j)):
  W (fD (e6 (mV 4)) (gN 8) jC (rD w e kd rs cs c1 c2 a y7 y8 (Z (.ref V.length)) y10) (V++[.lst []])) Q:=by
 unfold fD;rw[dw,iV];refine W.of (x:=(.tup (c2.map chD),_)) O ?_;dsimp only;rw[gh];have m:=pO (cs:=c2) λch hc=>(h2 ch hc).few;refine fA (λi r U=>(∃G,U=V++[.lst (nmD (c2.take i).flatten)]++G/\fj U) /\ ∃c,r=rD w e kd rs cs c1 c2 a y7 c (Z (.ref V.length)) y10) _ 0 _ _ ⟨⟨[],by rw[aN];rfl,((Up.refl p).app O).2⟩,_,O⟩ (λ_ _ _ _=>rfl) ?_ ?_
 ·rintro i d f r U ⟨⟨G,rfl,b⟩,c,rfl⟩;rw[gP1]at f;obtain⟨ch,g,rfl⟩:=oM1.mp f;have t:=h2 ch (gM1 g);have s:(c2.take (i+1)).flatten=(c2.take i).flatten++ch:=by rw[cj,g,List.flatten_append];simp
  have v:=pO (cs:=c2.take i) λch hc=>(h2 ch (cA hc)).few;have h:(c2.take i).length<=200:=by rw[aR];lia
  have A:=Nat.mul_le_mul u h;have l:=t.few;rw[bQ]at *
  rw[s];have k:∀o,(V++[Ob.lst (nmD (c2.take i).flatten)]++G++[o])[V.length]?=Z (.lst (nmD (c2.take i).flatten)):=λo=>by
   rw[bf,bf,dL];rfl
  unfold rD at *
  walk_at"w";unfold jC fm;rw[dw];refine kj ?_;walk_at"w";refine⟨V.length,_,O,by rw[dL];rfl,?_⟩;refine W.of (x:=(.ref (V++[Ob.lst (nmD (c2.take i).flatten)]++G).length,V++[Ob.lst (nmD (c2.take i).flatten)]++G++[.lst (nmD ch)])) ?_ ?_
  ·show nT (chD ch) _=_;rw[show V++Ob.lst (nmD (c2.take i).flatten)::G=V++[Ob.lst (nmD (c2.take i).flatten)]++G by simp];rfl
  dsimp only;refine LN (k _) (by rw[cO]) (by rw[fg,fg];lia) ?_;refine⟨⟨G++[.lst (nmD ch)],?_,?_⟩,_,O⟩
  ·rw[bf,bf,cU _ _ (nR1 _),cP,wL];simp
  ·have y:=((Up.refl b).app (o:=.lst (nmD ch)) (by rw[Ob.und];exact fy _)).2;refine lN y ?_;rw[Ob.und,wL];exact fq (fy _)
 ·rintro r U ⟨⟨G,rfl,b⟩,c,rfl⟩;rw[lM1,bQ,b0]at *
  refine q c _ ⟨⟨[Ob.lst (nmD c2.flatten)]++G,by rw[bf]⟩,b⟩ ?_;rw[bf,dL];rfl
end
section
variable{m kd:Nat}{w:dB}{e:E4}{L:List Rw}{rs cs:List Nat}
theorem IQ{x y:D}{S:dr}{Q:D×dr->Prop}(hw:jS m w)(hm:m<=8)(hst:ub m rs cs)(r0:0<rs.length)(inc:Inc e L)(ok:∀ p∈L,gr p)(hl:L.length<=4000)(N:fj S)(hd:S[kd]? = Z (dO (rwF e L)))(hx:vd S x=M)(hy:vd S y=M)(bx:bd 150 x=M)(I:bd 150 y=M)(q:Q (.bl (xa rs.length m w e L (iX rs cs) x y),S)):W (dv 5 iQ [ec w,owD e kd,eK rs cs,x,y] S) Q:=by
 have hu:D.unds 0 [ec w,owD e kd,eK rs cs,x,y]=J:=by
  rw[D.unds,D.unds,show(owD e kd).und 0=J by unfold owD;simp[D.und,D.unds]];simp
 refine LB O hu N ?_;have hf:=hst.few;have hb:=t0 hw hm hst;have X:(iX rs cs).1.length=rs.length:=lM1 ..
 have K:=λS Q q=>vc (rs:=rs) (cs:=cs) (S:=S) (Q:=Q) (by lia) q;generalize iX rs cs=a at *
 unfold iQ;refine jf ?_;unfold qk;refine d4 (λr V=>V=S/\r=[Z (ec w),Z (owD e kd),Z (eK rs cs),Z x,Z y,Z (.int (rs.length:Nat)),Z (whD a),Y,Y,Y,Y]) ?_ ?_
 ·have s0:∀S,dz (eK rs cs) (.int 0) S=Z (.tup (nmD rs),S):=λS=>rfl
  ((try walk_at"w");repeat(simp only[s0,fg];try walk_at"w"))
  refine K _ _ ?_;walk_at"w"
  try exact⟨O,O⟩
 rintro r V ⟨au,rfl⟩;have au:=au.symm;subst au;refine pF (b:=iR rs.length x&&iR rs.length y) (pV N O O O λd hd=>?_) (λh U t=>?_) λh U t=>?_
 ·rcases hd with rfl|rfl
  ·exact li N hx (kO (by lia) bx) O
  ·exact li N hy (kO (by lia) I) O
 ·unfold xa at q;rw[h,aL]at q;exact⟨t.1,O,q⟩
 unfold xa at q;rw[h,cC]at q;rw[bA1]at h;obtain⟨c1,rfl,h1⟩:=ox h.1;obtain⟨c2,rfl,h2⟩:=ox h.2;rw[mf,mf]at q;have l1:=jK bx;have l2:=jK I
 rw[lM1]at l1 l2;unfold Jc at q;have T:U[kd]?=Z (dO (rwF e L)):=by
  obtain⟨⟨G,rfl⟩,_⟩:=t;exact fG hd
 refine d4 (λr V=>V=U++[.lst [whD a]]/\r=rD w e kd rs cs c1 c2 a (Z (.ref U.length)) Y Y Y) ?_ ?_
 ·unfold rD;walk_at"w"
  try exact⟨O,O⟩
 rintro r V ⟨rfl,rfl⟩;refine d4 (λr V=>V=U++[.lst ((WsC m w e L (c1++c2) a).map whD)] /\ ∃f,r=rD w e kd rs cs c1 c2 a (Z (.ref U.length)) f Y Y) ?_ ?_
 ·exact zV hb X (by lia) inc ok hl t.2 T h1 h2 (by lia) (by lia) λf=>⟨O,O,_,O⟩
 rintro r V ⟨rfl,f,rfl⟩;have R:(U++[Ob.lst ((WsC m w e L (c1++c2) a).map whD)])[U.length]?=Z (.lst ((WsC m w e L (c1++c2) a).map whD)):=by rw[cO]
 have E:=t.app (o:=.lst ((WsC m w e L (c1++c2) a).map whD)) (by rw[Ob.und];exact n4 _ _);generalize hZ:U++[Ob.lst ((WsC m w e L (c1++c2) a).map whD)]=wq at *
 refine d4 (λr V=>V=wq++[.lst []]/\r=rD w e kd rs cs c1 c2 a (Z (.ref U.length)) f (Z (.ref wq.length)) Y) ?_ ?_
 ·unfold rD;walk_at"w"
  try exact⟨O,O⟩
 rintro r V ⟨rfl,rfl⟩;refine d4 (λr V=>Up wq V/\V[wq.length]?=Z (.lst (nmD c2.flatten)) /\ ∃f,r=rD w e kd rs cs c1 c2 a (Z (.ref U.length)) f (Z (.ref wq.length)) Y) ?_ ?_
 ·exact AX (by lia) E.2 h2 (by lia) λf V' a1 a2=>⟨O,a1,a2,_,O⟩
 rintro r V ⟨k,u,ao,rfl⟩;have c:V[U.length]?=Z (.lst ((WsC m w e L (c1++c2) a).map whD)):=by
  obtain⟨⟨G,rfl⟩,_⟩:=k;exact fG R
 have B:=E.trans k;have v:((WsC m w e L (c1++c2) a).map whD).length=(c1++c2).length+1:=by rw[lM1,mX]
 have P:((WsC m w e L (c1++c2) a).map whD)[c1.length]?=Z (whD (eX m w e L c1 a)):=by
  rw[gP1,sA (by rw[lA1];lia),cI];rfl
 have ha2:((WsC m w e L (c1++c2) a).map whD)[(c1++c2).length]?=Z (whD (eX m w e L (c1++c2) a)):=by
  rw[gP1,sA (nR1 _),b0];rfl
 refine d4 (λr s=>s=V/\r=rD w e kd rs cs c1 c2 a (Z (.ref U.length)) ao (Z (.ref wq.length)) (Z (.bl (decide (eX m w e L c1 a=eX m w e L (c1++c2) a))))) ?_ ?_
 ·have heq:W (m2 (b2 gEq) (m2 (b2 dz) (mV 7) (m1 (b1 mP) (mC (D.int 1)))) (m2 (b2 dz) (mV 7) (mN (b1 eB) (dn (mV 3) dq))) (rD w e kd rs cs c1 c2 a (some (.ref U.length)) ao (some (.ref wq.length)) none) V) fun p=>p=(.bl (decide (eX m w e L c1 a=eX m w e L (c1++c2) a)),V):=by
   refine qT ?_;refine qT ?_;refine W.of (x:=(.ref U.length,_)) O ?_;refine W.of (x:=(.int (-1),_)) O ?_;refine mn c v ha2 ?_;refine qT ?_;refine W.of (x:=(.ref U.length,_)) O ?_;refine kY ?_;refine W.of (x:=(.tup (c1.map chD),_)) O ?_;dsimp only;rw[gX,lM1];refine dA.mpr ?_;refine nK c P ?_;refine W.of (Gs _ _) ?_;rw[decide_eq_decide.mpr (eq_comm (a:=eX m w e L (c1++c2) a))]
  obtain⟨_,eq,rfl⟩:=heq;unfold dH;rw[dw];refine W.of eq ?_;exact W.of O ⟨O,O,O⟩
 rintro r s ⟨hV2,rfl⟩;subst hV2;refine Bd ?_;unfold gv;rw[dw];refine W.of (x:=(.bl (decide (eX m w e L c1 a=eX m w e L (c1++c2) a)),s)) O ?_;dsimp only;cases hdd:decide (eX m w e L c1 a=eX m w e L (c1++c2) a)with
 |false=>
  rw[hdd,aL,Bool.and_false]at q;walk_at"w";exact⟨B.1,O,q⟩
 |true=>
  rw[hdd,cC]at q;obtain⟨⟨d,V3⟩,H,l,j,C⟩:=FW (n:=rs.length) (r:=rD w e kd rs cs c1 c2 a (Z (.ref U.length)) ao (Z (.ref wq.length)) (Z (.bl M))) (by lia) u O O;dsimp only at l C;subst l C;rw[DL]at H;generalize mN (b1 lB) (dn (d6 1 [9] (nS (dn (mV 5) dq)) (gN 0) ea (dU (m2 (b2 fZ) (mV 0) (mV 1)))) dq)=A3 at *
  have F:(s++[Ob.lst j])[U.length]?=Z (.lst ((WsC m w e L (c1++c2) a).map whD)):=fG c;have z:=Df (g:=gk) (r:=rD w e kd rs cs c1 c2 a (Z (.ref U.length)) ao (Z (.ref wq.length)) (Z (.bl M))) (i:=7) O F (by rw[mX,lA1];lia) λb aq Q q=>by
   obtain⟨i,_,rfl⟩:=ci.mp aq;have h2:=js (e:=e) ok (chs:=(c1++c2).take i) hb;exact IM (by rw[h2.2];lia) (by rw[h2.2];lia) q
  obtain⟨_,en,rfl⟩:=z;generalize mN (b1 nU) (dn (d6 1 [] (e6 (mV 7)) (gN 0) ea (dU (mN (dv 1 gk) (dn (mV 0) dq)))) dq)=A at *
  have am:∃G,s++[Ob.lst j]=S++G:=by
   obtain⟨G,rfl⟩:=B.1;exact⟨G++[Ob.lst j],by rw[bf]⟩
  cases hsb:GV rs.length c2 with
  |false=>
   rw[hsb,aL]at q;rw[hsb]at H
   ((try walk_at"w");repeat(simp only[H];try walk_at"w"))
   exact⟨am,O,q⟩
  |true=>
   rw[hsb,cC]at q;rw[hsb]at H
   ((try walk_at"w");repeat(simp only[H,en];try walk_at"w"))
   refine⟨?_,O,q⟩;obtain⟨G,hG⟩:=am;exact⟨G++[Ob.lst ((WsC m w e L (c1++c2) a).map λb=>D.bl (nQ b))],by rw[<- bf,<- hG];simp⟩
end
def il(n:Nat)(ch:List Nat):Prop:=(∀k∈ch,k<n)/\ch.length<=n
theorem HS.split{c:Nat}{B U:dr}(s:HS c B U):∃o T,U=o::T/\Hnd o c/\ClT T:=by
 obtain⟨o,e,h⟩:=s.hand;cases U with
 |nil=>cases e
 |cons x T=>
  cases e;refine⟨o,T,O,h,?_⟩;have:=s.shut;unfold fj at this;rw[bS,bA1,lC1]at this;exact this.2
theorem HS.join{c:Nat}{o:Ob}{T:dr}(h:Hnd o c)(a:ClT T):HS c (o::T) (o::T):=.self O h (sN h a)
theorem vI(chs:List (List Nat))(n:Nat):(Ob.lst (chs.map chD)).und n=M:=by rw[Ob.und];exact kN _ _
theorem Fc{c n s:Nat}{B V:dr}(h:HS c B V)(hc:c<=2^43)(h0:0<n)(q:n<=8)(hs:s<=7):
  W (mN (b1 Mi.gTup) (dn (d6 1 [1,2] (nS (dn (mV 0) dq)) (gN 0) ea (dU (mN (dv 2 eI) (dn (mV 1) (dn (mV 2) dq))))) dq) [Z (.int (s:Nat)),Z (.ref 0),Z (.int (n:Nat))] V) λp=>∃chs:List (List Nat),p.1 = .tup (chs.map chD)/\chs.length<=s/\(∀ch∈chs,il n ch)/\HS (c+s) B p.2/\HS (c+s) V p.2:=by
 refine kY ?_;rw[fe,nL];refine W.of (x:=([.int (s:Nat)],V)) O ?_;unfold Bf;dsimp only;rw[Int.toNat_natCast];refine⟨gF (by lia),?_⟩;rw[show ju 1 [1,2] [Z (D.int (s:Nat)),Z (.ref 0),Z (.int (n:Nat))]=[Y,Z (.ref 0),Z (.int (n:Nat))]from rfl,jN];refine iA (λi e r U=>i<=s/\(∃chs:List (List Nat),e=chs.map chD/\chs.length=i /\ ∀ch∈chs,il n ch)/\HS (c+i) B U/\HS (c+i) V U /\ ∃x,r=[x,Z (.ref 0),Z (.int (n:Nat))]) _ 0 [] _ _ ⟨br _,⟨[],O,O,λch hc=>by cases hc⟩,h,h.here,_,O⟩ (λ_ _ _ _ _=>rfl) ?_ ?_
 ·rintro i d t e r U ⟨hi,⟨chs,rfl,o,k⟩,g,m,x,rfl⟩;have j:=(gE1.mp t).1;rw[lM1,cW]at j;rw[bQ]at *
  walk_at"w";refine vJ g (by lia) h0 q λch u h1 h2 a b l=>?_;refine⟨by lia,⟨chs++[ch],by rw[cg];rfl,by rw[lA1,o];rfl,λx f=>?_⟩,a,m.trans b,_,O⟩;rcases aF.mp f with z|z
  ·exact k x z
  ·rw[cN.mp z];exact⟨h1,h2⟩
 ·rintro xs r U ⟨hi,⟨chs,f,o,k⟩,g,m,x,rfl⟩;rw[lM1,cW,bQ]at *
  rw[bi]at f;subst f;refine⟨dD (by rw[lM1];lia),?_⟩;dsimp only;refine qm.mpr ?_;refine eh (xs:=chs.map chD) (by rw[cO]) ?_;exact⟨chs,O,by lia,k,g.app1 (vI _ _),m.app1 (vI _ _)⟩
theorem tF{α:Type}{f:α->D}{g:α->TK}:∀{l:List α},(∀x∈l,kD (f x)=Z (g x))->Cn (l.map f)=Z (l.map g)
 |[],_=>rfl
 |x::l,h=>by rw[mP1,Cn,h x mS1,tF λy a=>h y (mC1 _ a)];rfl
theorem tR{k:Nat}:∀{l:List TK},(∀x∈l,x.dep<=k)->TK.depAll l<=k
 |[],_=>by rw[TK.depAll];exact br _
 |x::l,h=>by
  rw[TK.depAll];exact Nat.max_le.mpr ⟨h x mS1,tR λy a=>h y (mC1 _ a)⟩
theorem GJ(a:Wh):∃k,keyT (whD a)=Z k:=by
 have d:kD (.tup (a.1.map eO))=Z (.tup (a.1.map λu=>.tup [.int (u.1:Nat),.int (u.2.1:Nat),.int (u.2.2:Nat)])):=by
  rw[kD,tF (g:=λu:Wk=>TK.tup [.int (u.1:Nat),.int (u.2.1:Nat),.int (u.2.2:Nat)]) λu _=>rfl];rfl
 have c:kD (.tup (nmD a.2))=Z (.tup (a.2.map λx=>.int (x:Nat))):=by
  rw[kD];unfold nmD;rw[tF (g:=λx:Nat=>TK.int (x:Nat)) λu _=>rfl];rfl
 refine⟨.tup [.tup (a.1.map λu=>.tup [.int (u.1:Nat),.int (u.2.1:Nat),.int (u.2.2:Nat)]),.tup (a.2.map λx=>.int (x:Nat))],?_⟩;show(Cn [.tup (a.1.map eO),.tup (nmD a.2)]).bind _=_;rw[Cn,d,oS1,Cn,c,oS1,Cn,oP1,oP1,oS1,ak];have e:TK.depAll (a.1.map λu=>TK.tup [.int (u.1:Nat),.int (u.2.1:Nat),.int (u.2.2:Nat)])<=2:=tR λx b=>by
  obtain⟨u,_,rfl⟩:=ci.mp b;simp[TK.dep,TK.depAll]
 have f:TK.depAll (a.2.map λx=>TK.int (x:Nat))<=2:=tR λx b=>by
  obtain⟨u,_,rfl⟩:=ci.mp b;simp[TK.dep]
 simp only[TK.dep,TK.depAll];lia
theorem Hf{F:List (TK×D)}{k:TK}{x:D}(P:D->Prop)(h:∀p∈F,P p.2)(hx:P x):∀p∈eY F k x,P p.2:=λp a=>by
 unfold eY at a;split at a
 ·obtain⟨q,b,rfl⟩:=ci.mp a;split
  ·exact hx
  ·exact h q b
 ·rcases aF.mp a with z|z
  ·exact h p z
  ·rw[cN.mp z];exact hx
theorem put_len{F:List (TK×D)}{k:TK}{x:D}:(eY F k x).length<=F.length+1:=by
 unfold eY;split
 ·rw[lM1];exact bc _
 ·rw[lA1];exact nR1 _
theorem EN{F:List (TK×D)}{k:TK}{x:D}(P:D->Prop)(h:∀p∈F,P p.2)(hx:dZ F k=Z x):P x:=by
 unfold dZ at hx;obtain⟨p,a,rfl⟩:=oM1.mp hx;exact h p (List.mem_of_find?_eq_some a)
theorem Na{F:List (TK×D)}{n:Nat}(h:∀p∈F,∃t:Nat,t<14/\p.2 = .int (t:Nat)):(dO F).und n=M:=yC λp a=>by
 obtain⟨t,_,e⟩:=h p a;rw[e];rfl
theorem My{a:Wh}{F:List (TK×D)}{k:TK}{x:D}{n:Nat}{S:dr}(hk:keyT (whD a)=Z k)(c:S[n]?=Z (dO F))(d:F.length<=100000):gI (.ref n) (whD a) x S=Z (.non,S.set n (dO (eY F k x))):=by
 cases F with
 |nil=>
  have b:S[n]?=Z (.dct []):=c;simp only[gI,b,hk];rfl
 |cons p F=>
  have b:S[n]?=Z (.dcT (p::F)):=c;rw[Lx Bj];simp only[gI,b,hk,oS1];rw[ak (bK d (by decide))]
theorem Os{a:Wh}{F:List (TK×D)}{k:TK}{n:Nat}{S:dr}(hk:keyT (whD a)=Z k)(c:S[n]?=Z (dO F)):zO (whD a) (.ref n) S=Z (.bl (dZ F k).isSome,S):=by
 cases F with
 |nil=>
  have b:S[n]?=Z (.dct []):=c;simp only[zO,b,hk];rfl
 |cons p F=>
  have b:S[n]?=Z (.dcT (p::F)):=c;simp only[zO,fZ,b,hk,oP1]
theorem Op{a:Wh}{F:List (TK×D)}{k:TK}{x:D}{n:Nat}{S:dr}(hk:keyT (whD a)=Z k)(c:S[n]?=Z (dO F))(hx:dZ F k=Z x):dz (.ref n) (whD a) S=Z (x,S):=by
 cases F with
 |nil=>cases hx
 |cons p F=>
  have b:S[n]?=Z (.dcT (p::F)):=c;simp only[dz,b,hk,oS1,hx,oP1]
theorem LI{m hm:FE}{r:Ev}{S:dr}{Q:D×dr->Prop}(h:W (m r S) λp=>∃n,p.1 = .ref n/\W (hm r p.2) λb=>∃(k:Nat) (xs:List D),b.1 = .int (k:Nat)/\b.2[n]?=Z (.lst xs)/\Q (.ref b.2.length,b.2++[.lst (xs.drop k)])):W (ic m (eW hm) fv r S) Q:=by
 obtain⟨⟨d,j⟩,i,n,g,⟨⟨l,c⟩,e,k,xs,a,f,q⟩⟩:=h;dsimp only at g e a f q;subst g a;rw[<- Fw]at q;refine W.of ?_ q;unfold ic;rw[i,oS1];dsimp only;rw[show eW hm r j=Z (Z (k:Int),c) by unfold eW;rw[e];rfl,oS1];dsimp only;rw[show fv r c=Z (Y,c)from rfl,oS1];simp only[wp,fR f,oP1,if_true]
def rG(w:dB)(e:E4)(kd:Nat)(rs cs:List Nat)(a:Wh)(kp km:Nat)(y7:Option D):Ev:=[Z (.ref 0),Z (ec w),Z (owD e kd),Z (eK rs cs),Z (whD a),Z (.ref kp),Z (.ref km),y7]
structure RgI (c m kd kp km:Nat)(w:dB)(e:E4)(L:List Rw)(rs cs:List Nat)(U:dr)(i:Nat)(a:Wh)(F:List (TK×D))(chs:List (List Nat))(V:dr):Prop where
 wh:iC m w a.1 a.2
 wl:a.1.length=rs.length
 fl:F.length<=i
 fi:∀p∈F,∃t:Nat,t<14/\p.2 = .int (t:Nat)
 cl:chs.length=i
 ck:∀ch∈chs,il rs.length ch
 hs:HS (c+i) U V
 dp:V[kp]?=some (.lst (chs.map chD))
 dm:V[km]?=some (dO F)
 dk:V[kd]?=some (dO (rwF e L))
def prD(c1 c2:List (List Nat)):D:=.tup [.tup (c1.map chD),.tup (c2.map chD)]
theorem Bo(c1 c2:List (List Nat))(n:Nat):(prD c1 c2).und n=M:=by
 have h1:=kN c1 n;have h2:=kN c2 n;simp[prD,D.und,D.unds,h1,h2]
section
variable{c m kd kp km:Nat}{w:dB}{e:E4}{L:List Rw}{rs cs:List Nat}{U V:dr}{a:Wh}{F:List (TK×D)}{chs:List (List Nat)}
theorem BC{t:Nat}{hm:FE}{r:Ev}{V:dr}{Q:Fl×Ev×dr->Prop}(i:r[5]? = some (some (.ref kp)))(hc:HS c U V)(b:V[kp]? = some (.lst (chs.map chD)))(he:∀ G,HS c U (V++G)->W (hm r (V++G)) fun p=>p=(.int (t:Nat),V++G))(a:∀ ch∈chs,il rs.length ch)(q:∀c1 c2 e,c1.length<=chs.length->c2.length<=chs.length->(∀ch∈c1,il rs.length ch)->(∀ch∈c2,il rs.length ch)->HS c U e->Q (.rt (prD c1 c2),r,e)):
  W (ee (d8 (dn (mN (b1 Mi.gTup) (dn (ic (mV 5) fv (eW hm)) dq)) (dn (mN (b1 Mi.gTup) (dn (ic (mV 5) (eW hm) fv) dq)) dq))) r V) Q:=by
 have f:∀S,mV 5 r S=Z (.ref kp,S):=λS=>by unfold mV;rw[i]
 refine Bd ?_;rw[ql];refine xm ?_;refine kY ?_;refine Dm ?_;refine W.of (f _) ⟨kp,O,?_⟩;have:=he [] (by rw[aN];exact hc);rw[aN]at this;obtain⟨_,h,rfl⟩:=this;refine W.of h ⟨t,_,O,b,?_⟩;dsimp only;refine qm.mpr ?_;refine eh (by rw[cO]) ?_;have d:HS c U (V++[.lst ((chs.map chD).take t)]):=hc.app1 (by rw[<- List.map_take];exact vI _ _);refine xm ?_;refine kY ?_;refine LI ?_;refine W.of (f _) ⟨kp,O,?_⟩;obtain⟨_,g,rfl⟩:=he _ d;refine W.of g ⟨t,_,O,fG b,?_⟩;dsimp only;refine qm.mpr ?_;refine eh (by rw[cO]) ?_;have j:HS c U (V++[.lst ((chs.map chD).take t)]++[.lst ((chs.map chD).drop t)]):=d.app1 (by rw[<- List.map_drop];exact vI _ _);refine W.of (x:=([],_)) O ?_;refine⟨dD (by simp),?_⟩;have:=q (chs.take t) (chs.drop t) _ (by rw[aR];lia) (by rw[aW];lia) (λch hc=>a ch (cA hc)) (λch hc=>a ch (cY hc)) j;unfold prD at this;rw[List.map_take,List.map_drop]at this;exact this
theorem wv{i:Nat}{Q:Fl×Ev×dr->Prop}(I:RgI c m kd kp km w e L rs cs U i a F chs V)(hi:i<14)(hc:c<=2^42)(inc:Inc e L)(ok:∀ p∈L,gr p)(hl:L.length<=4000)(r0:0<rs.length)(hf:rs.length<=8)(h1:U.length<=kp)(h2:U.length<=km)(h3:kp≠km)(hkd:kd<U.length)(hkd0:0<kd)(q0:∀c1 c2 f,c1.length<=14->c2.length<=14->(∀ch∈c1,il rs.length ch)->(∀ch∈c2,il rs.length ch)->HS (c+20) U f->Q (.rt (prD c1 c2),rG w e kd rs cs a kp km (some (.int (i:Nat))),f))(q:∀a' g s f,RgI c m kd kp km w e L rs cs U (i+1) a' g s f->Q (.nx,rG w e kd rs cs a' kp km (some (.int (i:Nat))),f)):
  W (jb (rG w e kd rs cs a kp km (Z (.int (i:Nat)))) V) Q:=by
 obtain⟨g1,g2,g3,g4,aq,g6,P,T,C,y⟩:=I;obtain⟨k,o⟩:=GJ a;have hp0:=P.pos;unfold jb;refine M0 (λb f=>f=V/\b=(dZ F k).isSome) ?_ ?_ ?_
 ·have au:=Os o C;unfold rG
  ((try walk_at"w");repeat(simp only[au];try walk_at"w"))
 ·rintro f ⟨rfl,wq⟩;obtain⟨x,E⟩:=aQ.mp wq.symm;obtain⟨t,ht,rfl⟩:=EN (λx=>∃t:Nat,t<14/\x = .int (t:Nat)) g4 E;refine BC (t:=t) (chs:=chs) O (P.more (by lia:c+i<=c+20)) T (λG hG=>?_) g6 λc1 c2 V2 a1 a2 a3 a4 a5=>?_
  ·have:=Op o (S:=f++G) (fG C) E;unfold rG
   ((try walk_at"w");repeat(simp only[this];try walk_at"w"))
  ·exact⟨_,O,q0 c1 c2 V2 (by lia) (by lia) a3 a4 a5⟩
 rintro f ⟨rfl,wq⟩;have R:=(gE1.mp C).1;have hkp:=(gE1.mp T).1;refine d4 (λr V=>∃g,g.length<=i+1/\(∀p∈g,∃t:Nat,t<14/\p.2 = .int (t:Nat))/\HS (c+i) U V/\V[kp]?=Z (.lst (chs.map chD))/\V[km]?=Z (dO g)/\V[kd]?=Z (dO (rwF e L))/\r=rG w e kd rs cs a kp km (Z (.int (i:Nat)))) ?_ ?_
 ·have hs:=My (x:=.int (i:Nat)) o C (by lia);have j:∀p∈eY F k (.int (i:Nat)),∃t:Nat,t<14/\p.2 = .int (t:Nat):=Hf (λx=>∃t:Nat,t<14/\x = .int (t:Nat)) g4 ⟨i,hi,O⟩;unfold rG
  ((try walk_at"w");repeat(simp only[hs];try walk_at"w"))
  refine⟨eY F k (.int (i:Nat)),by have:=put_len (F:=F) (k:=k) (x:=.int (i:Nat));lia,j,P.set h2 (Na j),?_,?_,?_⟩
  ·rw[gS1 (by lia)];exact T
  ·rw[aH R]
  ·rw[gS1 (by lia)];first|exact y|exact⟨y,trivial⟩
 rintro r V2 ⟨g,f1,f2,s2,X,d2,d3,rfl⟩;refine d4 (λr V=>∃ch,il rs.length ch/\HS (c+i+1) U V/\V[kp]?=Z (.lst ((chs++[ch]).map chD))/\V[km]?=Z (dO g)/\V[kd]?=Z (dO (rwF e L))/\r=rG w e kd rs cs a kp km (Z (.int (i:Nat)))) ?_ ?_
 ·have s0:∀S,dz (eK rs cs) (.int 0) S=Z (.tup (nmD rs),S):=λS=>rfl;have hkp2:=(gE1.mp X).1;unfold rG fm;rw[dw];refine kj ?_;walk_at"w";refine⟨kp,_,O,X,?_⟩
  ((try walk_at"w");repeat(simp only[s0,fg];try walk_at"w"))
  refine vJ s2 (by lia) r0 hf λch V3 B am D l l3=>?_;have h:=l.at X (by lia);refine(lr h).mpr ⟨dD (by rw[lM1];lia),?_⟩;have em:chs.map chD++[.tup (nmD ch)]=(chs++[ch]).map chD:=by rw[cg];rfl
  rw[em];dsimp only;have K:(V3.set kp (Ob.lst ((chs++[ch]).map chD)))[kp]?=Z (.lst ((chs++[ch]).map chD)):=by rw[aH (by lia)]
  have x2:(V3.set kp (Ob.lst ((chs++[ch]).map chD)))[km]?=Z (dO g):=by rw[gS1 h3];exact l.at d2 (by lia)
  have H:(V3.set kp (Ob.lst ((chs++[ch]).map chD)))[kd]?=Z (dO (rwF e L)):=by rw[gS1 (by lia)];exact l.at d3 (by lia)
  have A:=D.set h1 (vI (chs++[ch]) V3.length)
  first|exact⟨ch,⟨B,am⟩,A,K,x2,H,rfl⟩|exact⟨ch,⟨B,am⟩,A,K,x2,H,trivial⟩|exact⟨rfl,ch,⟨B,am⟩,A,K,x2,H,rfl⟩|exact⟨ch,⟨B,am⟩,A,K,x2,H⟩
 rintro r V3 ⟨ch,n,D,h,ao,u,rfl⟩;have v:((chs++[ch]).map chD).length=i+1:=by rw[lM1,lA1,aq];rfl
 have N:((chs++[ch]).map chD)[i]?=Z (chD ch):=by rw[gP1,<- aq,cO];rfl
 have d:=ux (m:=m) (w:=w) (e:=e) (L:=L) (ch:=ch) g1 ok;have qq:=q (oH m w e L ch a) g (chs++[ch]) V3 ⟨d.1,d.2.trans g2,f1,f2,by rw[lA1,aq];rfl,λx E=>by
  rcases aF.mp E with z|z
  ·exact g6 x z
  ·rw[cN.mp z];exact n,D,h,ao,u⟩
 unfold rG at qq ⊢;unfold dH;rw[dw]
 ((try walk_at"w");repeat(simp only[mP];try walk_at"w"))
 refine mn h v N ?_;walk_at"w";refine ye (ws:=a.1) (cs:=a.2) (ch:=ch) g1 (Gf inc ok hl) u D.shut (λk o=>by rw[g2];exact n.1 k o) (by have:=n.2;lia) ?_
 try walk_at"w"
 exact qq
theorem G9{B S:dr}{Q:D×dr->Prop}(s:HS c B S)(hc:c<=2^42)(hw:jS m w)(hm:m<=8)(hst:ub m rs cs)(U:0<rs.length)(inc:Inc e L)(ok:∀ p∈L,gr p)(T:L.length<=4000)(hd:S[kd]? = Z (dO (rwF e L)))(j:0<kd)(q:∀c1 c2 n,c1.length<=14->c2.length<=14->(∀ch∈c1,il rs.length ch)->(∀ch∈c2,il rs.length ch)->HS (c+20) B n->HS (c+20) S n->n.length=S.length->Q (prD c1 c2,n)):W (dv 4 ia [.ref 0,ec w,owD e kd,eK rs cs] S) Q:=by
 refine pY (c':=c+20) O (by simp[D.unds,D.und]) s ?_;have hf:=hst.few;have K:=s.pos;have au:=s.len;have H:=(gE1.mp hd).1;have N:=t0 hw hm hst;have A:(iX rs cs).1.length=rs.length:=lM1 ..
 have l:=λS Q q=>vc (rs:=rs) (cs:=cs) (S:=S) (Q:=Q) (by lia) q;generalize iX rs cs=a at *
 unfold ia;refine jf ?_;unfold nG;refine d4 (λr V=>V=S++[.lst [],.dct []]/\r=rG w e kd rs cs a S.length (S.length+1) Y) ?_ ?_
 ·walk_at"w";refine l _ _ ?_;have E:∀r V,px r V=Z (.ref V.length,V++[.dct []]):=λ_ _=>rfl
  ((try walk_at"w");repeat(simp only[E];try walk_at"w"))
  first|rfl|exact⟨by simp,rfl⟩
 rintro r V ⟨rfl,rfl⟩;have C:HS (c+0) S (S++[.lst [],.dct []]):=s.here.app λo ao=>by
  simp only[aE,bO,or_false]at ao;rcases ao with rfl|rfl<;>rfl
 have k:RgI c m kd S.length (S.length+1) w e L rs cs S 0 a [] [] (S++[.lst [],.dct []]):=⟨N,A,nR1 _,λp K=>(by cases K),O,λch h=>(by cases h),C,by rw[dL];rfl,by rw[gE];rfl,fG hd⟩;refine Gd ?_;unfold fD;rw[dw,nL];refine W.of (x:=([.int 14],_)) O ?_;unfold Bf;dsimp only;refine⟨tZ (by decide) (by decide),?_⟩;rw[show(14:Int).toNat=14 from rfl,jN];refine u9 (λi r V=>∃a F chs y7,RgI c m kd S.length (S.length+1) w e L rs cs S i a F chs V/\r=rG w e kd rs cs a S.length (S.length+1) y7) _ 0 _ _ ⟨a,[],[],Y,k,O⟩ (λ_ _ _ _=>rfl) ?_ ?_
 ·rintro i d b r V ⟨a,F,chs,y7,I,rfl⟩;have f:=(gE1.mp b).1;rw[lM1,cW]at f;rw[gP1,cr f]at b;have b:=(Option.some.inj b).symm;subst b;rw[bQ]at *
  unfold gN;rw[dA];dsimp only;rw[show(rG w e kd rs cs a S.length (S.length+1) y7).set 7 (Z (.int (i:Nat)))=rG w e kd rs cs a S.length (S.length+1) (Z (.int (i:Nat)))from rfl];refine wv I f hc inc ok T U (by lia) (by lia) (by lia) (by lia) H j (λc1 c2 aq a1 a2 a3 v am=>?_) λP R g aq X=>?_
  ·exact .inr ⟨_,O,.inr ⟨_,O,am,Bo _ _ _,λu x y z=>q c1 c2 u a1 a2 a3 v x y z⟩⟩
  ·exact .inl ⟨O,P,R,g,_,X,O⟩
 ·rintro r V ⟨a,F,chs,y7,I,rfl⟩;rw[lM1,cW,bQ]at I;refine .inl ⟨O,?_⟩;refine BC (t:=3) (chs:=chs) O (I.hs.more (by lia:c+14<=c+20)) I.dp (λG hG=>W.of O O) I.ck λc1 c2 wq a1 a2 a3 v am=>?_;have:=I.cl;exact⟨am,Bo _ _ _,λu x y z=>q c1 c2 u (by lia) (by lia) a3 v x y z⟩
end
theorem rd{i:Int}(h:i.natAbs<1000):i.natAbs.log2<1920:=bK (Nat.log2_le_self _) (by lia)
theorem vZ.tup{xs:List D}(h:∀x∈xs,∀n,vZ n x):∀n,vZ n (.tup xs)
 |0=>λi h=>by cases h
 |n+1=>⟨λi h=>(by cases h),λys e x a=>(by cases e;exact h x a n)⟩
theorem vZ.int{k:Nat}(h:k<1000):∀n,vZ n (.int (k:Nat))
 |0=>λi e=>by cases e;exact rd (by lia)
 |n+1=>⟨λi e=>(by cases e;exact rd (by lia)),λxs e=>(by cases e)⟩
theorem Lz{n:Nat}{ch:List Nat}(c:n<=8)(h:il n ch):∀m,vZ m (chD ch):=vZ.tup λx a=>by
 obtain⟨k,b,rfl⟩:=ci.mp a;exact vZ.int (by have:=h.1 k b;lia)
theorem C5{n:Nat}{chs:List (List Nat)}(b:n<=8)(h:∀ch∈chs,il n ch):∀m,vZ m (.tup (chs.map chD)):=vZ.tup λx a=>by
 obtain⟨ch,c,rfl⟩:=ci.mp a;exact Lz b (h ch c)
theorem Kt{n:Nat}{c1 c2:List (List Nat)}(b:n<=8)(h1:∀ch∈c1,il n ch)(h2:∀ch∈c2,il n ch):∀m,vZ m (prD c1 c2):=vZ.tup λx a=>by
 simp only[aE,bO,or_false]at a;rcases a with rfl|rfl
 ·exact C5 b h1
 ·exact C5 b h2
theorem C4{n k:Nat}{chs:List (List Nat)}{S:dr}(hk:n<=k)(b:chs.length<=k)(h:∀ch∈chs,il n ch):Ok k S (.tup (chs.map chD)):=Ok.tup (by rw[lM1];exact b) λx a=>by
 obtain⟨ch,hc,rfl⟩:=ci.mp a;exact Ok.nm (by have:=(h ch hc).2;lia)
theorem Gi{n k:Nat}{c1 c2:List (List Nat)}{S:dr}(d:2<=k)(hk:n<=k)(c:c1.length<=k)(b:c2.length<=k)(h1:∀ch∈c1,il n ch)(h2:∀ch∈c2,il n ch):Ok k S (prD c1 c2):=Ok.tup d λx a=>by
 simp only[aE,bO,or_false]at a;rcases a with rfl|rfl
 ·exact C4 hk c h1
 ·exact C4 hk b h2
def za:D->Bool
 | .tup xs=>decide (xs.length=2)
 |_=>J
theorem Kj{d:D}(h:za d=M):∃x y,d = .tup [x,y]:=by
 cases d with
 |tup xs=>
  rw[za,al]at h
  match xs,h with
  |[x,y],_=>exact⟨x,y,O⟩
 |_=>cases h
def rT(N K:D)(w:dB)(e:E4)(L:List Rw)(rs cs:List Nat)(y7 y8 y9 y10 y11 y12 y13 y14 y15:Option D):Ev:=[Z N,Z K,Z (.ref 0),Z (ec w),Z (mcD e L),Z (eK rs cs),Z (.int (rs.length:Nat)),y7,y8,y9,y10,y11,y12,y13,y14,y15]
section
variable{c k m:Nat}{N K:D}{w:dB}{e:E4}{L:List Rw}{rs cs:List Nat}{o:Ob}{T:dr}{y7 y8 y9 y10 y11 y12 y13 y14 y15:Option D}
theorem A1{P x:D}(ho:Hnd o c)(F:ClT T)(u:Ok k (o::T) P)(hx:Ok k (o::T) x):
  W (m2 (b2 eE) (eZ (dn (mV 9) dq)) (m2 (b2 rX) (eZ (dn (mV 10) dq)) (mN (b1 l8) (dn (gv (gx .tuple (mV 10)) (m2 (b2 gEq) (mN (b1 eB) (dn (mV 10) dq)) (mC (D.int 2)))) dq))) (rT N K w e L rs cs y7 y8 (Z P) (Z x) y11 y12 y13 y14 y15) (o::T)) λp=>∃G n v,p=(.ref n,o::(T++G))/\(o::(T++G))[n]?=Z (.lst v)/\ClT (T++G) /\ ∀d∈v,d=P\/(d=x/\za x=M):=by
 have one:∀{d:D} {i:Nat} {G:dr},(rT N K w e L rs cs y7 y8 (Z P) (Z x) y11 y12 y13 y14 y15)[i]?=Z (Z d)->eZ (dn (mV i) dq) (rT N K w e L rs cs y7 y8 (Z P) (Z x) y11 y12 y13 y14 y15) G=Z (.ref G.length,G++[.lst [d]]):=λ{d i G} h=>by
  obtain⟨p,e,rfl⟩:W (eZ (dn (mV i) dq) (rT N K w e L rs cs y7 y8 (some P) (some x) y11 y12 y13 y14 y15) G) λp=>p=(.ref G.length,G++[.lst [d]]):=by
   rw[t8];refine W.of (x:=([d],G)) (by simp only[dn,dq,mV,h,oS1]) ?_;exact⟨NJ,O⟩
  exact e
 refine qT ?_;refine W.of (one (d:=P) O) ?_;refine qT ?_;dsimp only;refine W.of (one (d:=x) O) ?_;dsimp only;have c1:ClT (T++[.lst [P]]):=lE (o:=o) F λd f=>by rw[cN.mp f];exact u
 have c2:ClT (T++[.lst [P]]++[.lst [x]]):=lE (o:=o) c1 λd f=>by rw[cN.mp f];exact hx.on (n:=c) ho
 have g:Ok k (o::(T++[.lst [P]]++[.lst [x]])) x:=by
  have:=hx.on (n:=c) (G:=[.lst [P]]++[.lst [x]]) ho
  rwa [<- bf]at this
 have s:Ok k (o::(T++[.lst [P]]++[.lst [x]])) P:=by
  have:=u.on (n:=c) (G:=[.lst [P]]++[.lst [x]]) ho
  rwa [<- bf]at this
 have es:o::T++[.lst [P]]++[.lst [x]]=o::(T++[.lst [P]]++[.lst [x]]):=by simp
 have C:gv (gx .tuple (mV 10)) (m2 (b2 gEq) (mN (b1 eB) (dn (mV 10) dq)) (mC (D.int 2))) (rT N K w e L rs cs y7 y8 (Z P) (Z x) y11 y12 y13 y14 y15) (o::(T++[.lst [P]]++[.lst [x]]))=Z (.bl (za x),o::(T++[.lst [P]]++[.lst [x]])):=by
  have y:=ly g.v;obtain⟨p,e,rfl⟩:W (gv (gx .tuple (mV 10)) (m2 (b2 gEq) (mN (b1 eB) (dn (mV 10) dq)) (mC (D.int 2))) (rT N K w e L rs cs y7 y8 (some P) (some x) y11 y12 y13 y14 y15) (o::(T++[.lst [P]]++[.lst [x]]))) λp=>p=(.bl (za x),o::(T++[.lst [P]]++[.lst [x]])):=by
   unfold rT;generalize o::(T++[.lst [P]]++[.lst [x]])=S at *
   cases ht:vg x with
   |false=>
    ((try walk_at"w");repeat(simp only[gp,y,ht];try walk_at"w"))
    cases x<;>first|rfl|cases ht
   |true=>
    obtain⟨xs,rfl⟩:=jI ht
    ((try walk_at"w");repeat(simp only[gp,y,ht];try walk_at"w"))
    rw[za];refine congrArg (λb=>(D.bl b,S)) ?_;rw[bT,beq_iff_eq,al];lia
  exact e
 rw[es];refine kY ?_;refine W.of C ?_;refine W.of (x:=(.int (if za x=M then 1 else 0),_)) (by cases za x<;>rfl) ?_;dsimp only[b2];have m:(o::(T++[.lst [P]]++[.lst [x]]))[(o::T++[Ob.lst [P]]).length]?=Z (.lst [x]):=by rw[<- es,cO]
 have B:∃b:Nat,b<=1/\(if za x=M then(1:Int)else 0)=(b:Nat)/\(b=1->za x=M):=by
  cases za x with
  |true=>exact⟨1,by lia,O,λ_=>rfl⟩
  |false=>exact⟨0,by lia,O,λh=>by cases h⟩
 obtain⟨b,b1,t,r⟩:=B;rw[t];have am:rX (.ref (o::T++[Ob.lst [P]]).length) (.int (b:Nat)) (o::(T++[.lst [P]]++[.lst [x]]))=Z (.ref (o::(T++[.lst [P]]++[.lst [x]])).length,o::(T++[.lst [P]]++[.lst [x]])++[.lst (aP b [x]).flatten]):=by
  simp only[rX,m];rw[ak ⟨by lia,by lia,by rw[Int.toNat_natCast,bh,Nat.one_mul];exact aC b1 (by decide)⟩,Int.toNat_natCast]
 refine W.of am ?_;have a:∀d∈(aP b [x]).flatten,d=x/\za x=M:=λd f=>by
  obtain⟨l,h1,h2⟩:=cR.mp f;obtain⟨au,rfl⟩:=List.mem_replicate.mp h1;exact⟨cN.mp h2,r (by lia)⟩
 have H:(aP b [x]).flatten.length<=1:=by
  rcases bY b 1 with h|h
  ·have j:b=0:=by lia
   subst j;exact br _
  ·have j:b=1:=by lia
   subst j;exact nR1 _
 generalize (aP b [x]).flatten=R at *
 have q:(o::(T++[.lst [P]]++[.lst [x]])++[.lst R])[(o::T).length]?=Z (.lst [P]):=by
  rw[<- es,bf,bf,dL];rfl
 refine(xp q (by rw[cO])).mpr ⟨dD (by simp;lia),?_⟩;have E:ClT (T++[.lst [P]]++[.lst [x]]++[.lst R]):=lE (o:=o) c2 λd f=>by rw[(a d f).1];exact g
 have I:ClT (T++[.lst [P]]++[.lst [x]]++[.lst R]++[.lst ([P]++R)]):=lE (o:=o) (k:=k) E λd f=>by
  rcases aF.mp f with z|z
  ·rw[cN.mp z];exact s.on (n:=c) ho
  ·rw[(a d z).1];exact g.on (n:=c) ho
 have A:o::(T++([.lst [P]]++([.lst [x]]++([.lst R]++[.lst ([P]++R)]))))=o::(T++[.lst [P]]++[.lst [x]])++[.lst R]++[.lst ([P]++R)]:=by simp only[bf,bt]
 have ao:ClT (T++([.lst [P]]++([.lst [x]]++([.lst R]++[.lst ([P]++R)])))):=by
  have:T++([.lst [P]]++([.lst [x]]++([.lst R]++[.lst ([P]++R)])))=T++[.lst [P]]++[.lst [x]]++[.lst R]++[.lst ([P]++R)]:=by simp only[bf]
  rw[this];exact I
 refine⟨_,(o::(T++[Ob.lst [P]]++[Ob.lst [x]])++[Ob.lst R]).length,[P]++R,congrArg (λz=>(D.ref (o::(T++[Ob.lst [P]]++[Ob.lst [x]])++[Ob.lst R]).length,z)) A.symm,?_,ao,λd f=>?_⟩
 ·rw[A,cO]
 ·rcases aF.mp f with z|z
  ·exact .inl (cN.mp z)
  ·exact .inr (a d z)
end
theorem KP{b:Bool}{S:dr}:zN (.bl b) (.bl b) S=Z (.bl J,S):=by cases b<;>rfl
section
variable{c k m:Nat}{N K:D}{w:dB}{e:E4}{L:List Rw}{rs cs:List Nat}{o:Ob}{T:dr}{y7 y8 y9 y10 y11 y12 y13 y14 y15:Option D}
theorem wD(inc:Inc e L)(ok:∀p∈L,gr p){S:dr}(c:fj S):Up S (S++[.lst (L.map (eV e)),dO (rwF e L)]):=by
 refine⟨⟨_,O⟩,oJ c λx b=>?_⟩;rcases aE.mp b with z|z
 ·rw[z,Ob.und];exact Mi.dW λp a=>e9 (oX (ok p a).2)
 ·rw [cN.mp z];exact yC fun p a=>by
   obtain⟨x,b,rfl⟩:=ci.mp a;exact(ok x b).2.und
theorem Jq{x y:D}{S:dr}{Q:Fl×Ev×dr->Prop}(hw:jS m w)(hm:m<=8)(hst:ub m rs cs)(j:0<rs.length)(inc:Inc e L)(ok:∀ p∈L,gr p)(f:L.length<=4000)(g:fj S)(hx:vd S x=true)(hy:vd S y=true)(i:bd 150 x=true)(a:bd 150 y=true)(q:∀b,Q (.nx,rT N K w e L rs cs y7 y8 y9 y10 y11 (some x) (some y) (some (.bl b)) (some (.bl b)),S++[.lst (L.map (eV e)),dO (rwF e L)])):
  W (oh (rT N K w e L rs cs y7 y8 y9 y10 y11 (Z x) (Z y) y14 y15) S) Q:=by
 have c:=wD inc ok g;have l:=λQ q=>DR (S:=S) (Q:=Q) hw hm hst j inc ok f g hx hy i a q
 have n:=λQ q=>IQ (S:=S++[.lst (L.map (eV e)),dO (rwF e L)]) (kd:=S.length+1) (Q:=Q) hw hm hst j inc ok f c.2 (by rw[gE];rfl) (c.vd hx) (c.vd hy) i a q
 generalize xa rs.length m w e L (iX rs cs) x y=b at *
 have h:=q b;unfold oh;refine d4 (λr V=>V=S/\r=rT N K w e L rs cs y7 y8 y9 y10 y11 (Z x) (Z y) (Z (.bl b)) y15) ?_ ?_
 ·unfold rT;walk_at"w";refine l _ ?_
  first|exact⟨rfl,rfl,rfl⟩|exact⟨rfl,rfl⟩|rfl
 rintro r V ⟨d,rfl⟩;have d:=d.symm;subst d;refine d4 (λr V=>V=S++[.lst (L.map (eV e)),dO (rwF e L)]/\r=rT N K w e L rs cs y7 y8 y9 y10 y11 (Z x) (Z y) (Z (.bl b)) (Z (.bl b))) ?_ ?_
 ·unfold rT;walk_at"w";refine Gj inc ok f ?_;walk_at"w";refine n _ ?_
  first|exact⟨rfl,rfl,rfl⟩|exact⟨rfl,rfl⟩|rfl
 rintro r V ⟨rfl,rfl⟩;have k:∀S,mL S .bool (.bl b)=Z M:=λS=>rfl;unfold rT at h ⊢
 ((try walk_at"w");repeat(simp only[gp,k,KP];try walk_at"w"))
 exact h
inductive TI (c:Nat)(N K:D)(w:dB)(e:E4)(L:List Rw)(rs cs:List Nat)(r:Ev)(V:dr):Prop
 |mk (o:Ob) (T:dr) (y7 y8 y9 y10 y11 y12 y13 y14 y15:Option D) (h1:V=o::T) (h2:Hnd o c) (h3:ClT T) (h4:r=rT N K w e L rs cs y7 y8 y9 y10 y11 y12 y13 y14 y15):TI c N K w e L rs cs r V
theorem E3{n:Nat}{G:dr}{v:List D}{P x:D}{Q:Fl×Ev×dr->Prop}(ho:Hnd o c)(F:ClT G)(hn:(o::G)[n]? = some (.lst v))(hw:jS m w)(hm:m<=8)(hst:ub m rs cs)(am:0<rs.length)(inc:Inc e L)(ok:∀ p∈L,gr p)(I:L.length<=4000)(C:∀d∈v,∃x y,d = .tup [x,y]/\Ok 150 (o::G) x/\Ok 150 (o::G) y)(q:∀r V,TI c N K w e L rs cs r V->Q (.nx,r,V)):
  W (fD (e6 (mV 11)) (gT 2 (eU (gN 12) (eU (gN 13) i7))) oh (rT N K w e L rs cs y7 y8 y9 y10 (Z (.ref n)) y12 y13 y14 y15) (o::G)) Q:=by
 have B:=λx y S Q ao k j H z q (y14 y15:Option D)=>Jq (N:=N) (K:=K) (x:=x) (y:=y) (S:=S) (Q:=Q) (y7:=y7) (y8:=y8) (y9:=y9) (y10:=y10) (y11:=Z (.ref n)) (y14:=y14) (y15:=y15) hw hm hst am inc ok I ao k j H z q
 unfold fD;rw[dw,iV];refine W.of (x:=(.ref n,o::G)) O ?_;dsimp only;refine eh hn ?_;dsimp only;have s:=sN ho F;refine fA (λi r V=>Up (o::G) V /\ ∃y12 y13 y14 y15,r=rT N K w e L rs cs y7 y8 y9 y10 (Z (.ref n)) y12 y13 y14 y15) v 0 _ _ ⟨Up.refl s,_,_,_,_,O⟩ (λi r V h=>?_) ?_ ?_
 ·obtain⟨⟨⟨A,rfl⟩,_⟩,_⟩:=h;exact fS (fG hn)
 ·rintro i d E r V ⟨a,t,l,g,f,rfl⟩;obtain⟨x,y,rfl,k,j⟩:=C d (gM1 E);have h2:=B x y V (λq=>q.1 = .nx/\(λi r V=>Up (o::G) V /\ ∃y12 y13 y14 y15,r=rT N K w e L rs cs y7 y8 y9 y10 (Z (.ref n)) y12 y13 y14 y15) (0+i+1) q.2.1 q.2.2) a.2 (a.vd k.v) (a.vd j.v) k.b j.b (λb=>⟨O,a.trans (wD inc ok a.2),_,_,_,_,O⟩) g f;unfold rT at h2 ⊢;walk_at"w";exact h2
 ·rintro r V ⟨a,t,l,g,f,rfl⟩;obtain⟨⟨A,rfl⟩,u⟩:=a;refine q _ _ ⟨o,G++A,_,_,_,_,_,_,_,_,_,O,ho,?_,O⟩;unfold fj at u;rw[bt,bS,bA1,lC1]at u;exact u.2
theorem DP{V:dr}(h:HS c V V)(hc:c<=2^40):
  W (dH (eZ (dn (mN (dv 2 dy) (dn (mV 2) (dn (mC (D.int 7)) dq))) (dn (mN (dv 2 dy) (dn (mV 2) (dn (mC (D.int 7)) dq))) dq))) (gN 8) (rT N K w e L rs cs y7 y8 y9 y10 y11 y12 y13 y14 y15) V) λp=>p.1 = .nx /\ ∃(a b kz:Nat),a<7/\b<7/\0<kz/\HS (c+2) V p.2.2/\p.2.2[kz]?=Z (.lst [.int (a:Nat),.int (b:Nat)])/\p.2.1=rT N K w e L rs cs y7 (Z (.ref kz)) y9 y10 y11 y12 y13 y14 y15:=by
 have m:=h.pos;unfold rT;walk_at"w";refine draw_W h (by lia) (by lia) (by lia) λd k a i n h1=>?_;walk_at"w";refine draw_W a (by lia) (by lia) (by lia) λf j b g l h2=>?_;walk_at"w";exact⟨d,f,j.length,by lia,by lia,by lia,b.app1 O,by rw[cO],O⟩
theorem HE{V:dr}{q y kz:Nat}(h:HS c V V)(hc:c<=2^40)(am:0<rs.length)(hf:rs.length<=8)(h1:q<7)(h2:y<7)(B:0<kz)(hk:V[kz]? = some (.lst [.int (q:Nat),.int (y:Nat)])):
  W (dH (mN (b1 Mi.gTup) (dn (d6 1 [2,6] (e6 (mV 8)) (gN 0) ea (dU (mN (b1 Mi.gTup) (dn (d6 1 [1,2] (nS (dn (mV 0) dq)) (gN 0) ea (dU (mN (dv 2 eI) (dn (mV 1) (dn (mV 2) dq))))) dq)))) dq)) (gN 9) (rT N K w e L rs cs y7 (Z (.ref kz)) y9 y10 y11 y12 y13 y14 y15) V) λp=>p.1 = .nx /\ ∃c1 c2,c1.length<=14/\c2.length<=14/\(∀ch∈c1,il rs.length ch)/\(∀ch∈c2,il rs.length ch)/\HS (c+14) V p.2.2/\p.2.1=rT N K w e L rs cs y7 (Z (.ref kz)) (Z (prD c1 c2)) y10 y11 y12 y13 y14 y15:=by
 unfold dH;rw[dw];refine kY ?_;rw[fe,iV];refine W.of (x:=(.ref kz,V)) O ?_;dsimp only;refine eh hk ?_;dsimp only;rw[show ju 1 [2,6] (rT N K w e L rs cs y7 (Z (.ref kz)) y9 y10 y11 y12 y13 y14 y15)=[Y,Z (.ref 0),Z (.int (rs.length:Nat))]from rfl];refine iA (λi k r U=>i<=2/\HS (c+7*i) V U/\(∃f:List (List (List Nat)),k=f.map (λx=>D.tup (x.map chD))/\f.length=i /\ ∀x∈f,x.length<=7 /\ ∀ch∈x,il rs.length ch) /\ ∃x,r=[x,Z (.ref 0),Z (.int (rs.length:Nat))]) _ 0 [] _ _ ⟨by lia,h,⟨[],O,O,λx l=>by cases l⟩,_,O⟩ (λi k r U F=>fS (F.2.1.at hk B)) ?_ ?_
 ·rintro i d E k r U ⟨hi,m,⟨f,rfl,j,g⟩,x,rfl⟩;have v:=(gE1.mp E).1;have I:∃ s:Nat,s<=7/\d = .int (s:Nat):=by
   have:=gM1 E;simp only[aE,bO,or_false]at this;rcases this with rfl|rfl
   ·exact⟨q,by lia,O⟩
   ·exact⟨y,by lia,O⟩
  obtain⟨s,u,rfl⟩:=I;rw[bQ]at *
  have H:i<2:=v;have t:=Fc (s:=s) (n:=rs.length) m (by lia) am hf u;unfold gN ea;rw[dA];dsimp only;rw[dA,ak O];refine t.mono ?_;rintro⟨p,au⟩ ⟨chs,C,ao,o,a,b⟩;dsimp only at C a b ⊢;subst C;refine⟨by lia,a.more (by lia),⟨f++[chs],by rw[cg];rfl,by rw[lA1,j];rfl,λx l=>?_⟩,_,O⟩;rcases aF.mp l with z|z
  ·exact g x z
  ·rw[cN.mp z];exact⟨by lia,o⟩
 ·rintro xs r U ⟨hi,m,⟨f,l,j,g⟩,x,rfl⟩;rw[bi]at l;subst l;have A:f.length=2:=j;refine⟨dD (by rw[lM1];lia),?_⟩;dsimp only;refine qm.mpr ?_;refine eh (by rw[cO]) ?_
  match f,A with
  |[c1,c2],_=>
   have o:=g c1 (by simp);have G:=g c2 (by simp);refine W.of (x:=(.nx,rT N K w e L rs cs y7 (Z (.ref kz)) (Z (prD c1 c2)) y10 y11 y12 y13 y14 y15,_)) O ⟨O,c1,c2,by lia,by lia,o.2,G.2,?_,O⟩;refine HS.more (m.app1 ?_) (by show c+7*2<=c+14;lia);have h1:=kN c1 0;have h2:=kN c2 0;simp[Ob.und,D.unds,D.und,h1,h2]
theorem GS{r:Ev}{V:dr}(I:TI c N K w e L rs cs r V)(hc:c<=2^38)(hw:jS m w)(hm:m<=8)(hst:ub m rs cs)(X:0<rs.length)(inc:Inc e L)(ok:∀ p∈L,gr p)(U:L.length<=4000):
  W (sS r V) λp=>p.1 = .nx/\TI (c+100) N K w e L rs cs p.2.1 p.2.2:=by
 obtain⟨o,T,y7,y8,y9,y10,y11,y12,y13,y14,y15,rfl,ho,hT,rfl⟩:=I;have hf:=hst.few;unfold sS;refine d4 (λr V=>∃B g kz:Nat,B<7/\g<7/\0<kz/\HS (c+2) (o::T) V/\V[kz]?=Z (.lst [.int (B:Nat),.int (g:Nat)])/\r=rT N K w e L rs cs y7 (Z (.ref kz)) y9 y10 y11 y12 y13 y14 y15) (DP (HS.join ho hT) (by lia)) ?_;rintro r V ⟨B,g,kz,h1,h2,aq,t,hk,rfl⟩;refine d4 (λr V=>∃c1 c2,c1.length<=14/\c2.length<=14/\(∀ch∈c1,il rs.length ch)/\(∀ch∈c2,il rs.length ch)/\HS (c+16) V V/\r=rT N K w e L rs cs y7 (Z (.ref kz)) (Z (prD c1 c2)) y10 y11 y12 y13 y14 y15) ?_ ?_
 ·refine(HE t.here (by lia) X hf h1 h2 aq hk).mono ?_;rintro p ⟨a1,c1,c2,a2,a3,ao,wq,a6,a7⟩;exact⟨a1,c1,c2,a2,a3,ao,wq,a6.here,a7⟩
 rintro r V ⟨c1,c2,C,A,l,s,t,rfl⟩;refine d4 (λr V=>∃c1 c2,c1.length<=14/\c2.length<=14/\(∀ch∈c1,il rs.length ch)/\(∀ch∈c2,il rs.length ch)/\HS (c+40) V V/\r=rT N K w e L rs cs y7 (Z (.ref kz)) (Z (prD c1 c2)) y10 y11 y12 y13 y14 y15) ?_ ?_
 ·have ht:W (mB (m2 (b2 gEq) (mN (dv 2 dy) (dn (mV 2) (dn (mC (D.int 2)) dq))) (mC (D.int 0))) (rT N K w e L rs cs y7 (some (.ref kz)) (some (prD c1 c2)) y10 y11 y12 y13 y14 y15) V) fun p=>HS (c+17) p.2 p.2:=by
   unfold rT;walk_at"w";refine draw_W t (by lia) (by lia) (by lia) λd k g s2' A hd=>?_;walk_at"w";exact g.here
  obtain⟨⟨b,k⟩,et,g⟩:=ht;dsimp only at g;unfold fh;rw[dw];refine W.of et ?_;dsimp only;cases b with
  |false=>
   rw[aj (by decide)];exact W.of O ⟨O,c1,c2,C,A,l,s,g.more (by lia),O⟩
  |true=>
   rw[ak O];have hU:=wD inc ok g.shut;have s3:HS (c+17) k (k++[.lst (L.map (eV e)),dO (rwF e L)]):=by
    obtain⟨o,e1,h1⟩:=g.hand;have hp:=g.pos;exact⟨by rw[lA1];lia,hp,λi hi _=>gL1 hi,⟨o,fG e1,h1⟩,hU.2⟩
   have hp:=g.pos;have au:=λQ q=>G9 (S:=k++[.lst (L.map (eV e)),dO (rwF e L)]) (kd:=k.length+1) (Q:=Q) s3 (by lia) hw hm hst X inc ok U (by rw[gE];rfl) (by lia) q;unfold rT;walk_at"w";refine Gj inc ok U ?_;walk_at"w";have es:k++[Ob.lst (L.map (eV e)),dO (rwF e L)]=k++[Ob.lst (L.map (eV e)),dO (rwF e L)]:=rfl;refine au _ λc1 c2 S' a1 a2 a3 ao wq _ _=>?_;refine⟨c1,c2,a1,a2,a3,ao,wq.here.more (by lia),?_⟩
   first|rfl|trivial
 rintro r V ⟨c1,c2,C,A,l,s,t,rfl⟩;obtain⟨o1,H,rfl,ho1,am⟩:=t.split;refine d4 (λr V=>∃x f h,V=f::h/\Hnd f (c+100)/\ClT h/\Ok 30 (f::h) x/\r=rT N K w e L rs cs y7 (Z (.ref kz)) (Z (prD c1 c2)) (Z x) y11 y12 y13 y14 y15) ?_ ?_
 ·have hP:Ok 14 (o1::H) (prD c1 c2):=Gi (n:=rs.length) (by lia) (by lia) C A l s;have bw:=λQ q=>Js 4 (fuel:=8) (Q:=Q) (by lia) ho1 (by lia) am hP (Kt hf l s 4) (by lia) (by lia) q;unfold rT;walk_at"w";refine bw _ λx f G h1 h2 h3=>?_
  first|exact⟨x,f,H++G,rfl,h1.more (by lia),h2,h3,rfl⟩|exact⟨rfl,x,f,H++G,rfl,h1.more (by lia),h2,h3,rfl⟩
 rintro r V ⟨x,f,h,rfl,j,R,hx,rfl⟩;have y:Ok 30 (f::h) (prD c1 c2):=Gi (n:=rs.length) (by lia) (by lia) (by lia) (by lia) l s;refine d4 (λr V=>∃G n u,V=f::(h++G)/\(f::(h++G))[n]?=Z (.lst u)/\ClT (h++G)/\(∀d∈u,d=prD c1 c2\/(d=x/\za x=M))/\r=rT N K w e L rs cs y7 (Z (.ref kz)) (Z (prD c1 c2)) (Z x) (Z (.ref n)) y12 y13 y14 y15) ?_ ?_
 ·unfold dH;rw[dw];refine(A1 (N:=N) (K:=K) (w:=w) (e:=e) (L:=L) (rs:=rs) (cs:=cs) j R y hx).mono ?_;rintro p ⟨G,n,u,rfl,E,F,g3⟩;exact W.of O ⟨O,G,n,u,O,E,F,g3,O⟩
 rintro r V ⟨G,n,u,rfl,E,F,g3,rfl⟩;refine E3 (m:=m) (P:=prD c1 c2) (x:=x) j F E hw hm hst X inc ok U (λd hd=>?_) λr V hI=>⟨O,hI⟩;have v:Ok 150 (f::(h++G)) x:=(hx.on (n:=c) j).more (by lia);have z:Ok 150 (f::(h++G)) (prD c1 c2):=(y.on (n:=c) j).more (by lia);rcases g3 d hd with rfl|⟨rfl,h2⟩
 ·exact⟨_,_,O,z.of.2 _ (by simp),z.of.2 _ (by simp)⟩
 ·obtain⟨a,b,rfl⟩:=Kj h2;exact⟨a,b,O,v.of.2 _ (by simp),v.of.2 _ (by simp)⟩
end
abbrev rU(N:D)(i:Nat)(a b c d:Option D):Ev:=[Z N,Z (.int (i:Nat)),a,b,c,d,Y,Y,Y,Y,Y,Y,Y,Y,Y,Y]
abbrev rV(N:D):Ev:=[Z N,Y,Y,Y,Y,Y,Y,Y,Y,Y,Y,Y,Y,Y,Y,Y]
theorem DT(ns:List Int)(i:Nat)(hi:i<8):W (sR [Z (.rol (ns.map D.int)),Z (.int (i:Nat)),Y,Y,Y,Y,Y,Y,Y,Y,Y,Y,Y,Y,Y,Y] []) λp=>p.1 = .nx /\ ∃E:Ev,p.2.1=Z (.rol (ns.map D.int))::E/\E.length=15:=by
 obtain⟨o,G,B⟩:=Jp ns i (by lia) (by lia);generalize U:D.rol (ns.map D.int)=N at *
 unfold sR;refine d4 (λr V=>V=[o]/\r=(rU N i (Z (.ref 0)) Y Y Y)) ?_ ?_
 ·((try walk_at"w");repeat(simp only[G];try walk_at"w"))
 rintro r V ⟨rfl,rfl⟩;have K:HS 0 [o] [o]:=.self O B (by unfold fj;rw[bS,B.und];rfl);refine d4 (λr V=>∃(m:Nat) (w:dB) (e:E4) (L:List Rw),0<m/\m<=6/\jS m w/\Inc e L/\(∀p∈L,gr p)/\L.length<=75/\HS 600 [o] V/\r=(rU N i (Z (.ref 0)) (Z (ec w)) (Z (mcD e L)) Y)) ?_ ?_
 ·walk_at"w";refine JQ (most:=6) K (by lia) (by lia) (by lia) λm w aq t C h F _ R=>?_;walk_at"w";refine zz F (by lia) λe L H inc ok y s _ wq=>?_;walk_at"w";exact⟨m,w,e,L,t,C,h,inc,ok,y,s,O⟩
 rintro r V ⟨m,w,e,L,t,C,h,inc,ok,y,s,rfl⟩;refine d4 (λr V=>∃rs cs,ub m rs cs/\0<rs.length/\HS 700 [o] V/\r=(rU N i (Z (.ref 0)) (Z (ec w)) (Z (mcD e L)) (Z (eK rs cs)))) ?_ ?_
 ·have g:∀ S,wZ (.int 4) (.int (m:Nat)) S=some (.int ((min 4 m:Nat):Int),S):=fun S=>by
   simp only[wZ];refine congrArg (λz=>Z (D.int z,S)) ?_;split<;>lia
  ((try walk_at"w");repeat(simp only[oi,g];try walk_at"w"))
  rw[h.len,g];walk_at"w";refine wo (most:=min 4 m) h t (by lia) (by lia) (by lia) s (by lia) λrs cs H f l X k am _=>?_
  first|exact⟨rs,cs,f,l,k.more (by lia),rfl⟩|exact⟨rfl,rs,cs,f,l,k.more (by lia),rfl⟩
 rintro r V ⟨rs,cs,f,l,k,rfl⟩;refine d4 (λr A=>A=V/\r=rT N (.int (i:Nat)) w e L rs cs Y Y Y Y Y Y Y Y Y) ?_ ?_
 ·have st0:∀S,dz (eK rs cs) (.int 0) S=Z (.tup (nmD rs),S):=λS=>rfl;unfold rT
  ((try walk_at"w");repeat(simp only[st0,gX,fg];try walk_at"w"))
 rintro r A ⟨rfl,rfl⟩;obtain⟨au,ao,rfl,u,n⟩:=k.split;unfold fD;rw[dw,nL];refine W.of (x:=([.int 4],_)) O ?_;unfold Bf;dsimp only;refine⟨tZ (by decide) (by decide),?_⟩;rw[show(4:Int).toNat=4 from rfl,jN];refine fA (λj r V=>j<=4/\TI (700+100*j) N (.int (i:Nat)) w e L rs cs r V) _ 0 _ _ ⟨by lia,au,ao,_,_,_,_,_,_,_,_,_,O,u,n,O⟩ (λ_ _ _ _=>rfl) ?_ ?_
 ·rintro j d P r V ⟨Q,I⟩;have q:=(gE1.mp P).1;rw[lM1,cW]at q;rw[bQ]at *
  obtain⟨o,T,y7,y8,y9,y10,y11,y12,y13,y14,y15,rfl,h2,v,rfl⟩:=I;unfold gN;rw[dA];dsimp only;refine(GS (c:=700+100*j) ⟨o,T,Z d,y8,y9,y10,y11,y12,y13,y14,y15,O,h2,v,O⟩ (by lia) h (by lia) f l inc ok (by lia)).mono ?_;rintro p ⟨a,b⟩;exact⟨a,by lia,b⟩
 ·rintro r V ⟨Q,I⟩;obtain⟨o,T,y7,y8,y9,y10,y11,y12,y13,y14,y15,rfl,h2,v,rfl⟩:=I;exact⟨O,_,O,O⟩
theorem truth(ns:List Int)(A:ns.length<=63):∃S,m_law [.rol (ns.map D.int)] []=Z (.bl M,S):=by
 have k:W (m_law [.rol (ns.map D.int)] []) λp=>p.1 = .bl M:=by
  unfold m_law;refine jf ?_;unfold De;have o:(D.rol (ns.map D.int)).und 0=M:=by simp[D.und,mr]
  have v:=λi hi=>DT ns i hi;generalize u:D.rol (ns.map D.int)=N at *
  have b:eB N []=Z (.int ns.length,[]):=by rw[<- u];simp[eB,dQ]
  refine d4 (λr S=>S=[]/\r=rV N) ?_ ?_
  ·((try walk_at"w");repeat(simp only[Fi,wZ,b];try walk_at"w"))
   have s:∃t:Nat,t<=8/\(if(if(ns.length:Int)<8 then(ns.length:Int)else 8)>1 then(if(ns.length:Int)<8 then(ns.length:Int)else 8)else 1)=(t:Int):=by
    by_cases h1:(ns.length:Int)<8
    ·rw[ak h1];by_cases h2:(ns.length:Int)>1
     ·rw[ak h2];exact⟨ns.length,by lia,O⟩
     ·rw[aj h2];exact⟨1,by lia,O⟩
    ·rw[aj h1];exact⟨8,by lia,by decide⟩
   obtain⟨t,B,te⟩:=s;rw[te,Int.toNat_natCast];refine⟨gF (by lia),?_⟩;refine fA (λ_ r S=>S=[]/\r=rV N) _ 0 _ _ ⟨O,O⟩ (λ_ _ _ _=>rfl) ?_ ?_
   ·rintro i d l r S ⟨rfl,rfl⟩;have c:=(gE1.mp l).1;rw [fL] at c;have n:d = .int (i:Nat):=by
     rw[jN,gP1,cr c]at l;exact(Option.some.inj l).symm
    subst n;walk_at"w";obtain⟨⟨f,r2,z⟩,y,q,a,g,j⟩:=v i (by lia);dsimp only at q g;subst q;subst g;refine W.of (x:=(.nx,rV N,[])) ?_ ⟨O,O,O⟩;have w:∀a:Ev,a.length=15->fV [M,J,J,J,J,J,J,J,J,J,J,J,J,J,J,J] (Z N::a)=rV N:=by
     intro a h
     match a,h with
     |[z1,z2,z3,z4,z5,z6,z7,z8,z9,z10,z11,z12,z13,z14,z15],_=>rfl
    have m:=w a j;unfold xZ rH;rw[show fV [M,M,J,J,J,J,J,J,J,J,J,J,J,J,J,J] (rU N i Y Y Y Y)=(rU N i Y Y Y Y)from rfl,ak (by simp[k0,D.und,o]),y,oS1];dsimp only;rw[m,ak (by simp[k0,o])]
   ·rintro r S ⟨rfl,rfl⟩;exact⟨O,O,O⟩
  ·rintro r S ⟨rfl,rfl⟩;walk_at"w"
 obtain⟨⟨d,S⟩,e,h⟩:=k;dsimp only at h;exact⟨S,by rw[e,h]⟩
end Law
end
open PySem PySem.W PyProof.Rows
set_option maxRecDepth 100000 in
set_option maxHeartbeats 0 in
theorem PySem.Challenge.cw_ringmeet_k69_rounds_looked_at_holds : PySem.Challenge.rw_ringmeet_k69_rounds_looked_at.Holds := by
 w_on;refine PySem.W.holds_law (by decide+kernel) fun d=>?_;k_head;(case hw=>w_witness2)
 k_fill
 refine Mi.walk_m (l:=PySem.Challenge.rw_ringmeet_k69_rounds_looked_at) (m:=Law.m_law) (k:=13) (x:="_law_script") rfl rfl ⟨rfl,by decide,by decide,rfl⟩ (fun w h Y=>PySem.W.kIn_of Y) Law.truth ?F
 case F=>
  intro w mg f h e G b;refine' Law.all_mk e G b ?a1 ?a2 ?a3 ?a4 ?a5 ?a6 ?a7 ?a8 ?a9 ?a10 ?a11 ?a12 ?a13 ?a14 ?a15 ?a16 ?a17 ?a18 ?a19 ?a20 ?a21 ?a22 ?a23 ?a24 ?a25 ?a26 ?a27 ?a28 ?a29 ?a30 ?a31 ?a32 ?a33 ?a34 ?a35 ?a36 ?a37 ?a38 ?a39 ?a40 ?a41 ?a42 ?a43 ?e_PARTS ?h1 ?h2 ?h5 ?h8 ?h11 ?z
  all_goals try (refine' Mi.Li ?a ?l ?c ?k;(case a=>k_is);(case l=>k_is);(case c=>k_is);(case k=>k_is))
  (case e_PARTS=>k_is)
  (case h1=>k_is)
  (case h2=>k_is)
  (case h5=>k_is)
  (case h8=>k_is)
  (case h11=>k_is)
  (case z=>exact ⟨by k_is,by k_is,by k_is,by k_is,by k_is,by k_is,by k_is,by k_is,by k_is,by k_is,by k_is,by k_is,by k_is,by k_is,by k_is,by k_is,by k_is,by k_is,trivial⟩)

