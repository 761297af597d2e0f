import PyProof.Rows.All
import Wide.All
import OpenK.AllK
import Wide.FinOn
import Lean
import PyProof.EqAt
import PyProof.EqKinds
import PyProof.TupleCall
import PySem.Challenge.RW_ringmeet_k69_rounds_looked_at
set_option Elab.async false
set_option compiler.extract_closed false
set_option genSizeOf false
set_option bootstrap.genMatcherCode false
set_option linter.all false
set_option maxRecDepth 100000
set_option maxHeartbeats 4000000
open List renaming getElem?_eq_some_iff → gE1, getElem?_append_left → gL1, getElem?_eq_getElem → gG1, mem_of_getElem? → gM1, getElem?_set_ne → gS1, length_append → lA1, length_map → lM1, getElem?_cons_succ → gC1, mem_cons_of_mem → mC1, mem_cons_self → mS1, getElem?_map → gP1, getElem?_append_right → gR1, size_toArray → sT1, map_cons → mP1, length_cons → lC1, length_replicate → lR1, mem_append_right → mA1
open Option renaming bind_eq_some_iff → oB1, map_eq_some_iff → oM1, bind_some → oS1, map_some → oP1
open Nat renaming le_refl → nR1, lt_of_lt_of_le → nL1, ne_of_lt → nN1, ne_of_gt → nG1
open Bool renaming and_eq_true → bA1, false_eq_true → bF1
open Array renaming getElem?_eq_getElem → aG1, getElem?_toList → aT1
open PySem.W renaming Frag → Fg1, nsIn → wN1, keepIn → wK1, codeIn → wC1, fnOf → wF1, mg_of → wM1
open PySem.Heap renaming get?_push_of_some → hP1, get?_push_size → hS1, lt_size → hL1, size_push → hZ1, get?_update_ne → hU1, get?_update_self → hW1
open PySem renaming wpAny_bind → wB1, wpAny_pure → wP1, wpAny_setField_rec → wS1, wpAny_newObj_type → wO1, codeAny_builtin → wD1, wpAny_call_entry → wE1
open List renaming take_nil → av, drop_nil → aw, mem_filter → aA, mem_range → aB, filterMap_cons → aD, mem_cons → aE, mem_append → aF, mem_append_left → aG, getElem?_set_self → aH, set_comm → aJ, mem_filterMap → aM, append_nil → aN, nodup_cons → aO, replicate → aP, length_take → aR, getElem?_replicate → aS, getElem?_take_of_lt → aT, take_sublist → aU, filterMap_map → aV, length_drop → aW, length_set → aX, reverse_cons → aY, replicate_succ → aZ, flatten_cons → a0, append_assoc → bf, foldl_cons → bg, length_singleton → bh, nil_append → bi, map_nil → bj, find?_cons → bm, any_cons → bn, length_nil → bo, cons_append → bt, prefix_rfl → bv, nodup_nil → bA, getElem?_of_mem → bB, map_map → bD, prefix_append → bE, nodup_append → bG, all_eq_true → bH, lookup_cons → bJ, getD_eq_getElem?_getD → bM, zipIdx_cons → bN, not_mem_nil → bO, all_cons → bS, any_eq_true → bU, getElem_mem → bV, mem_iff_getElem → bW, zip_cons_cons → bX, cons_prefix_cons → bZ, take_length → b0, ext_getElem? → b4, getElem?_eq_none → b5, take_of_length_le → b7, length_reverse → b8, pairwise_cons → b9, length_eq_zero_iff → ca, pairwise_iff_getElem → cb, pairwise_lt_range → cf, map_append → cg, mem_map → ci, take_succ → cj, foldl_append → cm, length_eraseIdx_of_lt → cp, perm_middle → cq, getElem?_range → cr, getElem?_toArray → cv, contains_iff_mem → cw, forall_mem_nil → cy, mem_of_mem_take → cA, map_congr_left → cD, filter_cons → cF, take_append_of_le_length → cG, map_id → cH, take_left → cI, pairwise_map → cJ, getElem?_cons_zero → cK, all_append → cM, mem_singleton → cN, getElem?_concat_length → cO, length_filter_le → cQ, mem_flatten → cR, length_zipIdx → cT, set_append_right → cU, getElem?_zipIdx → cV, length_range → cW, mem_flatMap → cX, mem_of_mem_drop → cY
open Option renaming some → ay, isSome_iff_exists → aQ, isSome_map → bp, getD_some → cB
open Nat renaming lt_irrefl → az, le_trans → aC, le_succ → bc, lt_trans → bq, zero_le → br, add_assoc → bu, le_add_right → bC, not_lt_zero → bF, lt_succ_self → bI, lt_of_le_of_lt → bK, le_of_succ_le → bL, zero_add → bQ, lt_or_ge → bY, succ_eq_add_one → cE, sub_self → cP, mul_le_mul_right → cS
open Array renaming length_toList → aI, toList_push → cc, getElem?_eq_none → cu
open Bool renaming false_ne_true → aK, false_and → aL, and_true → bP, or_eq_true → bR, eq_iff_iff → bT, not_true → b6, true_and → cC
open PySem renaming Value → cZ, Shared → c3, Addr → c4, Program → c5, Around → c6, World → c7, mainGlobals → c8, starEach → c9, sizeLine → da, wpAny → db, codeAny → de, Heap → df, FuncData → dg, Stmt → di, Scope → dj
open Option renaming some → Z, none → Y
open Bool renaming true → M, false → J
theorem gu0(h0:True:=by repeat first|rfl|exact .inl rfl|assumption|apply Or.inr)(h1:True:=by decide)(h2:True:=by rfl)(h3:True:=by intro _;rfl)(h4:True:=by decide+kernel)(h5:True:=by assumption):True:=h0
namespace gu0
end gu0
open gu0 renaming _auto_1 → au0, _auto_2 → bu0, _auto_3 → cu0, _auto_4 → du0, _auto_5 → eu0, _auto_6 → fu0
theorem Mi.O{α}{a:α}:a=a:=rfl
open Mi (O)
theorem Mi.al{p:Prop}[Decidable p]:(decide p=true)=p:=decide_eq_true_eq
theorem Mi.ak{c:Prop}{h:Decidable c}(a:c){α:Sort _}{t e:α}:ite c t e=t:=if_pos a
theorem Mi.aj{c:Prop}{h:Decidable c}(a:¬c){α:Sort _}{t e:α}:ite c t e=e:=if_neg a
theorem Mi.ai{p:Prop}[Decidable p]:¬p→decide p=false:=decide_eq_false
theorem Mi.ah{p:Prop}[Decidable p]:p→decide p=true:=decide_eq_true
open List renaming range → af
open Mi (al ak aj ai ah)
noncomputable section
namespace L2
open PySem PySem.Spec PyProof.Rows
abbrev Key:=Sum Int Str
def rP:Key->cZ->Bool
 | .inl k,v=>Value.isInt k v
 | .inr x,v=>Value.isStrOf x v
def M1(w:c7):Key->Int
 | .inl k=>hashInt k
 | .inr x=>hashStr w x
theorem e9:∀{k:Key} {v:cZ},rP k v=M->(∃i t,k=Sum.inl i/\v=Value.int i t)\/(∃x t,k=Sum.inr x/\v=Value.str x t)
 | .inl i,v,h=>by
  obtain⟨t,e⟩:=Value.isInt_shape (k:=i) (v:=v) h;exact .inl ⟨i,t,O,e⟩
 | .inr x,v,h=>by
  obtain⟨t,e⟩:=Value.isStrOf_shape (x:=x) (v:=v) h;exact .inr ⟨x,t,O,e⟩
theorem zG(i:Int)(t:Tok):rP (.inl i) (.int i t)=M:=by simp[rP,Value.isInt]
theorem zF(x:Str)(t:Tok):rP (.inr x) (.str x t)=M:=by simp[rP,Value.isStrOf]
theorem I1(a b:Int):decide ((Sum.inl a:Key)=Sum.inl b)=(a == b):=by
 by_cases e:a=b
 ·subst e;simp
 ·have h:¬ (Sum.inl a:Key)=Sum.inl b:=λq=>e (Sum.inl.inj q);rw[ai h];exact(beq_eq_false_iff_ne.mpr e).symm
theorem IY(a b:Str):decide ((Sum.inr a:Key)=Sum.inr b)=decide (a=b):=by
 by_cases e:a=b
 ·subst e;simp
 ·have h:¬ (Sum.inr a:Key)=Sum.inr b:=λq=>e (Sum.inr.inj q);rw[ai h,ai e]
theorem I0(a:Int)(b:Str):decide ((Sum.inl a:Key)=Sum.inr b)=J:=ai (λq=>nomatch q)
theorem IZ(a:Str)(b:Int):decide ((Sum.inr a:Key)=Sum.inl b)=J:=ai (λq=>nomatch q)
def eE(prog:c5)(w:c7):PySem.KeyKind prog w Key where
 is:=rP
 hash:=M1 w
 inj:=λv a b ha hb=>by
  rcases e9 ha with⟨i,t,rfl,rfl⟩|⟨x,t,rfl,rfl⟩
  ·rcases e9 hb with⟨j,u,rfl,e⟩|⟨y,u,rfl,e⟩
   ·injection e with e1 _;rw[e1]
   ·exact nomatch e
  ·rcases e9 hb with⟨j,u,rfl,e⟩|⟨y,u,rfl,e⟩
   ·exact nomatch e
   ·injection e with e1 _;rw[e1]
 byValue:=λk v h=>by
  rcases e9 h with⟨i,t,rfl,rfl⟩|⟨x,t,rfl,rfl⟩<;>rfl
 pyHash:=λhv h=>by
  rcases e9 hv with⟨i,t,rfl,rfl⟩|⟨x,t,rfl,rfl⟩
  ·exact wpAny_pyHash_int h
  ·exact wpAny_pyHash_str h
 eqBool:=λhu hv h=>by
  rcases e9 hu with⟨i,t,rfl,rfl⟩|⟨x,t,rfl,rfl⟩
  ·rcases e9 hv with⟨j,u,rfl,rfl⟩|⟨y,u,rfl,rfl⟩
   ·rw[I1]at h;exact wpAny_eqBool_int h
   ·rw[I0]at h;exact SeqAt.EqAt.int_str i t y u _ _ _ _ h
  ·rcases e9 hv with⟨j,u,rfl,rfl⟩|⟨y,u,rfl,rfl⟩
   ·rw[IZ]at h;exact SeqAt.EqAt.str_int x t j u _ _ _ _ h
   ·rw[IY]at h;exact wpAny_eqBool_str h
 «strs» :=λk x t v h=>by
  rcases e9 h with⟨i,u,rfl,e⟩|⟨y,u,rfl,e⟩
  ·exact nomatch e
  ·injection e with e1 _;subst e1;cases v<;>rfl
theorem va(prog:c5)(w:c7)(i:Int)(t:Tok):(eE prog w).is (.inl i) (.int i t)=M:=zG i t
theorem u9(prog:c5)(w:c7)(x:Str)(t:Tok):(eE prog w).is (.inr x) (.str x t)=M:=zF x t
inductive V where
 |non|bl (b:Bool)|int (i:Int)|str (x:Str)|byt (b:Array UInt8)|flt (b:UInt64)|ref (a:c4)|ty (n:String)
 deriving DecidableEq
def dS:V->cZ->Prop
 | .non,u=>u=Value.none
 | .bl b,u=>u=Value.bool b
 | .int i,u=>∃t,u=Value.int i t
 | .str x,u=>∃t,u=Value.str x t
 | .byt b,u=>∃t,u=Value.bytes b t
 | .flt b,u=>∃t,u=Value.float b t
 | .ref a,u=>u=Value.ref a
 | .ty n,u=>u=Value.type n
abbrev d4:List V->List cZ->Prop:=Paired dS
theorem d4.length{xs:List V}{a:List cZ}(r:d4 xs a):xs.length=a.length:=Paired.length r
theorem d4.get:∀{xs:List V} {a:List cZ} {i:Nat} {x:V},d4 xs a->xs[i]?=Z x -> ∃u,a[i]?=Z u/\dS x u:=by
 intro xs a i x h e
 induction h generalizing i with
 |nil=>cases e
 |cons r t ih=>cases i with
  |zero=>cases e;exact⟨_,O,r⟩
  |succ i=>exact ih (i:=i) e
theorem d4.set{x:V}{u:cZ}(r:dS x u):∀{xs:List V} {a:List cZ} (i:Nat),d4 xs a->d4 (xs.set i x) (a.set i u):=by
 intro xs a i h
 induction h generalizing i with
 |nil=>exact .nil
 |cons q t ih=>cases i with
  |zero=>exact .cons r t
  |succ i=>exact .cons q (ih i)
theorem d4.append:∀{xs ys:List V} {a ws:List cZ},d4 xs a->d4 ys ws->d4 (xs++ys) (a++ws):=by
 intro xs ys a ws h s
 induction h with
 |nil=>exact s
 |cons r t ih=>exact .cons r ih
theorem d4.take:∀{xs:List V} {a:List cZ} (n:Nat),d4 xs a->d4 (xs.take n) (a.take n):=by
 intro xs a n h
 induction h generalizing n with
 |nil=>rw[av,av];exact .nil
 |cons r t ih=>cases n with
  |zero=>exact .nil
  |succ n=>exact .cons r (ih n)
theorem d4.drop:∀{xs:List V} {a:List cZ} (n:Nat),d4 xs a->d4 (xs.drop n) (a.drop n):=by
 intro xs a n h
 induction h generalizing n with
 |nil=>rw[aw,aw];exact .nil
 |cons r t ih=>cases n with
  |zero=>exact .cons r t
  |succ n=>exact ih n
def m5:Option V->Option cZ->Prop
 |some v,Z u=>dS v u
 |none,Y=>True
 |_,_=>False
def KV{κ:Type}:List (κ×V)->List (κ×cZ)->Prop:=Paired λ(p:κ×V) (q:κ×cZ)=>p.1=q.1/\dS p.2 q.2
def kV:Key->V
 | .inl i=>.int i
 | .inr x=>.str x
inductive HO where
 /-- a list -/
 |lst (xs:List V)
 /-- a tuple (never changes) -/
 |tup (xs:List V)
 /-- a dict whose keys are ints and texts; one whose keys are tuples of ints and texts (the empty one is both) -/
 |dK (kvs:List (Key×V))|dT (kvs:List (List Key×V))
 /-- a set of ints: its members, its size -/
 |set (S:Int->Bool) (n:Nat)
 /-- an instance of the class at C, its dict at dx, its attributes -/
 |ins (C dx:c4) (fs:List (Str×V))
 /-- the dict of the instance at x -/
 |own (x:c4)
 /-- the dict of an exception -/
 |xd (fs:List (Str×V))
 /-- a bound method, f of x -/
 |met (f x:c4)
 /-- a range object lo, lo + 1, .. below hi -/
 |rng (lo hi:Int)
 /-- a thing that is known to the object (the script; a dict while a loop walks it): read, never written while it is so -/
 |frz (o:Obj) (u:HO)
 /-- a code object's table -/
 |tbl (ps:Array cZ)
 /-- any other thing, by what is true of its one object (a def of one's own: SetO a S n := HO.ext λh => ..) -/
 |ext (φ:df->Prop)
abbrev Hp:=c4->Option HO
def upd(H:Hp)(a:c4)(o:HO):Hp:=λb=>if b=a then Z o else H b
theorem d8{H:Hp}{a:c4}{o:HO}:upd H a o a=Z o:=by unfold upd;rw[ak O]
theorem d0{H:Hp}{a b:c4}{o:HO}(h:b≠a):upd H a o b=H b:=by unfold upd;rw[aj h]
theorem KX{H:Hp}{a b:c4}{o u:HO}(h:H a=Z o)(h':H b=Z u)(d:o≠u):a≠b:=by
 intro e;subst e;rw[h]at h';exact d (Option.some.inj h')
theorem ev{H:Hp}{a b:c4}{o:HO}(h:H a=Z o)(h':H b=Y):a≠b:=by
 intro e;subst e;rw[h]at h';cases h'
section
variable(P:c5) (w:c7)
def eL(H:Hp)(h:df)(a:c4):HO->Prop
 | .lst xs=>xs.length<=da /\ ∃(its:List cZ) (n:Nat),d4 xs its/\h.get? a=Z {cls:=.type "list",data:=.seq its.toArray n}
 | .tup xs=>xs.length<=da /\ ∃its:List cZ,d4 xs its/\IsTup h a its.toArray
 | .dK kvs=>kvs.length<=da/\(a == sysModules)=J /\ ∃vs,KV kvs vs/\h.DictOf (eE P w) a vs
 | .dT kvs=>kvs.length<=da/\(a == sysModules)=false /\ ∃ xs:List (List Key×c4×cZ),
   Paired (λ(p:List Key×V) (q:List Key×c4×cZ)=>p.1=q.1/\H q.2.1=Z (.tup (p.1.map kV))/\dS p.2 q.2.2) kvs xs /\
   ∃o es ep,h.get? a=Z o/\o.ExactDict/\o.data = .dict es ep/\es.toList=xs.map (entryOfKey (tupleKind (eE P w)))/\(xs.map (·.1)).Nodup
 | .set S n=>h.SetOf (intKind P w) a S n
 | .ins C dx fs=>H dx=some (.own a)/\fs.length<=1000/\dx≠a/\h.get? a=some (PySem.W.instObj C dx) /\
   ∃mA,h.Ns1 dx mA/\(∀f,m5 (fs.lookup f) (mA f))/\PySem.Within mA (fs.map (·.1))
 | .own _=>∃o,h.get? a=Z o
 | .xd fs=>∃mA,h.Ns1 a mA /\ ∀f,m5 (fs.lookup f) (mA f)
 | .rng lo hi=>∃t u v,h.get? a=Z {cls:=.type "range",data:=.fields #[.int lo t,.int hi u,.int 1 v]}
 | .frz o u=>h.get? a=Z o/\eL H h a u
 | .tbl ps=>h.get? a=Z {cls:=.none,data:=.fields ps}
 | .met f x=>h.get? a=Z (PySem.W.methodObj (.ref f) (.ref x))
 | .ext φ=>φ h/\(∃o,h.get? a=Z o) /\ ∀h1 h2:df,φ h1->(∀o,h1.get? a=Z o->h2.get? a=Z o)->φ h2
def lK(H:Hp)(h:df):Prop:=∀a o,H a=Z o->eL P w H h a o
end
section
variable{P:c5}{w:c7}{H H':Hp}{h h':df}{a:c4}{o:HO}
theorem eL.lt(x:eL P w H h a o):a<h.objs.size:=by
 cases o with
 |lst xs=>obtain⟨_,_,_,_,e⟩:=x;exact hL1 e
 |tup xs=>obtain⟨_,_,_,p⟩:=x;exact p.lt
 |dK kvs=>obtain⟨_,_,_,_,o,_,_,e,_⟩:=x;exact hL1 e
 |dT kvs=>obtain⟨_,_,_,_,o,_,_,e,_⟩:=x;exact hL1 e
 |set S n=>obtain⟨o,_,_,_,e,_⟩:=x;exact hL1 e
 |ins C dx fs=>obtain⟨_,_,_,e,_⟩:=x;exact hL1 e
 |own y=>obtain⟨_,e⟩:=x;exact hL1 e
 |xd fs=>obtain⟨_,⟨_,_,_,e,_⟩,_⟩:=x;exact hL1 e
 |rng lo hi=>obtain⟨_,_,_,e⟩:=x;exact hL1 e
 |frz b u=>obtain⟨e,_⟩:=x;exact hL1 e
 |tbl ps=>exact hL1 (show h.get? a=Z _ from x)
 |met f y=>exact hL1 (show h.get? a=Z _ from x)
 |ext φ=>obtain⟨_,⟨_,e⟩,_⟩:=x;exact hL1 e
theorem Paired.mapP{α β:Type}{F G:α->β->Prop}:∀{l₁:List α} {l₂:List β},Paired F l₁ l₂->(∀a b,F a b->G a b)->Paired G l₁ l₂:=by
 intro a b h f
 induction h with
 |nil=>exact .nil
 |cons r t ih=>exact .cons (f _ _ r) ih
theorem eL.stay(x:eL P w H h a o)(k:∀ b u,(b=a\/H b=Z (.own a))->h.get? b=Z u->h'.get? b=Z u)(ho:∀b,H b=Z (.own a)->H' b=Z (.own a))(ht:∀b xs,H b=Z (.tup xs)->H' b=Z (.tup xs)):eL P w H' h' a o:=by
 induction o with
 |lst xs=>obtain⟨z,i,n,r,e⟩:=x;exact⟨z,i,n,r,k _ _ (.inl O) e⟩
 |tup xs=>obtain⟨z,i,r,g,e,c⟩:=x;exact⟨z,i,r,g,k _ _ (.inl O) e,c⟩
 |dK kvs=>obtain⟨z,y,vs,r,g,es,ep,e,c⟩:=x;exact⟨z,y,vs,r,g,es,ep,k _ _ (.inl O) e,c⟩
 |dT kvs=>
  obtain⟨z,y,xs,r,g,es,ep,e,c⟩:=x;exact⟨z,y,xs,Paired.mapP r λp q z=>⟨z.1,ht _ _ z.2.1,z.2.2⟩,g,es,ep,k _ _ (.inl O) e,c⟩
 |set S n=>obtain⟨g,es,ep,t,e,c⟩:=x;exact⟨g,es,ep,t,k _ _ (.inl O) e,c⟩
 |ins C dx fs=>
  obtain⟨d,z,ne,e,mA,⟨j,es,ep,l,c⟩,r⟩:=x;exact⟨ho _ d,z,ne,k _ _ (.inl O) e,mA,⟨j,es,ep,k _ _ (.inr d) l,c⟩,r⟩
 |own y=>obtain⟨g,e⟩:=x;exact⟨g,k _ _ (.inl O) e⟩
 |xd fs=>obtain⟨mA,⟨j,es,ep,e,c⟩,r⟩:=x;exact⟨mA,⟨j,es,ep,k _ _ (.inl O) e,c⟩,r⟩
 |rng lo hi=>obtain⟨t,u,v,e⟩:=x;exact⟨t,u,v,k _ _ (.inl O) e⟩
 |frz g u ih=>obtain⟨e,q⟩:=x;exact⟨k _ _ (.inl O) e,ih q⟩
 |tbl ps=>
  have e:h.get? a=Z {cls:=.none,data:=.fields ps}:=x;show h'.get? a=Z {cls:=.none,data:=.fields ps};exact k a _ (.inl O) e
 |met f y=>
  have e:h.get? a=Z (PySem.W.methodObj (.ref f) (.ref y)):=x;show h'.get? a=Z (PySem.W.methodObj (.ref f) (.ref y));exact k a _ (.inl O) e
 |ext φ=>obtain⟨p,⟨o,e⟩,st⟩:=x;exact⟨st _ _ p λo q=>k _ _ (.inl O) q,⟨o,k _ _ (.inl O) e⟩,st⟩
theorem lK.lt(x:lK P w H h)(e:H a=Z o):a<h.objs.size:=(x a o e).lt
theorem lK.fresh(x:lK P w H h)(e:h.objs.size<=a):H a=Y:=by
 cases q:H a with
 |none=>rfl
 |some u=>exact absurd (nL1 (x.lt q) e) (az _)
theorem lK.kept(x:lK P w H h)(k:∀b u,h.get? b=Z u->h'.get? b=Z u):lK P w H h':=λa o e=>
 (x a o e).stay (λb u _ q=>k b u q) (λ_ q=>q) λ_ _ q=>q
theorem lK.laid(x:lK P w H h)(k:∀b u,h.get? b=Z u->h'.get? b=Z u)(hp:h.objs.size<=a)(new:eL P w (upd H a o) h' a o):lK P w (upd H a o) h':=λb u e=>by
 have d:=x.fresh hp;by_cases f:b=a
 ·subst f;rw[d8]at e;cases e;exact new
 ·rw[d0 f]at e;exact(x b u e).stay (λc v _ q=>k c v q) (λc q=>by rw[d0 (ev q d)];exact q) λc xs q=>by rw[d0 (ev q d)];exact q
end
def Rd(H:Hp)(a:c4)(u:HO):Prop:=H a=Z u \/ ∃o,H a=Z (.frz o u)
theorem Rd.of{H:Hp}{a:c4}{u:HO}(h:H a=Z u):Rd H a u:=.inl h
theorem Rd.ok{P:c5}{w:c7}{H:Hp}{h:df}{a:c4}{u:HO}(r:Rd H a u)(x:lK P w H h):eL P w H h a u:=by
 rcases r with r|⟨o,r⟩
 ·exact x a u r
 ·obtain⟨_,q⟩:=x a _ r;exact q
def JL:Option HO->Prop
 |some (.lst _)=>True
 |some (.dK _)=>True
 |some (.dT _)=>True
 |some (.set _ _)=>True
 |some (.ins _ _ _)=>True
 |some (.ext _)=>True
 |_=>False
section
variable{P:c5}{w:c7}{H:Hp}{h h':df}{x e:c4}{o':HO}
theorem lK.write(ok:lK P w H h)(mu:JL (H x))(he:e=x\/H e=Z (.own x))(k:∀ b u,b≠e->h.get? b=Z u->h'.get? b=Z u)(i:∃ u,h'.get? e=Z u)(new:eL P w (upd H x o') h' x o'):lK P w (upd H x o') h':=λb u q=>by
 have d:∀c y,H c=Z (.own y)->c≠x:=λc y r z=>by subst z;rw[r]at mu;exact mu
 have f:∀c xs,H c=Z (.tup xs)->c≠x:=λc xs r z=>by subst z;rw[r]at mu;exact mu
 by_cases g:b=x
 ·subst g;rw[d8]at q;cases q;exact new
 ·rw[d0 g]at q;by_cases a:b=e
  ·have j:H b=some (.own x):=by
    rcases he with z|z
    ·exact absurd (a.trans z) g
    ·rw[a];exact z
   rw[q]at j;cases j;obtain⟨v,l⟩:=i;exact⟨v,by rw[a];exact l⟩
  ·refine(ok b u q).stay (λc v hc r=>k c v ?_ r) (λc r=>by rw[d0 (d c b r)];exact r) λc xs r=>by rw[d0 (f c xs r)];exact r
   rcases hc with rfl|hc
   ·exact a
   ·rintro rfl;rcases he with z|z
    ·exact d c b hc z
    ·rw[hc]at z;cases z;exact g O
end
structure Un (fs ex:List c4)(H H':Hp)(h h':df):Prop where
 keep:∀b o,h.get? b=some o->H b=none->b∉fs->b∉ex->h'.get? b=some o
 slot:∀b o,h.get? b=some o->H b=none->b∈fs->b∉ex -> ∃sl,h'.get? b=some {o with slots:=sl}
 free:∀b o,h.get? b=some o->H b=none->b∉ex->H' b=none
 there:∀b o,h.get? b=some o->b∉ex -> ∃o',h'.get? b=some o'
 tups:∀b xs,H b=some (.tup xs)->H' b=some (.tup xs)
 frzs:∀b o u,H b=some (.frz o u)->H' b=some (.frz o u)
 tbls:∀b ps,H b=some (.tbl ps) -> ∃more,H' b=some (.tbl (ps++more))
section
variable{fs fs' ex ex':List c4}{H H1 H2:Hp}{h h1 h2 h':df}{a x e:c4}{o:HO}
theorem Un.any(u:Un fs ex H H1 h h1){b:c4}{a:Obj}(q:h.get? b=Z a)(n:H b=Y)(hx:b∉ex):∃d,h1.get? b=Z {a with slots:=d}:=by
 by_cases c:b∈fs
 ·exact u.slot b a q n c hx
 ·exact⟨a.slots,u.keep b a q n c hx⟩
theorem Un.trans(a:Un fs ex H H1 h h1)(b:Un fs ex H1 H2 h1 h2):Un fs ex H H2 h h2 where
 keep:=λc e q n hc d=>b.keep c e (a.keep c e q n hc d) (a.free c e q n d) hc d
 slot:=λc e q n hc d=>by
  obtain⟨j,f⟩:=a.slot c e q n hc d;obtain⟨i,g⟩:=b.slot c _ f (a.free c e q n d) hc d;exact⟨i,g⟩
 free:=λc e q n d=>by
  obtain⟨o',f⟩:=a.there c e q d;exact b.free c o' f (a.free c e q n d) d
 there:=λc e q d=>by
  obtain⟨o',f⟩:=a.there c e q d;exact b.there c o' f d
 tups:=λc xs q=>b.tups c xs (a.tups c xs q)
 frzs:=λc e xs q=>b.frzs c e xs (a.frzs c e xs q)
 tbls:=λc ps q=>by
  obtain⟨m1,f⟩:=a.tbls c ps q;obtain⟨m2,g⟩:=b.tbls c _ f;exact⟨m1++m2,by rw[g,Array.append_assoc]⟩
theorem Un.kept(k:∀b u,h.get? b=Z u->h'.get? b=Z u):Un fs ex H H h h':=
 ⟨λb a q _ _ _=>k b a q,λb a q _ _ _=>⟨a.slots,k b a q⟩,λ_ _ _ n _=>n,λb a q _=>⟨a,k b a q⟩,λ_ _ q=>q,λ_ _ _ q=>q,λ_ ps q=>⟨#[],by rw[q];simp⟩⟩
theorem Un.refl:Un fs ex H H h h:=Un.kept λ_ _ q=>q
theorem Un.laid(k:∀b u,h.get? b=Z u->h'.get? b=Z u)(hp:h.objs.size<=a)(hn:H a=Y):Un fs ex H (upd H a o) h h' where
 keep:=λb u q _ _ _=>k b u q
 slot:=λb u q _ _ _=>⟨u.slots,k b u q⟩
 free:=λb u q n _=>by rw[d0 (nN1 (nL1 (hL1 q) hp))];exact n
 there:=λb u q _=>⟨u,k b u q⟩
 tups:=λb xs q=>by rw[d0 (ev q hn)];exact q
 frzs:=λb u xs q=>by rw[d0 (ev q hn)];exact q
 tbls:=λb ps q=>⟨#[],by rw[d0 (ev q hn),q];simp⟩
theorem Un.write(mu:JL (H x))(he:e=x\/H e=Z (.own x))(k:∀b u,b≠e->h.get? b=Z u->h'.get? b=Z u)(d:∃u,h'.get? e=Z u):Un fs ex H (upd H x o) h h':=by
 have f:∀b,H b=Y->b≠x:=λb n z=>by subst z;rw[n]at mu;exact mu
 have g:∀b,H b=Y->b≠e:=λb n z=>by
  subst z;rcases he with r|r
  ·exact f b n r
  ·rw[n]at r;cases r
 have c:∀b u,H b=Z u -> ¬ JL (Z u)->b≠x:=λb u q nm z=>by subst z;rw[q]at mu;exact nm mu
 refine⟨λb u q n _ _=>k b u (g b n) q,λb u q n _ _=>⟨u.slots,k b u (g b n) q⟩,λb u q n _=>by rw[d0 (f b n)];exact n,λb u q _=>?_,
  λb xs q=>by rw[d0 (c b _ q λz=>z)];exact q,λb u xs q=>by rw[d0 (c b _ q λz=>z)];exact q,λb ps q=>⟨#[],by rw[d0 (c b _ q λz=>z),q];simp⟩⟩
 by_cases a:b=e
 ·subst a;exact d
 ·exact⟨u,k b u a q⟩
end
def trk(h:df)(H:Hp):List c4:=(af h.objs.size).filter λa=>(H a).isSome
def tN(h:df)(H:Hp):df:=PySem.W.hideAll h (trk h H)
theorem zO(h:df)(H:Hp):(tN h H).objs.size=h.objs.size:=PySem.W.hideAll_size _ _
theorem CD{h:df}{H:Hp}{b:c4}{o:Obj}(e:h.get? b=Z o)(n:H b=Y):(tN h H).get? b=Z o:=
 PySem.W.hideAll_get _ e λa=>by
  have q:(H b).isSome=M:=(aA.mp a).2;rw[n]at q;simp at q
theorem Et{h:df}{H:Hp}{b:c4}{o:Obj}(e:(tN h H).get? b=Z o):h.get? b=Z o/\H b=Y:=by
 have a:h.get? b=Z o:=PySem.W.of_hideAll (trk h H) e;refine⟨a,?_⟩;cases q:H b with
 |none=>rfl
 |some x=>
  have c:b∈trk h H:=aA.mpr ⟨aB.mpr (hL1 a),by simp[q]⟩;have z:(tN h H).get? b=Y:=PySem.W.hideAll_none (trk h H) c;rw[z]at e;cases e
def F2(g h:df)(L:c4):List (c4×Obj):=(af h.objs.size).filterMap λa=>if a=L\/(g.get? a).isSome=M then Y else(h.get? a).map λo=>(a,o)
def rest(g h:df)(L d:c4):List (c4×Obj):=(F2 g h L).filter λp=>decide (p.1≠d)
structure Mod (K:Fg1)(mg:Str->Option cZ)(base:df):Prop where
 kin:K.In base
 glob:base.Ns c8 mg
 blt:∃mb,base.Ns builtinsNs mb /\ ∀x:Str,x≠"__name__"->mb x=bootBuiltins x
 nolimit:base.NoLimit
structure Cx where
 prog:c5
 w:c7
 K:Fg1
 mg:Str->Option cZ
 base:df
 A:c6
 N:List Str
 s₀:c3
 H₀:Hp
 env:Env
 outer:List Env
 stack:List Env
 ex:List c4
 fn:Str->Bool
 calm:Bool
 pn:List (c4×Obj)
 xe:cZ->c3->Prop
def frs(l:List Env):List c4:=l.filterMap (·.frame)
abbrev Cx.fs(X:Cx):List c4:=frs X.outer
def Vis(sc:dj)(x:Str):Prop:=sc.names.lookup x=Z .local\/sc.names.lookup x=Z .cell\/sc.names.lookup x=Z .free
def xC(sc:dj)(x:Str):Prop:=sc.names.lookup x=Z .local\/sc.names.lookup x=Z .cell
def Nt(env:Env)(h:df)(m:Str->Option cZ)(x:Str)(u:cZ):Prop:=
 (env.kindOf x=Z .local/\m x=Z u)\/((env.kindOf x=Z .cell\/env.kindOf x=Z .free) /\ ∃c,env.cells.lookup x=Z c/\h.IsCell c (Z u))
structure Cx.Ok (X:Cx):Prop where
 mod:Mod X.K X.mg X.base
 kind:X.env.scope.kind = .function
 glob:X.env.globals=c8
 blt:X.env.builtins=builtinsNs
 above:X.s₀.heap.objs.size<=X.env.locals
 inj:∀x y c,X.env.cells.lookup x=some c->X.env.cells.lookup y=some c->x=y
 has:∀x,(X.env.kindOf x=some .cell\/X.env.kindOf x=some .free) -> ∃c,X.env.cells.lookup x=some c
 cab:∀x c,X.fn x=true->X.env.cells.lookup x=some c->X.s₀.heap.objs.size<=c
 hd:X.calm=true->X.A.handled=none
 frames:X.A.frames=some X.stack
 stk:X.stack=X.outer\/(X.stack=X.env::X.outer/\X.env.frame=some X.env.locals)
 exf:∀b∈X.ex,b≠X.env.locals /\ ∀x c,X.env.cells.lookup x=some c->c≠b
 bs:∀b o,X.base.get? b=some o->X.s₀.heap.get? b=some o/\X.H₀ b=none
 bsz:X.base.objs.size<=X.s₀.heap.objs.size
 noex:∀b o,X.base.get? b=some o->b∉X.ex
 exfs:∀b∈X.ex,b∉X.fs
 funs:X.s₀.heap.FunFrames X.base X.outer
 frf:∀b∈X.fs,X.H₀ b=none
structure Inv (X:Cx)(ag:List (c4×Obj))(σ:List (Option V))(H:Hp)(s:c3):Prop where
 ok:X.Ok
 os:s.os=X.s₀.os
 bare:AllBare s.gens
 base:Un X.fs X.ex X.H₀ H X.s₀.heap s.heap
 loc:∃m,s.heap.Ns X.env.locals m /\ ∀(i:Nat) (x:Str) (v:V),X.N[i]?=some x->σ[i]?=some (some v)->Vis X.env.scope x -> ∃u,dS v u/\Nt X.env s.heap m x u
 cell:∀x c,X.env.cells.lookup x=some c -> ∃v,s.heap.IsCell c v
 free:H X.env.locals=none
 freeC:∀x c,X.env.cells.lookup x=some c->H c=none
 pin:∀p∈X.pn++ag,s.heap.get? p.1=some p.2/\H p.1=none/\p.1≠X.env.locals/\p.1∉X.fs /\ ∀v,p.2.data ≠ .cell v
 hok:lK X.prog X.w H s.heap
 len:σ.length=X.N.length
variable{X:Cx}
section
variable{ag:List (c4×Obj)}{σ:List (Option V)}{H H':Hp}{s:c3}{h':df}
theorem Cx.Ok.nofr(ok:X.Ok){b:c4}{o:Obj}(e:X.base.get? b=Z o):b∉X.fs:=λa=>by
 have:=(ok.funs.mem a).1;rw[e]at this;cases this
theorem Inv.bs(I:Inv X ag σ H s):∀b o,X.base.get? b=Z o->s.heap.get? b=Z o/\H b=Y:=λb o e=>
 ⟨I.base.keep b o (I.ok.bs b o e).1 (I.ok.bs b o e).2 (I.ok.nofr e) (I.ok.noex b o e),I.base.free b o (I.ok.bs b o e).1 (I.ok.bs b o e).2 (I.ok.noex b o e)⟩
theorem Inv.bk(I:Inv X ag σ H s):∀b o,X.base.get? b=Z o->s.heap.get? b=Z o:=λb o e=>(I.bs b o e).1
theorem Inv.mod(I:Inv X ag σ H s):Mod X.K X.mg X.base:=I.ok.mod
theorem Inv.kIn(I:Inv X ag σ H s):X.K.In s.heap:=I.ok.mod.kin.keeps I.bk
theorem Inv.lt(I:Inv X ag σ H s):X.env.locals<s.heap.objs.size:=let ⟨_,hn,_⟩:=I.loc;hn.lt
theorem Inv.sz(I:Inv X ag σ H s):X.s₀.heap.objs.size<=s.heap.objs.size:=aC I.ok.above (Nat.le_of_lt I.lt)
theorem Inv.nofs(I:Inv X ag σ H s){a:c4}(h:s.heap.objs.size<=a):a∉X.fs:=λb=>by
 obtain⟨_,o,c,_⟩:=I.ok.funs.mem b;exact absurd (nL1 (hL1 c) (aC I.sz h)) (az _)
theorem Inv.cne(I:Inv X ag σ H s):∀x c,X.env.cells.lookup x=Z c->c≠X.env.locals:=λx c e z=>by
 obtain⟨v,o,f,d⟩:=I.cell x c e;obtain⟨m,⟨o',es,ep,a,b,_⟩,_⟩:=I.loc;rw[z,a]at f;cases f;rw[b]at d;cases d
theorem Inv.funs(I:Inv X ag σ H s):s.heap.FunFrames X.base X.outer:=by
 have all:∀(l:List Env),(∀b∈frs l,b∈X.fs)->X.s₀.heap.FunFrames X.base l->s.heap.FunFrames X.base l:=by
  intro l
  induction l with
  |nil=>intro _ _;trivial
  |cons n r ih=>
   intro f i;obtain⟨m,⟨L,o,c,h,g,j⟩,k⟩:=i;have d:L∈X.fs:=f L (by unfold frs;rw[aD,c];exact mS1);obtain⟨p,e⟩:=I.base.slot L o g (I.ok.frf L d) d λz=>I.ok.exfs L z d;exact⟨m,⟨L,_,c,h,e,j⟩,ih (λb a=>f b (by unfold frs;rw[aD,c];exact mC1 _ a)) k⟩
 exact all X.outer (λ_ a=>a) I.ok.funs
theorem Inv.stack(I:Inv X ag σ H s):s.heap.FunFrames X.base X.stack:=by
 rcases I.ok.stk with e|⟨e,b⟩
 ·rw[e];exact I.funs
 ·rw[e];obtain⟨m,a,_⟩:=I.loc;refine .cons (by rw[I.ok.kind];decide) b a ?_ I.funs;exact Heap.get?_none_of_le (aC I.ok.bsz I.ok.above)
theorem Inv.stkSub(I:Inv X ag σ H s):∀b∈frs X.stack,b∈X.env.locals::X.fs:=λb a=>by
 rcases I.ok.stk with e|⟨e,c⟩
 ·rw[e]at a;exact mC1 _ a
 ·rw[e]at a;unfold frs at a;rw[aD,c]at a;exact a
theorem Inv.stkFree(I:Inv X ag σ H s):∀b∈frs X.stack,H b=Y:=λb a=>by
 rcases aE.mp (I.stkSub b a)with e|a
 ·rw[e];exact I.free
 ·obtain⟨_,o,c,_⟩:=I.ok.funs.mem a;exact I.base.free b o c (I.ok.frf b a) λz=>I.ok.exfs b z a
theorem Inv.step{g':Array GenState}{t':Nat}{d':Drawn}{ch:List c4}(I:Inv X ag σ H s)(g:∀b∈ch,(b∈X.ex\/X.s₀.heap.objs.size<=b)/\b≠X.env.locals/\(∀x c,X.env.cells.lookup x=some c->c≠b) /\ ∀p∈X.pn++ag,p.1≠b)(keep:∀b o,b≠X.env.locals->b∉X.fs->b∉ch->s.heap.get? b=some o->H b=none->h'.get? b=some o)(slot:∀b o,b≠X.env.locals->b∈X.fs->b∉ch->s.heap.get? b=some o->H b=none -> ∃K,h'.get? b=some {o with slots:=K})(free:∀b o,b∉ch->s.heap.get? b=some o->H b=none->H' b=none)(y:∀b o,b∉ch->s.heap.get? b=some o -> ∃o',h'.get? b=some o')(D:∀b xs,H b=some (.tup xs)->H' b=some (.tup xs))(B:∀b o u,H b=some (.frz o u)->H' b=some (.frz o u))(C:∀b ps,H b=some (.tbl ps) -> ∃more,H' b=some (.tbl (ps++more)))(ns:∀m,s.heap.Ns X.env.locals m->h'.Ns X.env.locals m)(G:lK X.prog X.w H' h')(hg:AllBare g'):
  Inv X ag σ H' {s with heap:=h',gens:=g',drawn:=d',toks:=t'}:=by
 have F:∀b o,X.s₀.heap.get? b=Z o->b≠X.env.locals:=λb o e=>nN1 (nL1 (hL1 e) I.ok.above);have t:∀b o,X.s₀.heap.get? b=Z o->b∉X.ex->b∉ch:=λb o e a w=>by
  rcases(g b w).1 with z|z
  ·exact a z
  ·exact absurd (nL1 (hL1 e) z) (az _)
 have h:∀x c,X.env.cells.lookup x=Z c -> ∀v,s.heap.IsCell c v->h'.IsCell c v:=λx c e v ⟨o,A,am⟩=>by
  have f:c∉ch:=λz=>(g c z).2.2.1 x c e O;by_cases hc:c∈X.fs
  ·obtain⟨K,q⟩:=slot c o (I.cne x c e) hc f A (I.freeC x c e);exact⟨_,q,am⟩
  ·exact⟨o,keep c o (I.cne x c e) hc f A (I.freeC x c e),am⟩
 refine⟨I.ok,I.os,hg,⟨λb o e n w a=>?_,λb o e n w a=>?_,λb o e n a=>?_,λb o e a=>?_,λb xs e=>D b xs (I.base.tups b xs e),λb o xs e=>B b o xs (I.base.frzs b o xs e),λb ps e=>?_⟩,?_,λx c e=>?_,?_,λx c e=>?_,λp ao=>?_,G,I.len⟩
 ·exact keep b o (F b o e) w (t b o e a) (I.base.keep b o e n w a) (I.base.free b o e n a)
 ·obtain⟨K,j⟩:=I.base.slot b o e n w a;obtain⟨L,E⟩:=slot b _ (F b o e) w (t b o e a) j (I.base.free b o e n a);exact⟨L,E⟩
 ·obtain⟨o',j⟩:=I.base.there b o e a;exact free b o' (t b o e a) j (I.base.free b o e n a)
 ·obtain⟨o',j⟩:=I.base.there b o e a;exact y b o' (t b o e a) j
 ·obtain⟨m1,j⟩:=I.base.tbls b ps e;obtain⟨m2,E⟩:=C b _ j;exact⟨m1++m2,by rw[E,Array.append_assoc]⟩
 ·obtain⟨m,au,P⟩:=I.loc;refine⟨m,ns m au,λi x v j E Q=>?_⟩;obtain⟨u,r,l⟩:=P i x v j E Q;refine⟨u,r,?_⟩;rcases l with l|⟨k,c,e,z⟩
  ·exact .inl l
  ·exact .inr ⟨k,c,e,h x c e _ z⟩
 ·obtain⟨v,z⟩:=I.cell x c e;exact⟨v,h x c e v z⟩
 ·obtain⟨m,⟨o,_,_,A,_⟩,_⟩:=I.loc;exact free _ o (λz=>(g _ z).2.1 O) A I.free
 ·obtain⟨v,o,A,am⟩:=I.cell x c e;exact free c o (λz=>(g c z).2.2.1 x c e O) A (I.freeC x c e)
 ·obtain⟨e,n,ne,N,d⟩:=I.pin p ao;have f:p.1∉ch:=λz=>(g p.1 z).2.2.2 p ao O;exact⟨keep p.1 p.2 ne N f e n,free p.1 p.2 f e n,ne,N,d⟩
theorem Inv.un{t':Nat}(I:Inv X ag σ H s)(u:Un X.fs [] H H' s.heap h')(c:lK X.prog X.w H' h'):Inv X ag σ H' {s with heap:=h',toks:=t'}:=by
 obtain⟨m,⟨o,es,ep,h,r⟩,_⟩:=id I.loc;obtain⟨l,j⟩:=u.any h I.free (by simp);exact I.step (g':=s.gens) (d':=s.drawn) (ch:=[]) (λ_ z=>nomatch z) (λb o _ g _ e n=>u.keep b o e n g (by simp)) (λb o _ g _ e n=>u.slot b o e n g (by simp)) (λb o _ e n=>u.free b o e n (by simp)) (λb o _ e=>u.there b o e (by simp)) u.tups u.frzs u.tbls (λp i=>by
  obtain⟨o',d,f,a,k⟩:=i;rw[h]at a;cases a;exact⟨_,d,f,j,k⟩) c I.bare
theorem Inv.call{g':Array GenState}{t':Nat}{d':Drawn}{ch:List c4}(I:Inv X ag σ H s)(u:Un (frs X.stack) ch H H' s.heap h')(f:lK X.prog X.w H' h')(hg:AllBare g')(d:∀b∈ch,(b∈X.ex\/X.s₀.heap.objs.size<=b)/\b≠X.env.locals/\(∀x c,X.env.cells.lookup x=some c->c≠b) /\ ∀p∈X.pn++ag,p.1≠b):
  Inv X ag σ H' {s with heap:=h',gens:=g',drawn:=d',toks:=t'}:=by
 obtain⟨m,⟨o,es,ep,j,r⟩,_⟩:=id I.loc;obtain⟨t,i⟩:=u.any j I.free λz=>(d _ z).2.1 O;exact I.step (ch:=ch) d (λb o i l hc e n=>u.keep b o e n (λz=>(aE.mp (I.stkSub b z)).elim i l) hc) (λb o _ _ hc e n=>u.any e n hc) (λb o hc e n=>u.free b o e n hc) (λb o hc e=>u.there b o e hc) u.tups u.frzs u.tbls (λv k=>by
  obtain⟨o',g,h,a,q⟩:=k;rw[j]at a;cases a;exact⟨_,g,h,i,q⟩) f hg
theorem Inv.turned{t':Nat}{it:c4}(I:Inv X ag σ H s)(k:∀ b o,b≠it->s.heap.get? b=Z o->h'.get? b=Z o)(hn:H it=Y)(d:it≠X.env.locals)(h1:it∈X.ex\/X.s₀.heap.objs.size<=it)(h2:∀x c,X.env.cells.lookup x=Z c->c≠it)(f:∀p∈X.pn++ag,p.1≠it):Inv X ag σ H {s with heap:=h',toks:=t'}:=by
 have a:∀b u,H b=Z u->b≠it:=λb u e z=>by rw[z,hn]at e;cases e
 refine I.step (g':=s.gens) (d':=s.drawn) (ch:=[it]) (λb i=>?_) (λb o _ _ hc e _=>k b o (λz=>hc (by simp[z])) e) (λb o _ _ hc e _=>⟨o.slots,k b o (λz=>hc (by simp[z])) e⟩) (λ_ _ _ _ n=>n)
  (λb o hc e=>⟨o,k b o (λz=>hc (by simp[z])) e⟩) (λ_ _ e=>e) (λ_ _ _ e=>e) (λb ps e=>⟨#[],by rw[e];simp⟩) (λm h=>?_) (λb u e=>?_) I.bare
 ·have e:b=it:=by simpa using i
  subst e;exact⟨h1,d,h2,f⟩
 ·obtain⟨o,es,ep,g,r⟩:=h;exact⟨o,es,ep,k _ o (Ne.symm d) g,r⟩
 ·refine(I.hok b u e).stay (λc v hc q=>k c v ?_ q) (λ_ q=>q) λ_ _ q=>q;rcases hc with z|z
  ·rw[z];exact a b u e
  ·exact a c _ z
theorem Inv.tok(I:Inv X ag σ H s)(t:Nat):Inv X ag σ H {s with toks:=t}:=I.un (h':=s.heap) (t':=t) Un.refl I.hok
theorem Inv.kept{t':Nat}(I:Inv X ag σ H s)(k:∀b u,s.heap.get? b=Z u->h'.get? b=Z u):Inv X ag σ H {s with heap:=h',toks:=t'}:=I.un (Un.kept k) (I.hok.kept k)
theorem Inv.laid{a:c4}{o:HO}{t':Nat}(I:Inv X ag σ H s)(k:∀ b u,s.heap.get? b=some u->h'.get? b=some u)(hp:s.heap.objs.size<=a)(new:eL X.prog X.w (upd H a o) h' a o):
  Inv X ag σ (upd H a o) {s with heap:=h',toks:=t'}:=I.un (Un.laid k hp (I.hok.fresh hp)) (I.hok.laid k hp new)
theorem Inv.write{x e:c4}{o:HO}{t':Nat}(I:Inv X ag σ H s)(mu:JL (H x))(he:e=x\/H e=Z (.own x))(k:∀ b u,b≠e->s.heap.get? b=Z u->h'.get? b=Z u)(a:∃ u,h'.get? e=Z u)(new:eL X.prog X.w (upd H x o) h' x o):Inv X ag σ (upd H x o) {s with heap:=h',toks:=t'}:=I.un (Un.write mu he k a) (I.hok.write mu he k a new)
theorem Inv.pins_of{a:List (c4×Obj)}(I:Inv X ag σ H s)(h:∀p∈a,s.heap.get? p.1=Z p.2/\H p.1=Y/\p.1≠X.env.locals/\p.1∉X.fs /\ ∀v,p.2.data ≠ .cell v):Inv X a σ H s:=
 ⟨I.ok,I.os,I.bare,I.base,I.loc,I.cell,I.free,I.freeC,λp b=>(aF.mp b).elim (λz=>I.pin p (aG _ z)) (h p),I.hok,I.len⟩
theorem u6{N:List Str}(hN:N.Nodup){i j:Nat}{x:Str}(a:N[i]?=Z x)(b:N[j]?=Z x):i=j:=by
 obtain⟨h1,c⟩:=gE1.mp a;obtain⟨h2,d⟩:=gE1.mp b;exact(List.getElem_inj hN).mp (c.trans d.symm)
theorem zf{ao:Model}{A:c6}{E:cZ->c3->Prop}{i:Nat}{x:Str}{v:V}{u:cZ}{Q:Unit->c3->Prop}(I:Inv X ag σ H s)(hN:X.N.Nodup)(hi:X.N[i]? = Z x)(hx:xC X.env.scope x)(r:dS v u)(h:∀s',Inv X ag (σ.set i (Z v)) H s'->(∃a,Heap.SameBut a s.heap s'.heap/\(a=X.env.locals\/X.env.cells.lookup x=Z a))->Q () s')(hf:autoParam (X.fn x=M\/X.env.scope.names.lookup x=Z .local) au0):db ao A (storeName X.env x u) Q E s:=by
 obtain⟨m,T,hl⟩:=id I.loc;have L:(X.env.scope.kind == .class||(X.env.scope.kind == .module&&X.env.locals != X.env.globals))=J:=by rw[I.ok.kind];rfl
 have w:i<σ.length:=by rw[I.len];exact(gE1.mp hi).1
 have cne:=I.cne;have tracked:∀{a:c4} {h':df},(∃o,s.heap.get? a=Z o/\H a=Y)->Heap.SameBut a s.heap h'->lK X.prog X.w H h':=λ{a h'} ha f b ob e=>by
  obtain⟨_,_,l⟩:=ha;refine(I.hok b ob e).stay (λc au hc q=>(f.2 c ?_).trans q) (λ_ q=>q) λ_ _ q=>q;rintro rfl;rcases hc with rfl|hc
  ·rw[l]at e;cases e
  ·rw[l]at hc;cases hc
 rcases hx with B|B
 ·refine wpAny_storeName_local B T (λh' hn' f=>?_) L;obtain⟨oL,_,_,R,_⟩:=id T;refine h _ ⟨I.ok,I.os,I.bare,⟨λb o e n F hx=>?_,λb o e n F hx=>?_,I.base.free,λb o e hx=>?_,I.base.tups,I.base.frzs,I.base.tbls⟩,⟨_,hn',λj y W g t e3=>?_⟩,λy c e=>?_,I.free,I.freeC,λp S=>?_,tracked ⟨oL,R,I.free⟩ f,by simpa using I.len⟩ ⟨_,f,.inl O⟩
  ·exact(f.2 b (nN1 (nL1 (hL1 e) I.ok.above))).trans (I.base.keep b o e n F hx)
  ·obtain⟨U,g⟩:=I.base.slot b o e n F hx;exact⟨U,(f.2 b (nN1 (nL1 (hL1 e) I.ok.above))).trans g⟩
  ·obtain⟨o',g⟩:=I.base.there b o e hx;exact⟨o',(f.2 b (nN1 (nL1 (hL1 e) I.ok.above))).trans g⟩
  ·by_cases C:j=i
   ·subst C;rw[hi]at g;cases g;rw[aH w]at t;cases t;exact⟨u,r,.inl ⟨B,by simp⟩⟩
   ·rw[gS1 (Ne.symm C)]at t;obtain⟨wq,r',q⟩:=hl j y W g t e3;refine⟨wq,r',?_⟩;rcases q with⟨k,e⟩|⟨k,c,e,z⟩
    ·refine .inl ⟨k,?_⟩;have:y≠x:=λe=>C (u6 hN g (e ▸ hi));simp[this,e]
    ·exact .inr ⟨k,c,e,z.sameBut f (cne y c e)⟩
  ·obtain⟨au,z⟩:=I.cell y c e;exact⟨au,z.sameBut f (cne y c e)⟩
  ·obtain⟨e,n,ne,aq,d⟩:=I.pin p S;exact⟨(f.2 p.1 ne).trans e,n,ne,aq,d⟩
 ·have D:X.fn x=true:=by
   rcases hf with z|z
   ·exact z
   ·rw[z]at B;cases B
  obtain⟨c,hc⟩:=I.ok.has x (.inl B);obtain⟨au,z⟩:=I.cell x c hc;refine wpAny_storeName_cell I.ok.kind B hc z (λh' K f=>?_);obtain⟨oc,N,G⟩:=id z;refine h {s with heap:=h'} ⟨I.ok,I.os,I.bare,⟨λb o e n F hx=>?_,λb o e n F hx=>?_,I.base.free,λb o e hx=>?_,I.base.tups,I.base.frzs,I.base.tbls⟩,⟨m,T.sameBut f (Ne.symm (cne x c hc)),λj y W g t e3=>?_⟩,λy P e=>?_,I.free,I.freeC,λp S=>?_,tracked ⟨oc,N,I.freeC x c hc⟩ f,by simpa using I.len⟩ ⟨c,f,.inr hc⟩
  ·exact(f.2 b (nN1 (nL1 (hL1 e) (I.ok.cab x c D hc)))).trans (I.base.keep b o e n F hx)
  ·obtain⟨U,g⟩:=I.base.slot b o e n F hx;exact⟨U,(f.2 b (nN1 (nL1 (hL1 e) (I.ok.cab x c D hc)))).trans g⟩
  ·obtain⟨o',g⟩:=I.base.there b o e hx;exact⟨o',(f.2 b (nN1 (nL1 (hL1 e) (I.ok.cab x c D hc)))).trans g⟩
  ·by_cases C:j=i
   ·subst C;rw[hi]at g;cases g;rw[aH w]at t;cases t;exact⟨u,r,.inr ⟨.inl B,c,hc,K⟩⟩
   ·rw[gS1 (Ne.symm C)]at t;obtain⟨wq,r',q⟩:=hl j y W g t e3;refine⟨wq,r',?_⟩;rcases q with q|⟨k,P,e,z'⟩
    ·exact .inl q
    ·refine .inr ⟨k,P,e,z'.sameBut f ?_⟩;rintro rfl;exact C (u6 hN g (I.ok.inj _ _ _ e hc ▸ hi))
  ·by_cases am:P=c
   ·subst am;exact⟨_,K⟩
   ·obtain⟨w2,z2⟩:=I.cell y P e;exact⟨w2,z2.sameBut f am⟩
  ·obtain⟨e,n,ne,aq,d⟩:=I.pin p S;refine⟨(f.2 p.1 ?_).trans e,n,ne,aq,d⟩;intro q;rw[q,N]at e;have q':oc=p.2:=Option.some.inj e;exact d au (by rw[<- q'];exact G)
theorem hR{ao:Model}{A:c6}{E:cZ->c3->Prop}{i:Nat}{x:Str}{v:V}{u:cZ}{Q:Unit->c3->Prop}(I:Inv X ag σ H s)(hN:X.N.Nodup)(hi:X.N[i]? = Z x)(hx:xC X.env.scope x)(r:dS v u)(h:∀s',Inv X ag (σ.set i (Z v)) H s'->Q () s')(hf:autoParam (X.fn x=M\/X.env.scope.names.lookup x=Z .local) au0):db ao A (storeName X.env x u) Q E s:=
 zf I hN hi hx r (λs' a _=>h s' a) hf
theorem Inv.call'{s':c3}{ch:List c4}(I:Inv X ag σ H s)(ho:s'.os=s.os)(u:Un (frs X.stack) ch H H' s.heap s'.heap)(a:lK X.prog X.w H' s'.heap)(hg:AllBare s'.gens)(d:∀b∈ch,(b∈X.ex\/X.s₀.heap.objs.size<=b)/\b≠X.env.locals/\(∀x c,X.env.cells.lookup x=Z c->c≠b) /\ ∀p∈X.pn++ag,p.1≠b):Inv X ag σ H' s':=by
 obtain⟨h',f,h,g,o'⟩:=s';have e:o'=s.os:=ho;subst e;exact I.call (g':=f) (t':=g) (d':=h) u a hg d
end
abbrev XK:=cZ->Option c4->Hp->Prop
abbrev St:=List (Option V)
abbrev VK:=V->Hp->Prop
abbrev TE:=St->Hp->VK->Prop
abbrev TT:=St->Hp->(Bool->Hp->Prop)->Prop
abbrev TA:=St->Hp->(List V->Hp->Prop)->Prop
structure kq where
 nx:St->Hp->Prop
 rt:VK
 bk:St->Hp->Prop:=λ_ _=>False
 ct:St->Hp->Prop:=λ_ _=>False
abbrev TS:=kq->St->Hp->Prop
def EP(X:Cx)(ag:List (c4×Obj))(σ:St)(Q:VK)(u:cZ)(s':c3):Prop:=∃v H',Inv X ag σ H' s'/\dS v u/\Q v H'
def TP(X:Cx)(ag:List (c4×Obj))(σ:St)(Q:Bool->Hp->Prop)(b:Bool)(s':c3):Prop:=∃H',Inv X ag σ H' s'/\Q b H'
def AP(X:Cx)(ag:List (c4×Obj))(σ:St)(Q:List V->Hp->Prop)(us:List cZ)(s':c3):Prop:=∃vs H',Inv X ag σ H' s'/\d4 vs us/\Q vs H'
def SP(X:Cx)(ag:List (c4×Obj))(D:kq)(f:Flow)(s':c3):Prop:=
 match f with
 | .next=>∃ σ' H',Inv X ag σ' H' s'/\D.nx σ' H'
 | .brk=>∃ σ' H',Inv X ag σ' H' s'/\D.bk σ' H'
 | .cont=>∃ σ' H',Inv X ag σ' H' s'/\D.ct σ' H'
 | .ret u=>∃v σ' H',Inv X ag σ' H' s'/\dS v u/\D.rt v H'
def PE(X:Cx)(e:Expr)(t:TE):Prop:=
 ∀(ag:List (c4×Obj)) (s:c3) (σ:St) (H:Hp) (Q:VK),Inv X ag σ H s->t σ H Q->db (model X.prog X.w) X.A (eval e X.env) (EP X ag σ Q) X.xe s
def PT(X:Cx)(e:Expr)(t:TT):Prop:=
 ∀(ag:List (c4×Obj)) (s:c3) (σ:St) (H:Hp) (Q:Bool->Hp->Prop),Inv X ag σ H s->t σ H Q->db (model X.prog X.w) X.A (isTrue e X.env (eval e X.env)) (TP X ag σ Q) X.xe s
def PW(X:Cx)(e:Expr)(t:TT):Prop:=
 ∀(whole:Sem cZ) (ag:List (c4×Obj)) (s:c3) (σ:St) (H:Hp) (Q:Bool->Hp->Prop),Inv X ag σ H s->t σ H Q->db (model X.prog X.w) X.A (isTrue e X.env whole) (TP X ag σ Q) X.xe s
theorem PW.pt{X:Cx}{e:Expr}{t:TT}(h:PW X e t):PT X e t:=h _
def PA(X:Cx)(es:List Expr)(t:TA):Prop:=
 ∀(pos:Pos) (ag:List (c4×Obj)) (s:c3) (σ:St) (H:Hp) (Q:List V->Hp->Prop),Inv X ag σ H s->t σ H Q->db (model X.prog X.w) X.A (spliced (backTo pos (c9 es X.env))) (AP X ag σ Q) X.xe s
def PS(X:Cx)(st:di)(t:TS):Prop:=
 ∀(ag:List (c4×Obj)) (s:c3) (σ:St) (H:Hp) (D:kq),Inv X ag σ H s->t D σ H->db (model X.prog X.w) X.A (exec st X.env) (SP X ag D) X.xe s
def v6(X:Cx)(st:List di)(t:TS):Prop:=
 ∀(ag:List (c4×Obj)) (s:c3) (σ:St) (H:Hp) (D:kq),Inv X ag σ H s->t D σ H->db (model X.prog X.w) X.A (execs st X.env) (SP X ag D) X.xe s
theorem fe{α:Type}{t:Sem α}{Q b:α->c3->Prop}{ao:Model}{A:c6}{E:cZ->c3->Prop}{s:c3}(h:db ao A t Q E s)(c:∀a s,Q a s->b a s):db ao A t b E s:=wpAny_mono h c λ_ _ x=>x
section
theorem OH{a b:Expr}{ta tb:TE}(ha:PE X a ta)(hb:PE X b tb){ag:List (c4×Obj)}{s:c3}{σ:St}{H:Hp}{R:V->V->Hp->Prop}(I:Inv X ag σ H s)(h:ta σ H fun x H1=>tb σ H1 fun y H2=>R x y H2){α:Type}{Q:α->c3->Prop}{f:cZ->cZ->Sem α}(hf:∀v u e x y H2,Inv X ag σ H2 e->dS x v->dS y u->R x y H2->db (model X.prog X.w) X.A (f v u) Q X.xe e):
  db (model X.prog X.w) X.A (eval a X.env) (λv c=>db (model X.prog X.w) X.A (eval b X.env) (λu d=>db (model X.prog X.w) X.A (f v u) Q X.xe d) X.xe c) X.xe s:=by
 refine fe (ha ag s σ H _ I h) λv i ⟨x,H1,g,l,j⟩=>?_;refine fe (hb ag i σ H1 _ g j) λu e ⟨y,H2,k,r2,m⟩=>?_;exact hf v u e x y H2 k l r2 m
def Mo(i:Nat):TE:=fun σ H Q=>∃v,σ[i]?=Z (Z v)/\Q v H
def tC(v:V):TE:=λ_ H Q=>Q v H
theorem Hz {i:Nat}{x:Str}{pos:Pos}(hN:X.N[i]?=Z x)(hv:Vis X.env.scope x)(hd:autoParam ((x == ("__debug__":Str))=J) bu0)(hcd:autoParam ((x == ("__classdict__":Str))=J) bu0):PE X (.Name x pos) (Mo i):=by
 intro ag s σ H Q I h;obtain⟨v,e,h⟩:=h;obtain⟨m,f,j⟩:=I.loc;obtain⟨u,r,l⟩:=j i x v hN e hv;have b:EP X ag σ Q u s:=⟨v,H,I,r,h⟩;rcases l with⟨d,g⟩|⟨d,c,hc,a⟩
 ·exact wpAny_Name (wpAny_loadName_local I.ok.kind d f g b) hd
 ·rcases d with d|d
  ·exact wpAny_Name (wpAny_loadName_cell I.ok.kind d hc a b) hd
  ·exact wpAny_Name (wpAny_loadName_free I.ok.kind d hc a b hcd) hd
theorem HG{i j pos}:PE X (.Constant (.int i) j pos) (tC (.int i)):=λ_ _ _ H _ I h=>wpAny_Constant_int ⟨.int i,H,I.tok _,⟨_,O⟩,h⟩
theorem KF{b j pos}:PE X (.Constant (.bool b) j pos) (tC (.bl b)):=λ_ _ _ H _ I h=>Constant_bool ⟨.bl b,H,I,O,h⟩
theorem HE{j pos}:PE X (.Constant .none j pos) (tC .non):=λ_ _ _ H _ I h=>Constant_none ⟨.non,H,I,O,h⟩
theorem HB{x j pos}:PE X (.Constant (.str x) j pos) (tC (.str x)):=λ_ _ _ H _ I h=>Calls.Constant_str ⟨.str x,H,I.tok _,⟨_,O⟩,h⟩
def Gl(X:Cx)(x:Str):Prop:=X.env.kindOf x=Z .globalImplicit
theorem yh {E:cZ->c3->Prop}{ag:List (c4×Obj)}{s:c3}{σ:St}{H:Hp}{x:Str}{u:cZ}{pos:Pos}{Q:cZ->c3->Prop}(I:Inv X ag σ H s)(hg:Gl X x)(hm:X.mg x=some u)(h:Q u s)
  (hd:autoParam ((x == ("__debug__":Str))=J) bu0):db (model X.prog X.w) X.A (eval (.Name x pos) X.env) Q E s:=
 Calls.Name_function_global I.ok.kind hg (Calls.loadGlobal_global (by rw[I.ok.glob];exact I.mod.glob.keeps I.bk) hm h) hd
theorem j8 {E:cZ->c3->Prop}{ag:List (c4×Obj)}{s:c3}{σ:St}{H:Hp}{x:Str}{u:cZ}{pos:Pos}{Q:cZ->c3->Prop}(I:Inv X ag σ H s)(hg:Gl X x)(hm:X.mg x=none)(hv:bootBuiltins x=some u)(h:Q u s)
  (hn:autoParam (x≠"__name__") bu0) (hd:autoParam ((x == ("__debug__":Str))=J) bu0):db (model X.prog X.w) X.A (eval (.Name x pos) X.env) Q E s:=by
 obtain⟨a,h1,h2⟩:=I.mod.blt;exact Calls.Name_function_global I.ok.kind hg (Calls.loadGlobal_builtin (by rw[I.ok.glob];exact I.mod.glob.keeps I.bk) hm (by rw[I.ok.blt];exact h1.keeps I.bk) ((h2 x hn).trans hv) h) hd
theorem Eh {x:Str}{v:V}{u:cZ}{pos:Pos}(hg:Gl X x)(hm:X.mg x=Z u)(r:dS v u)(hd:autoParam ((x == ("__debug__":Str))=J) bu0):PE X (.Name x pos) (tC v):=
 λ_ _ _ H _ I h=>yh I hg hm ⟨v,H,I,r,h⟩ hd
theorem Em {x:Str}{v:V}{u:cZ}{pos:Pos}(hg:Gl X x)(hm:X.mg x=Y)(hv:bootBuiltins x=Z u)(r:dS v u)(hn:autoParam (x≠"__name__") bu0)(hd:autoParam ((x == ("__debug__":Str))=J) bu0):PE X (.Name x pos) (tC v):=
 λ_ _ _ H _ I h=>j8 I hg hm hv ⟨v,H,I,r,h⟩ hn hd
variable{a b:Expr}{ta tb:TE}{pos:Pos}
def tB(t:TE):TT:=fun σ H Q=>t σ H λx H1=>∃c,x = .bl c/\Q c H1
variable{tA tB':TT}{rest:List Expr}
def MD(t u:TT):TT:=fun σ H Q=>t σ H λc H1=>if c=M then u σ H1 Q else Q J H1
def N2(t u:TT):TT:=fun σ H Q=>t σ H λc H1=>if c=M then Q M H1 else u σ H1 Q
def Mt(t:TT):TT:=fun σ H Q=>t σ H λc H1=>Q (!c) H1
theorem D1(ha:PT X a tA):PW X (.BoolOp .And [a] pos) tA:=by
 intro b ag s σ H Q I h;refine isTrue_and (fe (ha ag s σ H Q I h) λc d e=>?_);cases c with
 |true=>exact isTrue_and_nil e
 |false=>exact e
theorem Hh(ha:PT X a tA):PW X (.BoolOp .Or [a] pos) tA:=by
 intro b ag s σ H Q I h;refine isTrue_or (fe (ha ag s σ H Q I h) λc d e=>?_);cases c with
 |false=>exact isTrue_or_nil e
 |true=>exact e
theorem Hi(ha:PT X a tA)(hb:PW X (.BoolOp .And (b::rest) pos) tB'):PW X (.BoolOp .And (a::b::rest) pos) (MD tA tB'):=by
 intro g ag s σ H Q I h;refine isTrue_and (fe (ha ag s σ H _ I h) λc f ⟨H1,d,e⟩=>?_);cases c with
 |true=>exact hb g ag f σ H1 Q d e
 |false=>exact⟨H1,d,e⟩
theorem Kw(ha:PT X a tA)(hb:PW X (.BoolOp .Or (b::rest) pos) tB'):PW X (.BoolOp .Or (a::b::rest) pos) (N2 tA tB'):=by
 intro g ag s σ H Q I h;refine isTrue_or (fe (ha ag s σ H _ I h) λc f ⟨H1,d,e⟩=>?_);cases c with
 |true=>exact⟨H1,d,e⟩
 |false=>exact hb g ag f σ H1 Q d e
theorem Hl(ha:PT X a tA):PT X (.UnaryOp .Not a pos) (Mt tA):=by
 intro ag s σ H Q I h;exact isTrue_not (ha ag s σ H (λc H1=>Q (!c) H1) I h)
def Kn(ta tb:TE):TE:=fun σ H Q=>ta σ H λx H1=>∃c,x = .bl c/\if c=M then tb σ H1 Q else Q (.bl J) H1
def Kf(ta:TE):TE:=fun σ H Q=>ta σ H λx H1=>∃c,x = .bl c/\Q (.bl (!c)) H1
theorem HC{op}{t:TE}(h:PE X a t):PE X (.BoolOp op [a] pos) t:=λag s σ H Q I b=>BoolOp_one (h ag s σ H Q I b)
theorem HI(ha:PE X a ta)(hb:PE X (.BoolOp .And (b::rest) pos) tb):PE X (.BoolOp .And (a::b::rest) pos) (Kn ta tb):=by
 intro ag s σ H Q I h;refine BoolOp_and (fe (ha ag s σ H _ I h) λv f ⟨x,H1,e,g,d⟩=>?_);obtain⟨c,rfl,d⟩:=d;cases g;refine wpAny_truthy_bool ?_;cases c with
 |true=>exact hb ag f σ H1 Q e d
 |false=>exact⟨.bl J,H1,e,O,d⟩
theorem HD(ha:PE X a ta):PE X (.UnaryOp .Not a pos) (Kf ta):=by
 intro ag s σ H Q I h;refine UnaryOp_ (fe (ha ag s σ H _ I h) λv f ⟨x,H1,d,e,b⟩=>?_);obtain⟨c,rfl,b⟩:=b;cases e;exact not_of (wpAny_truthy_bool ⟨.bl (!c),H1,d,O,b⟩)
def N4(t:TT)(ta tb:TE):TE:=fun σ H Q=>t σ H λc H1=>if c=M then ta σ H1 Q else tb σ H1 Q
theorem BC{c:Expr}(hc:PT X c tA)(ha:PE X a ta)(hb:PE X b tb):PE X (.IfExp c a b pos) (N4 tA ta tb):=by
 intro ag s σ H Q I h;refine wpAny_IfExp (fe (hc ag s σ H _ I h) λd g ⟨H1,e,f⟩=>?_);cases d with
 |true=>exact ha ag g σ H1 Q e f
 |false=>exact hb ag g σ H1 Q e f
end
def m4(K:Fg1)(H:Hp)(a:c4)(xs:List V):Prop:=
 Rd H a (.lst xs) \/
  ∃(o:Obj) (its:Array cZ) (n:Nat),K.lookup a=Z o/\o.cls = .type "list"/\o.dict=Y/\o.data = .seq its n/\its.size<=da/\d4 xs its.toList
def kS(K:Fg1)(H:Hp)(a:c4)(xs:List V):Prop:=
 Rd H a (.tup xs) \/
  ∃(o:Obj) (its:Array cZ) (n:Nat),K.lookup a=Z o/\o.cls = .type "tuple"/\o.data = .seq its n/\its.size<=da/\d4 xs its.toList
def Nl:cZ->Option V
 | .none=>Z .non
 | .bool b=>Z (.bl b)
 | .int i _=>Z (.int i)
 | .str x _=>Z (.str x)
 | .bytes b _=>Z (.byt b)
 | .float b _=>Z (.flt b)
 | .ref a=>Z (.ref a)
 | .type n=>Z (.ty n)
 |_=>Y
theorem dS.abs{x:V}{u:cZ}(r:dS x u):Nl u=Z x:=by
 cases x with
 |non=>cases r;rfl
 |bl _=>cases r;rfl
 |int _=>obtain⟨t,rfl⟩:=r;rfl
 |str _=>obtain⟨t,rfl⟩:=r;rfl
 |byt _=>obtain⟨t,rfl⟩:=r;rfl
 |flt _=>obtain⟨t,rfl⟩:=r;rfl
 |ref _=>cases r;rfl
 |ty _=>cases r;rfl
theorem dS.inj{x y:V}{u:cZ}(r:dS x u)(q:dS y u):x=y:=Option.some.inj (r.abs.symm.trans q.abs)
theorem d4.inj:∀{xs ys:List V} {a:List cZ},d4 xs a->d4 ys a->xs=ys:=by
 intro xs ys a h g
 induction h generalizing ys with
 |nil=>cases g;rfl
 |cons r t ih=>cases g with
  |cons c b=>rw[r.inj c,ih b]
section
variable{ag:List (c4×Obj)}{σ:St}{H:Hp}{s:c3}{a:c4}{xs ys:List V}
theorem m4.of{K:Fg1}(h:H a=Z (.lst xs)):m4 K H a xs:=.inl (.inl h)
theorem kS.of{K:Fg1}(h:H a=Z (.tup xs)):kS K H a xs:=.inl (.inl h)
theorem Inv.list(I:Inv X ag σ H s)(h:m4 X.K H a xs):∃b:List cZ,d4 xs b/\PlainL s.heap a b.toArray/\xs.length<=da:=by
 rcases h with h|⟨o,b,n,f,hc,c,d,g,r⟩
 ·obtain⟨z,b,n,r,e⟩:=h.ok I.hok;exact⟨b,r,⟨_,n,e,O,O,O⟩,z⟩
 ·refine⟨b.toList,r,⟨o,n,I.kIn a o f,hc,c,by simpa using d⟩,?_⟩;have e:=r.length;simp only[aI]at e;lia
theorem Inv.tuple(I:Inv X ag σ H s)(h:kS X.K H a xs):∃b:List cZ,d4 xs b/\IsTup s.heap a b.toArray/\xs.length<=da:=by
 rcases h with h|⟨o,b,n,d,hc,c,f,r⟩
 ·obtain⟨z,b,r,p⟩:=h.ok I.hok;exact⟨b,r,p,z⟩
 ·refine⟨b.toList,r,⟨o,I.kIn a o d,hc,n,by simpa using c⟩,?_⟩;have e:=r.length;simp only[aI]at e;lia
theorem Inv.list_inj(I:Inv X ag σ H s)(h:m4 X.K H a xs)(h':m4 X.K H a ys):xs=ys:=by
 obtain⟨b,r,⟨o,n,e,_,_,d⟩,_⟩:=I.list h;obtain⟨its',g,⟨o',j,c,_,_,f⟩,_⟩:=I.list h';rw[e]at c;cases c;rw[d]at f;injection f with i _;have:b=its':=by simpa using congrArg Array.toList i
 subst this;exact r.inj g
theorem Inv.tuple_inj(I:Inv X ag σ H s)(h:kS X.K H a xs)(h':kS X.K H a ys):xs=ys:=by
 obtain⟨b,r,⟨o,e,_,n,d⟩,_⟩:=I.tuple h;obtain⟨its',g,⟨o',c,_,j,f⟩,_⟩:=I.tuple h';rw[e]at c;cases c;rw[d]at f;injection f with i _;have:b=its':=by simpa using congrArg Array.toList i
 subst this;exact r.inj g
end
abbrev Cx.wish(X:Cx)(E:cZ->c3->Prop):Cx:={X with xe:=E}
abbrev Cx.nox(X:Cx):Cx:=X.wish λ_ _=>False
theorem Cx.Ok.wish{X:Cx}(ok:X.Ok)(E:cZ->c3->Prop):(X.wish E).Ok:=
 ⟨ok.mod,ok.kind,ok.glob,ok.blt,ok.above,ok.inj,ok.has,ok.cab,ok.hd,ok.frames,ok.stk,ok.exf,ok.bs,ok.bsz,ok.noex,ok.exfs,ok.funs,ok.frf⟩
theorem Cx.Ok.unwish{X:Cx}{E:cZ->c3->Prop}(ok:(X.wish E).Ok):X.Ok:=
 ⟨ok.mod,ok.kind,ok.glob,ok.blt,ok.above,ok.inj,ok.has,ok.cab,ok.hd,ok.frames,ok.stk,ok.exf,ok.bs,ok.bsz,ok.noex,ok.exfs,ok.funs,ok.frf⟩
section
variable{ag:List (c4×Obj)}{σ:St}{H:Hp}{s:c3}{E:cZ->c3->Prop}
theorem Inv.wish(I:Inv X ag σ H s)(E:cZ->c3->Prop):Inv (X.wish E) ag σ H s:=⟨I.ok.wish E,I.os,I.bare,I.base,I.loc,I.cell,I.free,I.freeC,I.pin,I.hok,I.len⟩
theorem Inv.unwish(I:Inv (X.wish E) ag σ H s):Inv X ag σ H s:=⟨I.ok.unwish,I.os,I.bare,I.base,I.loc,I.cell,I.free,I.freeC,I.pin,I.hok,I.len⟩
theorem SP.unwish{D:kq}{f:Flow}{s':c3}(h:SP (X.wish E) ag D f s'):SP X ag D f s':=by
 cases f with
 |next=>obtain⟨a,H',I,q⟩:=h;exact⟨a,H',I.unwish,q⟩
 |brk=>obtain⟨a,H',I,q⟩:=h;exact⟨a,H',I.unwish,q⟩
 |cont=>obtain⟨a,H',I,q⟩:=h;exact⟨a,H',I.unwish,q⟩
 |ret u=>obtain⟨v,a,H',I,r,q⟩:=h;exact⟨v,a,H',I.unwish,r,q⟩
theorem v6.nox{st:List di}{t:TS}(h:v6 X.nox st t):v6 X st t:=λag s σ H D I a=>
 wpAny_mono (h ag s σ H D (I.wish _) a) (λ_ _ q=>q.unwish) λ_ _ z=>False.elim z
end
section
variable{st:di}{rest:List di}{t u:TS}{e:Expr}{te:TE}{pos:Pos}
def Kg:TS:=λD σ H=>D.nx σ H
def Mq(t u:TS):TS:=λD σ H=>t {D with nx:=u D} σ H
theorem D6:v6 X [] Kg:=λ_ _ σ H _ I h=>wpAny_execs_nil ⟨σ,H,I,h⟩
theorem Bo(h1:PS X st t)(h2:v6 X rest u):v6 X (st::rest) (Mq t u):=by
 intro ag s σ H D I h;refine wpAny_execs_cons (fe (h1 ag s σ H {D with nx:=u D} I h) λf b q=>?_);cases f with
 |next=>
  obtain⟨a,H',c,q⟩:=q;exact h2 ag b a H' D c q
 |ret v=>exact q
 |brk=>exact q
 |cont=>exact q
theorem D5(h1:PS X st t):v6 X [st] t:=by
 intro ag s σ H D I h;refine wpAny_execs_cons (fe (h1 ag s σ H D I h) λf a q=>?_);cases f with
 |next=>exact wpAny_execs_nil q
 |ret v=>exact q
 |brk=>exact q
 |cont=>exact q
theorem Inv.quiet{ag:List (c4×Obj)}{σ:St}{H:Hp}{s:c3}(I:Inv X ag σ H s):interactive X.env=J:=by simp[interactive,I.ok.kind]
def Kj(te:TE):TS:=λD σ H=>te σ H λ_ H1=>D.nx σ H1
theorem D8(he:PE X e te)(hs:autoParam (swapsWith e Y pos.line X.env=pure J) cu0):PS X (.Expr e pos) (Kj te):=by
 intro ag s σ H D I h;exact wpAny_Expr_any (fe (he ag s σ H _ I h) λv c ⟨x,H1,a,d,b⟩=>⟨σ,H1,a,b⟩) I.quiet hs
def Mr(te:TE):TS:=λD σ H=>te σ H D.rt
theorem Ho(he:PE X e te):PS X (.Return (Z e) pos) (Mr te):=by
 intro ag s σ H D I h;exact wpAny_Return_some (fe (he ag s σ H _ I h) λv d ⟨x,H1,a,c,b⟩=>⟨x,σ,H1,a,c,b⟩)
def Mz(c:TT)(t u:TS):TS:=λD σ H=>c σ H λb H1=>if b=M then t D σ H1 else u D σ H1
theorem Kx{c:Expr}{a b:List di}{tc:TT}(hc:PT X c tc)(ha:v6 X a t)(hb:v6 X b u):PS X (.If c a b pos) (Mz tc t u):=by
 intro ag s σ H D I h;refine wpAny_If (fe (hc ag s σ H _ I h) λd g ⟨H1,e,f⟩=>?_);cases d with
 |true=>exact ha ag g σ H1 D e f
 |false=>exact hb ag g σ H1 D e f
end
abbrev TG:=V->St->Hp->(St->Hp->Prop)->Prop
abbrev GF:=List V->St->Hp->(St->Hp->Prop)->Prop
def PG(X:Cx)(target:Expr)(t:TG):Prop:=
 ∀(ag:List (c4×Obj)) (s:c3) (σ:St) (H:Hp) (v:V) (u:cZ) (Q:St->Hp->Prop),Inv X ag σ H s->dS v u->t v σ H Q ->
  db (model X.prog X.w) X.A (assign target X.env u) (λ_ s'=>∃ σ' H',Inv X ag σ' H' s'/\Q σ' H') X.xe s
def JJ(X:Cx)(ts:List Expr)(t:GF):Prop:=
 ∀(ag:List (c4×Obj)) (s:c3) (σ:St) (H:Hp) (vs:List V) (us:List cZ) (Q:St->Hp->Prop),Inv X ag σ H s->d4 vs us->t vs σ H Q ->
  db (model X.prog X.w) X.A (assignInOrder ((assignEach ts X.env).map (·.2)) us) (λ_ s'=>∃ σ' H',Inv X ag σ' H' s'/\Q σ' H') X.xe s
abbrev JH:=V->V->V->Hp->(Hp->Prop)->Prop
def xB(X:Cx)(t:JH):Prop:=
 ∀(ag:List (c4×Obj)) (s:c3) (σ:St) (H:Hp) (o i v:V) (ov iv u:cZ) (Q:Hp->Prop),Inv X ag σ H s->dS o ov->dS i iv->dS v u->t o i v H Q ->
  db (model X.prog X.w) X.A (setItem ov iv u) (λ_ s'=>∃H',Inv X ag σ H' s'/\Q H') X.xe s
abbrev Np:=V->V->Hp->VK->Prop
def Ml(X:Cx)(op:Operator)(t:Np):Prop:=
 ∀(ag:List (c4×Obj)) (s:c3) (σ:St) (H:Hp) (x y:V) (v u:cZ) (Q:VK),Inv X ag σ H s->dS x v->dS y u->t x y H Q ->
  db (model X.prog X.w) X.A (inplaceOp op v u) (EP X ag σ Q) X.xe s
section
variable{pos:Pos}
def yx(i:Nat):TG:=λv σ H Q=>Q (σ.set i (Z v)) H
theorem x0{i:Nat}{x:Str}(hN:X.N.Nodup)(hi:X.N[i]?=Z x)(hx:xC X.env.scope x)(hf:autoParam (X.fn x=M\/X.env.scope.names.lookup x=Z .local) au0):PG X (.Name x pos) (yx i):=by
 intro ag s σ H v u Q I r h;exact wpAny_assign_Name (hR I hN hi hx r (λs' a=>⟨_,H,a,h⟩) hf)
def Na:GF:=λvs σ H Q=>vs=[]/\Q σ H
def Lk(t:TG)(u:GF):GF:=λvs σ H Q=>∃v r,vs=v::r/\t v σ H fun σ' H'=>u r σ' H' Q
theorem Eg:JJ X [] Na:=by
 intro ag s σ H vs a Q I r h;obtain⟨e,h⟩:=h;subst e;cases r;exact assignInOrder_nil ⟨σ,H,I,h⟩
theorem By{e:Expr}{es:List Expr}{t:TG}{u:GF}(h1:PG X e t)(h2:JJ X es u)(hs:autoParam ((assignEach (e::es) X.env).map (·.2)=assign e X.env::(assignEach es X.env).map (·.2)) cu0):JJ X (e::es) (Lk t u):=by
 intro ag s σ H vs j Q I r h;obtain⟨v,i,c,h⟩:=h;subst c;cases r with
 |cons r g=>
  rw[hs];refine assignInOrder_cons (fe (h1 ag s σ H _ _ _ I r h) λ_ d ⟨a,H1,b,f⟩=>?_);exact h2 ag d a H1 _ _ Q b g f
def gTup(K:Fg1)(n:Nat)(t:GF):TG:=λv σ H Q=>∃a xs,v = .ref a/\kS K H a xs/\xs.length=n/\t xs σ H Q
theorem Hx{es:List Expr}{k:Nat}{t:GF}{n:Nat}(hc:X.calm=M)(h:JJ X es t)(hn:autoParam ((assignEach es X.env).length=n) cu0)(hst:autoParam ((assignEach es X.env).findIdx? (·.1)=Y) cu0):PG X (.Tuple es k pos) (gTup X.K n t):=by
 intro ag s σ H v u Q I r c;obtain⟨a,xs,g,j,m,c⟩:=c;subst g;cases r;obtain⟨l,d,p,q⟩:=I.tuple j;refine assign_Tuple_tuple (I.ok.hd hc) p (by simp[hn,<- m,d.length]) hst λh' i=>?_;have f:Inv X ag σ H {s with heap:=h'}:=I.kept (t':=s.toks) λb o e=>i b o (nN1 (hL1 e)) e;exact h ag _ σ H xs _ Q f (by simpa using d) c
def gSub(to ti:TE)(t:JH):TG:=λv σ H Q=>to σ H λo H1=>ti σ H1 λi H2=>t o i v H2 λH3=>Q σ H3
theorem Hy{o i:Expr}{to c:TE}{t:JH}(ho:PE X o to)(hi:PE X i c)(hs:xB X t)(ha:autoParam (∀v,assign (.Subscript o i pos) X.env v=(do
   let a<-holding [v] (eval o X.env)
   let b<-holding [v,a] (eval i X.env)
   standAt pos
   holding [v,a,b] (setItem a b v)
   release [v,a,b] [])) du0):PG X (.Subscript o i pos) (gSub to c t):=by
 intro ag s σ H v u Q I r h;rw[ha];refine wB1 (wpAny_holding (fe (ho ag s σ H _ I h) λa j ⟨x,H1,d,n,k⟩=>?_));refine wB1 (wpAny_holding (fe (hi ag j σ H1 _ d k) λb f ⟨y,H2,m,r2,p⟩=>?_));refine wB1 (wpAny_standAt (wB1 (wpAny_holding (fe (hs ag f σ H2 x y v a b u _ m n r2 r p) λ_ q ⟨e,g,l⟩=>?_))));exact wpAny_release ⟨σ,e,g,l⟩
def AZ(te:TE)(g:TG):TS:=λD σ H=>te σ H λx H1=>g x σ H1 D.nx
theorem Ht{tg e:Expr}{te:TE}{g:TG}(he:PE X e te)(hg:PG X tg g)(hs:autoParam (swapsWithSole [tg] e pos.line X.env=pure J) cu0)(hw:autoParam (swappedStores [tg] e X.env=pure Y) cu0)(h1:autoParam ((assignEach [tg] X.env).map (·.2)=[assign tg X.env]) cu0):PS X (.Assign [tg] e pos) (AZ te g):=by
 intro ag s σ H D I h;refine wpAny_Assign_stores (fe (he ag s σ H _ I h) λv c ⟨x,H1,a,d,b⟩=>?_) hs hw;rw[h1];exact fe (hg ag c σ H1 x v _ a d b) λ_ f q=>q
theorem Hn{i:Nat}{x:Str}{e:Expr}{te:TE}{pos':Pos}(hN:X.N.Nodup)(hi:X.N[i]? = some x)(hx:xC X.env.scope x)(he:PE X e te)(hs:autoParam (swapsWith e (some (.Name x pos')) pos.line X.env=pure false) cu0)(hf:autoParam (X.fn x=true\/X.env.scope.names.lookup x=some .local) au0):
  PS X (.Assign [.Name x pos'] e pos) (AZ te (yx i)):=by
 intro ag s σ H D I h;refine wpAny_Assign_Name (fe (he ag s σ H _ I h) λv g ⟨y,H1,a,d,b⟩=>?_) hs;exact hR a hN hi hx d (λf c=>⟨_,H1,c,b⟩) hf
def Ms(i j:Nat)(ta:TA):TS:=λD σ H=>ta σ H λvs H1=>∃v w,vs=[v,w]/\D.nx ((σ.set i (Z v)).set j (Z w)) H1
theorem Hq{i j:Nat}{x y:Str}{a b:Expr}{ta:TA}{g f pt:Pos}{kt k2 pt2}(hc:X.calm=true)(hN:X.N.Nodup)(hi:X.N[i]? = some x)(z:X.N[j]? = some y)(l:i≠j)(hx:X.env.scope.names.lookup x=some .local)(hy:X.env.scope.names.lookup y=some .local)(ha:PA X [a,b] ta)(hw:swappedStores [.Tuple [.Name x g,.Name y f] kt pt] (.Tuple [a,b] k2 pt2) X.env=pure (some [x,y]))(hs:autoParam (swapsWithSole [.Tuple [.Name x g,.Name y f] kt pt] (.Tuple [a,b] k2 pt2) pos.line X.env=pure false) cu0):
  PS X (.Assign [.Tuple [.Name x g,.Name y f] kt pt] (.Tuple [a,b] k2 pt2) pos) (Ms i j ta):=by
 intro ag s σ H D I h;rw[exec_Assign_arm];refine wB1 (wpAny_standAt ?_);rw[hs];refine wB1 (wP1 ?_);rw[aj (by decide)];refine wB1 (Tuple_ (fe (ha _ ag s σ H _ I h) λG d ⟨vs,H1,F,A,n⟩=>?_));obtain⟨v,w,t,n⟩:=n;subst t;obtain⟨c,u2,rfl,E,m⟩:∃c u2,G=[c,u2]/\dS v c/\dS w u2:=by
  cases A with
  |cons p q=>
   cases q with
   |cons u B=>
    cases B;exact⟨_,_,O,p,u⟩
 refine wO1 ?_ (by show 2<=da;decide);have K:Inv X ag σ H1 {d with heap:=d.heap.push {cls:=.type "tuple",data:=.seq [c,u2].toArray}}:=F.kept (t':=d.toks) λb o e=>hP1 _ e;rw[hw];refine wB1 (wP1 ?_);show db (model X.prog X.w) X.A (do rule "assign.swapped-stores";let items<-unpackItems (.ref d.heap.objs.size) 2 Y;assignInOrder [λv=>bindName X.env y v,λv=>bindName X.env x v] items.reverse;pure Flow.next) _ _ _;refine wB1 (wpAny_rule (wB1 (unpackItems_tuple (items:= #[c,u2]) (I.ok.hd hc) (IsTup.new d.heap _) λh' k=>?_)));have am:=K.kept (h':=h') (t':=d.toks) λb o e=>k b o (nN1 (hL1 e)) e;show db _ _ (assignInOrder [λv=>bindName X.env y v,λv=>bindName X.env x v] [u2,c] >>= λ_=>pure Flow.next) _ _ _;refine wB1 (assignInOrder_cons (wpAny_bindName (hR am hN z (.inl hy) m (λL C=>?_) (.inr hy))));refine assignInOrder_cons (wpAny_bindName (hR C hN hi (.inl hx) E (λao r=>assignInOrder_nil (wP1 ?_)) (.inr hx)));rw[aJ _ _ (Ne.symm l)]at r;exact⟨_,H1,r,n⟩
def MC(i:Nat)(te:TE)(ti:Np):TS:=λD σ H=>∃x,σ[i]?=Z (Z x)/\te σ H λy H1=>ti x y H1 λz H2=>D.nx (σ.set i (Z z)) H2
theorem Hs{i:Nat}{x:Str}{e:Expr}{te:TE}{op:Operator}{n:Np}{pos':Pos}(hN:X.N.Nodup)(hi:X.N[i]? = some x)(hx:xC X.env.scope x)(he:PE X e te)(ho:Ml X op n)(hf:autoParam (X.fn x=true\/X.env.scope.names.lookup x=some .local) au0):
  PS X (.AugAssign (.Name x pos') op e pos) (MC i te n):=by
 intro ag s σ H D I h;obtain⟨v,o,h⟩:=h;obtain⟨m,q,C⟩:=I.loc;have g:Vis X.env.scope x:=by rcases hx with k|k;exact .inl k;exact .inr (.inl k)
 obtain⟨u,r,l⟩:=C i x v hi o g;refine wpAny_AugAssign_Name ?_;have j:db (model X.prog X.w) X.A (eval e X.env) (λw d=>db (model X.prog X.w) X.A (inplaceOp op u w) (λr f=>db (model X.prog X.w) X.A (storeName X.env x r) (λ_=>SP X ag D .next) X.xe f) X.xe d) X.xe s:=by
  refine fe (he ag s σ H _ I h) λw A ⟨y,H1,t,p,B⟩=>?_;refine fe (ho ag A σ H1 v y u w _ t r p B) λz K ⟨ao,H2,am,r2,F⟩=>?_;exact hR am hN hi hx r2 (λL G=>⟨_,H2,G,F⟩) hf
 rcases l with⟨a,E⟩|⟨a,c,hc,b⟩
 ·exact wpAny_loadName_local I.ok.kind a q E j
 ·rcases a with a|a
  ·exact wpAny_loadName_cell I.ok.kind a hc b j
  ·rcases hx with k|k
   ·have:X.env.scope.names.lookup x=Z .free:=a;rw[k]at this;cases this
   ·have:X.env.scope.names.lookup x=Z .free:=a;rw[k]at this;cases this
def AW(c:TT)(tb:TS):TS:=λD σ H=>∃W:Nat->St->Hp->Prop,(∃m,W m σ H) /\ ∀m σ H,W m σ H ->
 c σ H λb H1=>if b=M then∃N:St->Hp->Prop,(∀ σ' H',N σ' H' -> ∃m',m'<m/\W m' σ' H')/\tb {D with nx:=N,ct:=N,bk:=D.nx} σ H1 else D.nx σ H1
theorem Bp{c:Expr}{e:List di}{tc:TT}{tb:TS}(hp:PassesOwn (model X.prog X.w) X.A X.env X.xe)(hc:PT X c tc)(hb:v6 X e tb):PS X (.While c e [] pos) (AW tc tb):=by
 intro ag s σ H D I h;obtain⟨W,⟨z,A⟩,g⟩:=h;refine wpAny_While (codeAny_whileLoop (λn s'=>∃i H',Inv X ag i H' s'/\W n i H') ?_ z ⟨σ,H,I,A⟩);rintro n y ⟨d,H1,x,B⟩;refine wpAny_passesOwn hp (fe (hc ag y d H1 _ x (g n d H1 B)) λb w ⟨H2,u,l⟩=>?_);cases b with
 |true=>
  obtain⟨N,t,l⟩:=l;rw[ak O];refine wpAny_passesOwn hp (fe (hb ag w d H2 _ u l) λf C k=>?_);cases f with
  |next=>
   obtain⟨a,j,q,o⟩:=k;obtain⟨r,p,m⟩:=t a j o;exact⟨r,p,a,j,q,m⟩
  |cont=>
   obtain⟨a,j,q,o⟩:=k;obtain⟨r,p,m⟩:=t a j o;exact⟨r,p,a,j,q,m⟩
  |brk=>exact k
  |ret v=>exact k
 |false=>
  rw[aj aK];exact wpAny_execs_nil ⟨d,H2,u,l⟩
end
structure It where
 go:Nat->Hp->Prop
 yld:Nat->Hp->V->Hp->Prop
 stop:Nat->Hp->Prop
def k4(X:Cx)(ag:List (c4×Obj))(H:Hp)(b:c4):Prop:=
 H b=Y/\b≠X.env.locals/\b∉X.fs/\(b∈X.ex\/X.s₀.heap.objs.size<=b)/\(∀x c,X.env.cells.lookup x=Z c->c≠b) /\ ∀p∈X.pn++ag,p.1≠b
theorem Inv.fpOk{X:Cx}{ag:List (c4×Obj)}{σ:St}{H H':Hp}{s:c3}{b:c4}(I:Inv X ag σ H s)(hb:s.heap.objs.size<=b)(hn:H' b=Y):k4 X ag H' b:=by
 refine⟨hn,nG1 (nL1 I.lt hb),I.nofs hb,.inr (aC I.sz hb),λx c e z=>?_,λp a z=>?_⟩
 ·obtain⟨v,q⟩:=I.cell x c e;exact absurd (nL1 q.lt (by rw[z];exact hb)) (az _)
 ·exact absurd (nL1 (hL1 (I.pin p a).1) (by rw[z];exact hb)) (az _)
structure xy (P:c5)(w:c7)(K:Fg1)(tg:Expr)(am:It)(fp:List c4)(it:c4)(tn:Nat->df->Prop):Prop where
 mem:it∈fp
 obj:∀i h,tn i h -> ∀b∈fp,∃o,h.get? b=some o /\ ∀v,o.data ≠ .cell v
 keep:∀i h h',tn i h->(∀b∈fp,∀o,h.get? b=some o->h'.get? b=some o)->tn i h'
 item:∀(X:Cx),X.prog=P->X.w=w->X.K=K->X.calm=true -> ∀(i:Nat) (ag:List (c4×Obj)) (s:c3) (σ:St) (H:Hp) (E:cZ->c3->Prop),Inv X ag σ H s->(∀b∈fp,k4 X ag H b)->tn i s.heap->am.go i H ->
  db (model P w) X.A (pyNext (.ref it)) (λr s1=>∃u,r=some u /\
   db (model P w) X.A (letOwnedTupleGo tg (.ref it) u) (λ_ s2=>∃x H',Inv X ag σ H' s2/\dS x u/\am.yld i H x H'/\tn (i+1) s2.heap /\ ∀b∈fp,H' b=none) E s1) E s
 done:∀(X:Cx),X.prog=P->X.w=w->X.K=K->X.calm=true -> ∀(i:Nat) (ag:List (c4×Obj)) (s:c3) (σ:St) (H:Hp) (E:cZ->c3->Prop),Inv X ag σ H s->(∀b∈fp,k4 X ag H b)->tn i s.heap->am.stop i H ->
  db (model P w) X.A (pyNext (.ref it)) (λr s1=>r=none/\Inv X ag σ H s1) E s
 self:∀(A:c6) (i:Nat) (s:c3) (Q:cZ->c3->Prop) (E:cZ->c3->Prop),tn i s.heap->Q (.ref it) s->db (model P w) A (pyIter (.ref it)) Q E s
abbrev TI:=St->Hp->(It->Hp->Prop)->Prop
def NT(X:Cx)(ag:List (c4×Obj))(σ:St)(tg:Expr)(R:It->Hp->Prop)(itv:cZ)(s2:c3):Prop:=
 ∃(it:c4) (fp:List c4) (tn:Nat->df->Prop) (am:It) (H':Hp),itv = .ref it/\Inv X ag σ H' s2/\xy X.prog X.w X.K tg am fp it tn/\tn 0 s2.heap/\(∀b∈fp,k4 X ag H' b)/\R am H'
def PI(X:Cx)(tg iter:Expr)(wi:TI):Prop:=
 ∀(ag:List (c4×Obj)) (s:c3) (σ:St) (H:Hp) (R:It->Hp->Prop),Inv X ag σ H s->wi σ H R ->
  db (model X.prog X.w) X.A (eval iter X.env) (λv s1=>db (model X.prog X.w) X.A (pyIter v) (NT X ag σ tg R) X.xe s1) X.xe s
theorem CH {ao:Model}{A:c6}{E:cZ->c3->Prop}{s:c3}{tg:Expr}{it:c4}{u:cZ}{o:Obj}{n:String}{vs:Array cZ}{Q:Unit->c3->Prop}(ho:s.heap.get? it=some o)(hc:o.cls = .type n)(hd:o.data = .fields vs)
   (hn:["enumerate","zip","dict_itemiterator","dict_reverseitemiterator","odict_iterator","itertools.zip_longest","itertools.pairwise"].contains n=J) (a:Q () s):db ao A (letOwnedTupleGo tg (.ref it) u) Q E s:=by
 unfold letOwnedTupleGo;cases tg <;> first
   |exact wP1 a
   | (cases u<;>first
       |exact wP1 a
       | (refine wB1 (wpAny_load ho ?_)
          rw[hc,hd];show db ao A (if(["enumerate","zip","dict_itemiterator","dict_reverseitemiterator","odict_iterator","itertools.zip_longest","itertools.pairwise"].contains n&&vs[0]? == Z (rawInt _))=M then _ else _) Q E s;rw[aj (by intro h;rw[hn,aL]at h;cases h)];exact wP1 a))
def NW(K:Fg1)(a:c4):It:=
 ⟨λi H=>∃xs x,m4 K H a xs/\xs[i]?=Z x,λi H x H'=>H'=H /\ ∀xs,m4 K H a xs->xs[i]?=Z x,λi H=>∃xs,m4 K H a xs/\xs.length<=i⟩
def NV(K:Fg1)(a:c4):It:=
 ⟨λi H=>∃xs x,kS K H a xs/\xs[i]?=Z x,λi H x H'=>H'=H /\ ∀xs,kS K H a xs->xs[i]?=Z x,λi H=>∃xs,kS K H a xs/\xs.length<=i⟩
def LZ(lo:Int)(n:Nat):It:=⟨λi _=>i<n,λi H x H'=>H'=H/\x = .int (lo+i),λi _=>n<=i⟩
theorem zb{P:c5}{w:c7}{K:Fg1}{tg:Expr}(a it:c4):xy P w K tg (NW K a) [it] it (λi h=>h.IsListIter it a i) where
 mem:=by simp
 obj:=λi h st b f=>by
  have e:b=it:=by simpa using f
  subst e;obtain⟨o,e,c,d⟩:=st;exact⟨o,e,λv z=>by rw[d]at z;cases z⟩
 keep:=λi h h' st k=>st.at λo e=>k it (by simp) o e
 item:=by
  intro X F l y hc i ag s σ H E I g st B;subst F l y;obtain⟨xs,x,j,q⟩:=B;obtain⟨C,A,p,G⟩:=I.list j;obtain⟨u,am,Q⟩:=A.get q;obtain⟨r,t,N,m,n,D⟩:=g it (by simp);refine wpAny_pyNext_list_item st p.isList (x:=u) (by simpa using am) λh' st' R=>?_;have ao:Inv X ag σ H {s with heap:=h'}:=I.turned (t':=s.toks) (λb o f e=>(R.2 b f).trans e) r t m n D;obtain⟨o,e,c,d⟩:=id st';exact⟨u,O,CH (s:={s with heap:=h'}) e c d (by decide) ⟨x,H,ao,Q,⟨O,λys au=>by rw[I.list_inj au j];exact q⟩,st',λb f=>(g b f).1⟩⟩
 done:=by
  intro X F l y hc i ag s σ H E I g st B;subst F l y;obtain⟨xs,j,q⟩:=B;obtain⟨C,A,p,G⟩:=I.list j;obtain⟨r,t,N,m,n,D⟩:=g it (by simp);have S:=A.length;exact wpAny_pyNext_list_end (I.ok.hd hc) st p.isList (by simp;lia) λh' L=>⟨O,I.turned (t':=s.toks) (λb o f e=>L b o f e) r t m n D⟩
 self:=λ_ _ _ _ _ st h=>wpAny_pyIter_listiter st h
theorem wo{P:c5}{w:c7}{K:Fg1}{tg:Expr}(a it:c4):xy P w K tg (NV K a) [it] it (λi h=>h.IsTupleIter it a i) where
 mem:=by simp
 obj:=λi h st b g=>by
  have e:b=it:=by simpa using g
  subst e;obtain⟨o,e,c,d⟩:=st;exact⟨o,e,λv z=>by rw[d]at z;cases z⟩
 keep:=λi h h' st k=>st.at λo e=>k it (by simp) o e
 item:=by
  intro X F m A hc i ag s σ H E I j st C;subst F m A;obtain⟨xs,x,l,r⟩:=C;obtain⟨f,B,p,G⟩:=I.tuple l;obtain⟨u,am,Q⟩:=B.get r;obtain⟨t,y,N,n,q,D⟩:=j it (by simp);refine wpAny_pyNext_tuple_item st (show s.heap.IsTuple a f.toArray from p) (x:=u) (by simpa using am) λh' st' R=>?_;have ao:Inv X ag σ H {s with heap:=h'}:=I.turned (t':=s.toks) (λb o g e=>(R.2 b g).trans e) t y n q D;obtain⟨o,e,c,d⟩:=id st';exact⟨u,O,CH (s:={s with heap:=h'}) e c d (by decide) ⟨x,H,ao,Q,⟨O,λys au=>by rw[I.tuple_inj au l];exact r⟩,st',λb g=>(j b g).1⟩⟩
 done:=by
  intro X F m A hc i ag s σ H E I j st C;subst F m A;obtain⟨xs,l,r⟩:=C;obtain⟨f,B,p,G⟩:=I.tuple l;obtain⟨t,y,N,n,q,D⟩:=j it (by simp);have S:=B.length;exact wpAny_pyNext_tuple_end (I.ok.hd hc) st (show s.heap.IsTuple a f.toArray from p) (by simp;lia) λh' L=>⟨O,I.turned (t':=s.toks) (λb o g e=>L b o g e) t y n q D⟩
 self:=λ_ _ _ _ _ st h=>wpAny_pyIter_tupleiter st h
theorem wp{P:c5}{w:c7}{K:Fg1}{tg:Expr}(it:c4)(lo:Int)(n:Nat):xy P w K tg (LZ lo n) [it] it (λi h=>IsRangeIter h it (lo+(i:Nat)*1) ((n:Int)-(i:Nat)) 1) where
 mem:=by simp
 obj:=λi h st b a=>by
  have e:b=it:=by simpa using a
  subst e;exact⟨_,st,λv z=>by
   have A:Data.fields _=Data.cell v:=z;cases A⟩
 keep:=λi h h' st k=>k it (by simp) _ st
 item:=by
  intro X j g q hc i ag s σ H E I c st d;subst j g q;obtain⟨f,m,x,l,p,r⟩:=c it (by simp);have W:=Walks.range (prog:=X.prog) (w:=X.w) (I.ok.hd hc) it lo 1 n;refine W.item i s _ _ d st λv h' tk y st' B=>?_;obtain⟨t,rfl⟩:=y;have u:Inv X ag σ H {s with heap:=h',toks:=tk}:=I.turned (λb o a e=>B b o (by simpa using a) e) f m l p r;refine⟨_,O,CH (s:={s with heap:=h',toks:=tk}) (n:="range_iterator") st' O O (by decide) ⟨.int (lo+i),H,u,⟨t,?_⟩,⟨O,O⟩,st',λb a=>(c b a).1⟩⟩;rw[Int.mul_one]
 done:=by
  intro X j g q hc i ag s σ H E I c st d;subst j g q;obtain⟨f,m,x,l,p,r⟩:=c it (by simp);exact wpAny_pyNext_range_end (I.ok.hd hc) st (by have:n<=i:=d;lia) λh' C=>⟨O,I.turned (t':=s.toks) (λb o a e=>C b o a e) f m l p r⟩
 self:=λ_ _ _ _ _ st h=>wpAny_pyIter_rangeiter st h
section
variable{tg:Expr}
def Lh(K:Fg1)(tl:TE):TI:=fun σ H R=>tl σ H λx H1=>∃a,x = .ref a/\(∃xs,m4 K H1 a xs)/\R (NW K a) H1
def M8(K:Fg1)(tl:TE):TI:=fun σ H R=>tl σ H λx H1=>∃a,x = .ref a/\(∃xs,kS K H1 a xs)/\R (NV K a) H1
theorem Ee{l:Expr}{tl:TE}(j:PE X l tl):PI X tg l (Lh X.K tl):=by
 intro ag s σ H R I h;refine fe (j ag s σ H _ I h) λv d ⟨x,H1,c,m,g⟩=>?_;obtain⟨a,e,⟨xs,f⟩,q⟩:=g;subst e;cases m;obtain⟨i,r,p,n⟩:=c.list f;refine wpAny_pyIter_list p.isList ?_;refine⟨d.heap.objs.size,[d.heap.objs.size],_,_,H1,O,c.kept (t':=d.toks) λb o e=>hP1 _ e,zb a _,⟨_,hS1 _ O,O,O⟩,λb k=>?_,q⟩;have e:b=d.heap.objs.size:=by simpa using k
 subst e;exact c.fpOk (nR1 _) (c.hok.fresh (nR1 _))
theorem Hw{l:Expr}{tl:TE}(j:PE X l tl):PI X tg l (M8 X.K tl):=by
 intro ag s σ H R I h;refine fe (j ag s σ H _ I h) λv c ⟨x,H1,d,m,i⟩=>?_;obtain⟨a,e,⟨xs,g⟩,q⟩:=i;subst e;cases m;obtain⟨f,r,p,n⟩:=d.tuple g;refine wpAny_pyIter_tuple (show c.heap.IsTuple a f.toArray from p) ?_;refine⟨c.heap.objs.size,[c.heap.objs.size],_,_,H1,O,d.kept (t':=c.toks) λb o e=>hP1 _ e,wo a _,⟨_,hS1 _ O,O,O⟩,λb k=>?_,q⟩;have e:b=c.heap.objs.size:=by simpa using k
 subst e;exact d.fpOk (nR1 _) (d.hok.fresh (nR1 _))
theorem uL{ag:List (c4×Obj)}{σ:St}{H:Hp}{s:c3}{R:It->Hp->Prop}{E:cZ->c3->Prop}{lo hi:Int}{t u v:Tok}{tk:Nat}(I:Inv X ag σ H s)(h1: -(2^62)<=lo)(h2:lo<2^62)(d: -(2^62)<=hi)(f:hi<2^62)(q:R (LZ lo (hi-lo).toNat) H):db (model X.prog X.w) X.A (pyIter (.ref s.heap.objs.size)) (NT X ag σ tg R) E {s with heap:=s.heap.push {cls:=.type "range",data:=.fields #[.int lo t,.int hi u,.int 1 v]},toks:=tk}:=by
 refine wpAny_pyIter_range (IsRange.new ..) (small_one h1 h2 d f) ?_;have a:Inv X ag σ H {s with heap:=s.heap.push {cls:=.type "range",data:=.fields #[.int lo t,.int hi u,.int 1 v]},toks:=tk}:=I.kept λb o e=>hP1 _ e;refine⟨(s.heap.push {cls:=.type "range",data:=.fields #[.int lo t,.int hi u,.int 1 v]}).objs.size,[(s.heap.push {cls:=.type "range",data:=.fields #[.int lo t,.int hi u,.int 1 v]}).objs.size],_,_,H,O,
  a.kept (t':=tk) λb o e=>hP1 _ e,wp _ lo (hi-lo).toNat,?_,λb g=>?_,q⟩
 ·have c:lo+((0:Nat):Int)*1=lo:=by simp
  have h:(((hi-lo).toNat:Nat):Int)-((0:Nat):Int)=Builtin.Range.rangeSize lo hi 1:=by rw[rangeSize_one];split<;>lia
  show IsRangeIter _ _ (lo+((0:Nat):Int)*1) ((((hi-lo).toNat:Nat):Int)-((0:Nat):Int)) 1;rw[c,h];exact hS1 _ O
 ·have e:b=(s.heap.push {cls:=.type "range",data:=.fields #[.int lo t,.int hi u,.int 1 v]}).objs.size:=by simpa using g
  subst e;exact a.fpOk (nR1 _) (a.hok.fresh (nR1 _))
def Lg(ta:TA):TI:=fun σ H R=>ta σ H λvs H1=>∃j:Int,vs=[.int j] /\ -(2^62)<=j/\j<2^62/\R (LZ 0 j.toNat) H1
def Lf(ta:TA):TI:=fun σ H R=>ta σ H λvs H1=>∃i j:Int,vs=[.int i,.int j]/\(-(2^62)<=i/\i<2^62 /\ -(2^62)<=j/\j<2^62)/\R (LZ i (j-i).toNat) H1
theorem zp {a:Expr}{ta:TA}{p pos:Pos}(hg:Gl X "range")(hm:X.mg "range"=Y)(ha:PA X [a] ta)(hs:autoParam (c9 [a] X.env=[(J,eval a X.env)]) cu0):PI X tg (.Call (.Name "range" p) [a] [] pos) (Lg ta):=by
 intro ag s σ H R I h;refine Call_ (j8 I hg hm boot_range (PyProof.Rows.callWith_type1 (fe (ha pos ag s σ H _ I h) λk i ⟨vs,H1,c,f,b⟩=>?_) hs O));obtain⟨j,e,b,g,q⟩:=b;subst e;cases f with
 |cons r d=>
  cases d;obtain⟨t,rfl⟩:=r;exact call_range_1 (uL c (by lia) (by lia) b g (by simpa using q))
theorem zo {a b:Expr}{ta:TA}{p pos:Pos}(hg:Gl X "range")(hm:X.mg "range"=none)(ha:PA X [a,b] ta)(hs:autoParam (c9 [a,b] X.env=[(false,eval a X.env),(false,eval b X.env)]) cu0)(hs2:autoParam (c9 [b] X.env=[(false,eval b X.env)]) cu0):
  PI X tg (.Call (.Name "range" p) [a,b] [] pos) (Lf ta):=by
 intro ag s σ H R I h;refine Call_ (j8 I hg hm boot_range (PyProof.Rows.callWith_type1 (fe (ha pos ag s σ H _ I h) λv u ⟨vs,H1,f,l,c⟩=>?_) (by rw[hs,hs2]) (by rw[hs2];rfl)));obtain⟨i,j,e,⟨c,m,g,k⟩,q⟩:=c;subst e;cases l with
 |cons r d=>
  cases d with
  |cons n d=>
   cases d;obtain⟨t,rfl⟩:=r;obtain⟨o,rfl⟩:=n;exact call_range_2 (uL f c m g k q)
def Ki(wi:TI)(g:TG)(tb:TS):TS:=λD σ H=>wi σ H λam H1=>∃W:Nat->Nat->St->Hp->Prop,(∃m,W 0 m σ H1) /\ ∀i m σ H,W i m σ H ->
 (am.stop i H/\D.nx σ H)\/(am.go i H /\ ∃N:St->Hp->Prop,(∀ σ' H',N σ' H' -> ∃m',m'<m/\W (i+1) m' σ' H') /\ ∀x H',am.yld i H x H'->g x σ H' fun σ2 H2=>tb {D with nx:=N,ct:=N,bk:=D.nx} σ2 H2)
def pc(fp:List c4)(h:df):List (c4×Obj):=fp.filterMap λb=>(h.get? b).map λo=>(b,o)
theorem jI{a:List c4}{h:df}{b:c4}{o:Obj}(hb:b∈a)(e:h.get? b=Z o):(b,o)∈pc a h:=aM.mpr ⟨b,hb,by rw[e];rfl⟩
theorem zt{a:List c4}{h:df}{p:c4×Obj}(hp:p∈pc a h):p.1∈a/\h.get? p.1=Z p.2:=by
 obtain⟨b,c,e⟩:=aM.mp hp;cases q:h.get? b with
 |none=>rw[q]at e;cases e
 |some o=>
  rw[q]at e;have d:(b,o)=p:=Option.some.inj e;subst d;exact⟨c,q⟩
theorem Inv.pinned{ag:List (c4×Obj)}{σ:St}{H:Hp}{s:c3}{a:List c4}(I:Inv X ag σ H s)(hf:∀b∈a,k4 X ag H b)(ho:∀b∈a,∃o,s.heap.get? b=Z o /\ ∀v,o.data ≠ .cell v):Inv X (ag++pc a s.heap) σ H s:=
 I.pins_of λp h=>(aF.mp h).elim (λz=>I.pin p (mA1 _ z)) λz=>by
  obtain⟨c,e⟩:=zt z;obtain⟨i,j,g,_⟩:=hf p.1 c;obtain⟨o,f,d⟩:=ho p.1 c;rw[e]at f;cases f;exact⟨e,i,j,g,d⟩
theorem Inv.unpinned{ag pl:List (c4×Obj)}{σ:St}{H:Hp}{s:c3}(I:Inv X (ag++pl) σ H s):Inv X ag σ H s:=I.pins_of λp a=>I.pin p (mA1 _ (aG _ a))
theorem Hr{iter:Expr}{t:List di}{wi:TI}{g:TG}{tb:TS}{pos:Pos}(hp:PassesOwn (model X.prog X.w) X.A X.env X.xe)(hc:X.calm=M)(hi:PI X tg iter wi)(hg:PG X tg g)(hb:v6 X t tb)(hs:autoParam (∀x,foldedSetIterable iter X.env x=pure x) du0):PS X (.For tg iter t [] pos) (Ki wi g tb):=by
 intro ag s σ H D I h;refine wpAny_For (fe (hi ag s σ H _ I h) λv s1 h1=>fe h1 λitv s2 h2=>?_) hs;obtain⟨it,E,R,am,H2,e,I2,T,P,U,W,⟨m0,w0⟩,A⟩:=h2;subst e
 -- what stays M of the iterator's objects through the loop
 have q:∀{H':Hp},(∀b∈E,H' b=Y) -> ∀b∈E,k4 X ag H' b:=λhn b hb=>⟨hn b hb,(U b hb).2⟩;refine codeAny_forLoop_any (λn s'=>∃i j H',Inv X ag j H' s'/\R i s'.heap/\(∀b∈E,H' b=Y)/\W i n j H') ?_ m0 ⟨0,σ,H2,I2,P,λb hb=>(U b hb).1,w0⟩;rintro n S ⟨i,l,G,wq,F,C,w3⟩;rcases A i n l G w3 with⟨z,qn⟩|⟨go,N,hN,step⟩
 ·refine wpAny_passesOwn hp (fe (T.done X O O O hc i ag S l G X.xe wq (q C) F z) λr s4 ⟨Q,I4⟩=>?_);subst Q;exact wpAny_execs_nil ⟨l,G,I4,qn⟩
 ·refine wpAny_passesOwn hp (fe (T.item X rfl rfl rfl hc i ag S l G X.xe wq (q C) F go) fun r s4 ⟨u,Q,h4⟩=>?_);subst Q;refine wpAny_passesOwn hp (fe h4 fun _ V ⟨x,aq,I5,r5,y5,y,L⟩=>?_);have ao:=I5.pinned (q L) (T.obj _ _ y);refine wpAny_passesOwn hp (fe (hg _ V l aq x u _ ao r5 (step x aq y5)) fun _ s6 ⟨K,H6,I6,q6⟩=>?_);refine wpAny_passesOwn hp (fe (hb _ s6 K H6 _ I6 q6) fun f au w=>?_);have c:∀ {a:St} {k:Hp},Inv X (ag++pc E V.heap) a k au->N a k -> ∃ m,m<n /\ ∃ i j H',Inv X ag j H' au/\R i au.heap/\(∀ b∈E,H' b=none)/\W i m j H':=fun {a k} p B=>by
   obtain⟨m',hm,w7⟩:=hN a k B;refine⟨m',hm,i+1,a,k,p.unpinned,T.keep _ _ _ y λb hb o e=>(p.pin (b,o) (mA1 _ (mA1 _ (jI hb e)))).1,λb hb=>?_,w7⟩;obtain⟨o,e,d⟩:=T.obj _ _ y b hb;exact(p.pin (b,o) (mA1 _ (mA1 _ (jI hb e)))).2.1
  cases f with
  |next=>obtain⟨a,k,p,B⟩:=w;exact c p B
  |cont=>obtain⟨a,k,p,B⟩:=w;exact c p B
  |brk=>obtain⟨a,k,p,w⟩:=w;exact⟨a,k,p.unpinned,w⟩
  |ret v=>obtain⟨x7,a,k,p,r7,w⟩:=w;exact⟨x7,a,k,p.unpinned,r7,w⟩
end
abbrev R2:=V->V->Hp->VK->Prop
def fP(X:Cx)(f:cZ->cZ->Sem cZ)(r:R2):Prop:=
 ∀(ag:List (c4×Obj)) (s:c3) (σ:St) (H:Hp) (x y:V) (v u:cZ) (Q:VK),Inv X ag σ H s->dS x v->dS y u->r x y H Q ->
  db (model X.prog X.w) X.A (f v u) (EP X ag σ Q) X.xe s
def JT(X:Cx)(f:cZ->Sem cZ)(r:V->Hp->VK->Prop):Prop:=
 ∀(ag:List (c4×Obj)) (s:c3) (σ:St) (H:Hp) (x:V) (v:cZ) (Q:VK),Inv X ag σ H s->dS x v->r x H Q ->
  db (model X.prog X.w) X.A (f v) (EP X ag σ Q) X.xe s
def eM(X:Cx)(f:cZ)(r:List V->Hp->VK->Prop):Prop:=
 ∀(ag:List (c4×Obj)) (s:c3) (σ:St) (H:Hp) (xs:List V) (us:List cZ) (Q:VK),Inv X ag σ H s->d4 xs us->r xs H Q ->
  db (model X.prog X.w) X.A (call f us) (EP X ag σ Q) X.xe s
def No(X:Cx)(r:V->Hp->(Bool->Hp->Prop)->Prop):Prop:=
 ∀(ag:List (c4×Obj)) (s:c3) (σ:St) (H:Hp) (x:V) (v:cZ) (Q:Bool->Hp->Prop),Inv X ag σ H s->dS x v->r x H Q ->
  db (model X.prog X.w) X.A (truthy v) (TP X ag σ Q) X.xe s
def Ke(r:R2)(ta tb:TE):TE:=fun σ H Q=>ta σ H λx H1=>tb σ H1 λy H2=>r x y H2 Q
def Ny(r:V->Hp->VK->Prop)(ta:TE):TE:=fun σ H Q=>ta σ H λx H1=>r x H1 Q
def rI(C:Int->Int->Prop)(g:Int->Int->V):R2:=λx y H Q=>∃i j,x = .int i/\y = .int j/\C i j/\Q (g i j) H
def Ds(g:Int->Int->V):R2:=λx y H Q=>∃i j,x = .int i/\y = .int j/\Q (g i j) H
def rU(g:Int->V):V->Hp->VK->Prop:=λx H Q=>∃i,x = .int i/\Q (g i) H
section
variable{a b c:Expr}{ta tb tc:TE}{pos:Pos}
theorem Jw(ha:PE X a ta)(hb:PE X b tb){ag:List (c4×Obj)}{s:c3}{σ:St}{H:Hp}{R:V->V->Hp->Prop}(I:Inv X ag σ H s)(h:ta σ H fun x H1=>tb σ H1 fun y H2=>R x y H2){Q:cZ->c3->Prop}{f:cZ->cZ->Sem cZ}(hf:∀v u e x y H2,Inv X ag σ H2 e->dS x v->dS y u->R x y H2->db (model X.prog X.w) X.A (f v u) Q X.xe e):
  db (model X.prog X.w) X.A (eval a X.env) (λv c=>db (model X.prog X.w) X.A (eval b X.env) (λu d=>db (model X.prog X.w) X.A (f v u) Q X.xe d) X.xe c) X.xe s:=by
 refine fe (ha ag s σ H _ I h) λv i ⟨x,H1,g,l,j⟩=>?_;refine fe (hb ag i σ H1 _ g j) λu e ⟨y,H2,k,r2,m⟩=>?_;exact hf v u e x y H2 k l r2 m
theorem KC{op:Operator}{r:R2}(ho:fP X (binaryOp op) r)(ha:PE X a ta)(hb:PE X b tb):PE X (.BinOp a op b pos) (Ke r ta tb):=by
 intro ag s σ H Q I h;exact wpAny_BinOp (Jw ha hb I h λv u f x y H2 e c d q=>ho ag f σ H2 x y v u Q e c d q)
theorem KB{op:UnaryOp}{r:V->Hp->VK->Prop}(ho:JT X (unaryOp op) r)(ha:PE X a ta):PE X (.UnaryOp op a pos) (Ny r ta):=by
 intro ag s σ H Q I h;exact UnaryOp_ (fe (ha ag s σ H _ I h) λv d ⟨x,H1,b,e,c⟩=>ho ag d σ H1 x v Q b e c)
theorem opI{f:cZ->cZ->Sem cZ}{C:Int->Int->Prop}{g:Int->Int->Int}(a:∀(i j:Int) (t u:Tok) (s:c3) (Q:cZ->c3->Prop) (E:cZ->c3->Prop),C i j->Q (.int (g i j) s.toks) {s with toks:=s.toks+1}->db (model X.prog X.w) X.A (f (.int i t) (.int j u)) Q E s):
  fP X f (rI C λi j=>.int (g i j)):=by
 intro ag s σ H x y v u Q I b d h;obtain⟨i,j,rfl,rfl,hc,q⟩:=h;obtain⟨t,rfl⟩:=b;obtain⟨c,rfl⟩:=d;exact a i j t c s _ _ hc ⟨.int (g i j),H,I.tok _,⟨_,O⟩,q⟩
theorem Es{f:cZ->cZ->Sem cZ}{g:Int->Int->Int}(a:∀(i j:Int) (t u:Tok) (s:c3) (Q:cZ->c3->Prop) (E:cZ->c3->Prop),Q (.int (g i j) s.toks) {s with toks:=s.toks+1}->db (model X.prog X.w) X.A (f (.int i t) (.int j u)) Q E s):
  fP X f (Ds λi j=>.int (g i j)):=by
 intro ag s σ H x y v u Q I b d h;obtain⟨i,j,rfl,rfl,q⟩:=h;obtain⟨t,rfl⟩:=b;obtain⟨c,rfl⟩:=d;exact a i j t c s _ _ ⟨.int (g i j),H,I.tok _,⟨_,O⟩,q⟩
theorem HY{f:cZ->cZ->Sem cZ}{g:Int->Int->Bool}(a:∀(i j:Int) (t u:Tok) (s:c3) (Q:cZ->c3->Prop) (E:cZ->c3->Prop),Q (.bool (g i j)) s->db (model X.prog X.w) X.A (f (.int i t) (.int j u)) Q E s):
  fP X f (Ds λi j=>.bl (g i j)):=by
 intro ag s σ H x y v u Q I b d h;obtain⟨i,j,rfl,rfl,q⟩:=h;obtain⟨t,rfl⟩:=b;obtain⟨c,rfl⟩:=d;exact a i j t c s _ _ ⟨.bl (g i j),H,I,O,q⟩
def L1(i j:Int):Prop:=0<j/\j<1073741824
def F9(i j:Int):Prop:=0<=j/\j<=1000000/\i.natAbs<2^64
theorem wm(k:Nat):(0:Int)<=2^k:=by
 rw[two_pow_cast];exact Int.natCast_nonneg _
theorem HX:fP X (binaryOp .Add) (Ds λi j=>.int (i+j)):=Es λ_ _ _ _ _ _ _ q=>add_int q
theorem HL:fP X (binaryOp .Sub) (Ds λi j=>.int (i-j)):=Es λ_ _ _ _ _ _ _ q=>sub_int q
theorem Ep:fP X (binaryOp .FloorDiv) (rI L1 λi j=>.int (i/j)):=opI λi j _ _ _ _ _ hc q=>by
 have h1:(0:Int)<j:=hc.1;have h2:j<1073741824:=hc.2;exact floordiv_int (by lia) (by rw[Int.fdiv_eq_ediv_of_nonneg i (by lia)];exact q) (.inl (PyProof.noPylong_small (by lia)))
theorem HR:fP X (binaryOp .Mod) (rI (λ_ j=>0<j) λi j=>.int (i%j)):=opI λi j _ _ _ _ _ hc q=>by
 have h1:(0:Int)<j:=hc;exact mod_int' (by lia) (by rw[Int.fmod_eq_emod_of_nonneg i (by lia)];exact q)
theorem HQ:fP X (binaryOp .Pow) (rI F9 λi j=>.int (i^j.toNat)):=opI λ_ _ _ _ _ _ _ hc q=>pow_int_small hc.1 hc.2.1 hc.2.2 q
theorem HN:fP X (binaryOp .LShift) (rI F9 λi j=>.int (i*2^j.toNat)):=opI λ_ _ _ _ _ _ _ hc q=>lshift_int_small hc.1 hc.2.1 hc.2.2 q
theorem HM:fP X (binaryOp .RShift) (rI (λ_ j=>0<=j) λi j=>.int (i/2^j.toNat)):=opI λi j _ _ _ _ _ hc q=>
 rshift_int hc (by rw[Int.fdiv_eq_ediv_of_nonneg i (wm _)];exact q)
theorem HW:fP X (binaryOp .BitAnd) (Ds λi j=>.int (Builtin.bitAnd i j)):=Es λ_ _ _ _ _ _ _ q=>and_int q
theorem Fe:fP X (inplaceOp .Add) (Ds λi j=>.int (i+j)):=Es λ_ _ _ _ _ _ _ q=>iadd_int q
theorem N0{f:cZ->Sem cZ}{g:Int->Int}(a:∀(i:Int) (t:Tok) (s:c3) (Q:cZ->c3->Prop) (E:cZ->c3->Prop),Q (.int (g i) s.toks) {s with toks:=s.toks+1}->db (model X.prog X.w) X.A (f (.int i t)) Q E s):
  JT X f (rU λi=>.int (g i)):=by
 intro ag s σ H x v Q I b h;obtain⟨i,rfl,q⟩:=h;obtain⟨t,rfl⟩:=b;exact a i t s _ _ ⟨.int (g i),H,I.tok _,⟨_,O⟩,q⟩
theorem GQ:JT X (unaryOp .USub) (rU λi=>.int (-i)):=N0 λ_ _ _ _ _ q=>neg_int q
theorem CS{ag:List (c4×Obj)}{σ:St}{H:Hp}{s:c3}{Q:VK}{k k':Bool}(I:Inv X ag σ H s)(q:Q (.bl k) H)(e:k=k'):EP X ag σ Q (.bool k') s:=by
 subst e;exact⟨.bl k,H,I,O,q⟩
theorem KH:fP X (compareOp .LtE) (Ds λi j=>.bl (decide (i<=j))):=HY λ_ _ _ _ _ _ _ q=>le_int q
theorem KI:fP X (compareOp .Gt) (Ds λi j=>.bl (decide (j<i))):=HY λ_ _ _ _ _ _ _ q=>gt_int q
theorem KJ:fP X (compareOp .GtE) (Ds λi j=>.bl (decide (j<=i))):=HY λ_ _ _ _ _ _ _ q=>ge_int q
theorem HU:fP X (compareOp .Is) (λx y H Q=>y = .non/\Q (.bl (decide (x = .non))) H):=by
 intro ag s σ H x y v u Q I a b h;obtain⟨rfl,q⟩:=h;cases b;refine is_none_gen (CS I q ?_);cases x<;>first
  |(cases a;rfl)
  |(obtain⟨t,rfl⟩:=a;rfl)
theorem Eo:fP X (compareOp .IsNot) (λx y H Q=>y = .non/\Q (.bl (!decide (x = .non))) H):=by
 intro ag s σ H x y v u Q I a b h;obtain⟨rfl,q⟩:=h;cases b;refine isnot_none_gen (CS I q ?_);cases x<;>first
  |(cases a;rfl)
  |(obtain⟨t,rfl⟩:=a;rfl)
theorem BX(b:Expr){op:CmpOp}(h:autoParam (op ≠ .In) bu0)(h2:autoParam (op ≠ .NotIn) bu0):behindInMarks op b=J:=by
 have a:(op == CmpOp.In)=J:=by cases op<;>first|rfl|exact absurd rfl h
 have c:(op == CmpOp.NotIn)=J:=by cases op<;>first|rfl|exact absurd rfl h2
 cases b<;>simp[behindInMarks,a,c]
theorem Ek{op:CmpOp}{r:R2}(ho:fP X (compareOp op) r)(ha:PE X a ta)(hb:PE X b tb)(hm:behindInMarks op b=J):PE X (.Compare a [op] [b] pos) (Ke r ta tb):=by
 intro ag s σ H Q I h;exact wpAny_Compare1 (Jw ha hb I h λv u f x y H2 e c d q=>ho ag f σ H2 x y v u Q e c d q) hm
def J9(t:TE):TT:=fun σ H Q=>t σ H λx H'=>∃k,x = .bl k/\Q k H'
theorem D4{op:CmpOp}{r:R2}(ho:fP X (compareOp op) r)(ha:PE X a ta)(hb:PE X b tb)(hm:behindInMarks op b=J):PT X (.Compare a [op] [b] pos) (J9 (Ke r ta tb)):=by
 intro ag s σ H Q I h;refine wpAny_isTrue_Compare1 (fe (ha ag s σ H _ I h) λv l ⟨x,H1,d,p,m⟩=>fe (hb ag l σ H1 _ d m) λu g ⟨y,H2,o,r2,q⟩=>
  fe (ho ag g σ H2 x y v u _ o p r2 q) λc t ⟨z,f,j,i,k,e,n⟩=>?_) hm
 subst e;cases i;exact wpAny_truthy_bool ⟨f,j,n⟩
def AY(r r':R2)(ta tb tc:TE):TE:=fun σ H Q=>ta σ H λx H1=>tb σ H1 λy H2=>r x y H2 λz H3=>∃k,z = .bl k /\
 (if k=M then tc σ H3 λw' H4=>r' y w' H4 Q else Q (.bl J) H3)
theorem BE{op op':CmpOp}{r i:R2}(ho:fP X (compareOp op) r)(ho':fP X (compareOp op') i)(ha:PE X a ta)(hb:PE X b tb)(hc:PE X c tc)(hm:lastMarks [op,op'] [b,c]=J:=by with_unfolding_all rfl):PE X (.Compare a [op,op'] [b,c] pos) (AY r i ta tb tc):=by
 intro ag s σ H Q I h;refine Compare_chain (fe (ha ag s σ H _ I h) λv B ⟨x,H1,w,n,C⟩=>chain_link (fe (hb ag B σ H1 _ w C) λu l ⟨y,H2,am,r2,F⟩=>
  fe (ho ag l σ H2 x y v u _ am n r2 F) λd q ⟨z,g,j,m,k,e,f⟩=>?_)) hm
 subst e;cases m;refine wpAny_truthy_bool ?_;cases k with
 |false=>exact ite_ff ⟨.bl J,g,j,O,f⟩
 |true=>exact ite_tt (chain_last (fe (hc ag q σ g _ j f) λt G ⟨A,D,o,p,E⟩=>ho' ag G σ D y A u t Q o r2 p E))
def F4(K:Fg1)(x:V)(H:Hp)(k:Bool):Prop:=
 match x with
 | .non=>k=J
 | .bl b=>k=b
 | .int i=>k=(i != 0)
 | .str y=>y.length<=da/\k=((y.length:Int) != 0)
 | .byt y=>y.size<=da/\k=((y.size:Int) != 0)
 | .ref p=>(∃xs,m4 K H p xs/\k = !xs.isEmpty)\/(∃xs,kS K H p xs/\k = !xs.isEmpty) \/ ∃kvs,H p=Z (.dK kvs)/\k = !kvs.isEmpty
 |_=>False
theorem wZ{κ:Type}{kvs:List (κ×V)}{vs:List (κ×cZ)}(r:KV kvs vs):(!vs.isEmpty) = !kvs.isEmpty:=by
 cases r<;>rfl
theorem pG{xs:List V}{its:List cZ}(r:d4 xs its):(!its.toArray.isEmpty) = !xs.isEmpty:=by
 cases r<;>simp
theorem mM:(da:Nat)<2^63:=by rw[sizeLine_eq];decide
theorem GU:No X (λx H Q=>∃k,F4 X.K x H k/\Q k H):=by
 intro ag s σ H x v Q I d h;obtain⟨k,e,q⟩:=h;have o:=mM;have u:da=16777216:=sizeLine_eq;cases x with
 |non=>
  cases d;have a:k=J:=e;subst a;exact truthy_none ⟨H,I,q⟩
 |bl b=>
  cases d;have a:k=b:=e;subst a;exact wpAny_truthy_bool ⟨H,I,q⟩
 |int i=>
  obtain⟨t,rfl⟩:=d;have a:k=(i != 0):=e;subst a;exact PySem.P.truthy_int ⟨H,I,q⟩
 |str y=>
  obtain⟨t,rfl⟩:=d;obtain⟨n,a⟩:y.length<=da/\k=((y.length:Int) != 0):=e;subst a;exact PySem.P.truthy_str (by lia) ⟨H,I.tok _,q⟩
 |byt y=>
  obtain⟨t,rfl⟩:=d;obtain⟨n,a⟩:y.size<=da/\k=((y.size:Int) != 0):=e;subst a;exact PySem.W.truthy_bytes (by lia) ⟨H,I.tok _,q⟩
 |ref p=>
  cases d;have a:(∃xs,m4 X.K H p xs/\k = !xs.isEmpty)\/(∃xs,kS X.K H p xs/\k = !xs.isEmpty) \/ ∃kvs,H p=Z (.dK kvs)/\k = !kvs.isEmpty:=e;rcases a with⟨xs,f,a⟩|⟨xs,f,a⟩|⟨kvs,f,a⟩
  ·subst a;obtain⟨g,r,pl,j⟩:=I.list f;have c:=r.length;exact wpAny_truthy_list pl.isList (by simp only[sT1];lia) ⟨H,I.tok _,by rw[pG r];exact q⟩
  ·subst a;obtain⟨g,r,pl,j⟩:=I.tuple f;have c:=r.length;exact truthy_tuple pl (by simp only[sT1];lia) ⟨H,I.tok _,by rw[pG r];exact q⟩
  ·subst a;obtain⟨j,l,vs,r,m⟩:kvs.length<=da/\(p == sysModules)=false /\ ∃vs,KV kvs vs/\s.heap.DictOf (eE X.prog X.w) p vs:=I.hok p _ f;have c:kvs.length=vs.length:=Paired.length r;exact wpAny_truthy_dict l m (by lia) ⟨H,I.tok _,by rw[wZ r];exact q⟩
 |_=>exact(show False from e).elim
theorem Bn(ha:PE X a ta)(he:∀ b,isTrue a X.env b=(do let v<-b;standAt a.pos;holding [v] (truthy v))):
  PT X a (fun σ H Q=>ta σ H λx H'=>∃k,F4 X.K x H' k/\Q k H'):=by
 intro ag s σ H Q I h;exact isTrue_plain (fe (ha ag s σ H _ I h) λv e ⟨x,H1,c,f,d⟩=>GU ag e σ H1 x v Q c f d) (he _)
theorem wI:fP X (binaryOp .Add) (λx y H Q=>∃i j,x = .str i/\y = .str j/\i.length+j.length<=da/\Q (.str (i++j)) H):=by
 intro ag s σ H x y v u Q I a c h;obtain⟨i,j,rfl,rfl,b,q⟩:=h;obtain⟨t,rfl⟩:=a;obtain⟨d,rfl⟩:=c;exact add_str (λd tk=>⟨.str (i++j),H,I.tok _,⟨_,O⟩,q⟩) b
theorem io{x:V}{a:List cZ}(r:d4 [x] a):∃u,a=[u]/\dS x u:=by
 cases r with
 |cons b r2=>cases r2;exact⟨_,O,b⟩
theorem AJ{x y:V}{a:List cZ}(r:d4 [x,y] a):∃u w',a=[u,w']/\dS x u/\dS y w':=by
 cases r with
 |cons c r2=>
  cases r2 with
  |cons d b=>cases b;exact⟨_,_,O,c,d⟩
theorem Aj(hc:X.calm=M):eM X (.builtin "max") (λxs H Q=>∃i j,xs=[.int i,.int j]/\Q (.int (if j>i then j else i)) H):=by
 intro ag s σ H xs c Q I r h;obtain⟨i,j,rfl,q⟩:=h;obtain⟨u,b,rfl,⟨t,rfl⟩,⟨d,rfl⟩⟩:=AJ r;refine max_two_ints (I.ok.hd hc) λh' tk k=>⟨_,H,I.kept k,?_,q⟩;by_cases a:j>i
 ·rw[ak a,ak a];exact⟨_,O⟩
 ·rw[aj a,aj a];exact⟨_,O⟩
theorem Ai(hc:X.calm=M):eM X (.builtin "min") (λxs H Q=>∃i j,xs=[.int i,.int j]/\Q (.int (if j<i then j else i)) H):=by
 intro ag s σ H xs c Q I r h;obtain⟨i,j,rfl,q⟩:=h;obtain⟨u,b,rfl,⟨t,rfl⟩,⟨d,rfl⟩⟩:=AJ r;refine min_two_ints (I.ok.hd hc) λh' tk k=>⟨_,H,I.kept k,?_,q⟩;by_cases a:j<i
 ·rw[ak a,ak a];exact⟨_,O⟩
 ·rw[aj a,aj a];exact⟨_,O⟩
theorem sn:eM X (.type "int") (λxs H Q=>(∃i,xs=[.int i]/\Q (.int i) H) \/ ∃k,xs=[.bl k]/\Q (.int (if k then 1 else 0)) H):=by
 intro ag s σ H xs b Q I r h;rcases h with⟨i,rfl,q⟩|⟨k,rfl,q⟩
 ·obtain⟨u,rfl,t,rfl⟩:=io r;exact call_int_int ⟨.int i,H,I,⟨_,O⟩,q⟩
 ·obtain⟨u,rfl,a⟩:=io r;cases a;exact call_int_bool ⟨.int (if k then 1 else 0),H,I.tok _,⟨_,O⟩,q⟩
theorem tY:eM X (.type "str") (λxs H Q=>∃i,xs=[.int i]/\i.natAbs.log2<1920/\Q (.str (toString i)) H):=by
 intro ag s σ H xs b Q I r h;obtain⟨i,rfl,a,q⟩:=h;obtain⟨u,rfl,t,rfl⟩:=io r;exact PySem.P.str_of_int a ⟨.str _,H,I.tok _,⟨_,O⟩,q⟩
end
structure JK (h:df)(x dx C:c4)(mA:Str->Option cZ):Prop where
 obj:h.get? x=some (PySem.W.instObj C dx)
 ns:h.Ns1 dx mA
 ne:dx≠x
theorem zD{h:df}{dx:c4}{mA:Str->Option cZ}(n:h.Ns1 dx mA):∃c,h.get? dx=Z c /\ ∀name,PySem.W.lookIn name c=Z (mA name):=by
 obtain⟨o,es,ep,g,j,k,_,i⟩:=n;refine⟨o,g,λname=>?_⟩;have e:=i name;unfold nsFind findBy at e;rw[<- Array.find?_toList]at e;unfold PySem.W.lookIn;rw[j];dsimp only;split
 ·rename_i y q;rw[q]at e;exact congrArg Z e
 ·rename_i q;rw [q] at e;have a:es.toList.any (·.refKey)=false:=by
   rw[List.any_eq_false];intro y f;obtain⟨z,t,b⟩:=k y (Array.mem_toList_iff.mp f);simp[DictEntry.refKey,b]
  have d:¬ es.toList.any (·.refKey)=M:=by rw[a];exact aK
  rw[aj d];exact congrArg Z e
theorem JK.look{h:df}{x dx C:c4}{mA:Str->Option cZ}(I:JK h x dx C mA):∃a,PySem.W.InstAt h x (PySem.W.instObj C dx) C (Z a) /\ ∀name,PySem.W.lookIn name a=Z (mA name):=
 let ⟨a,ho,hl⟩:=zD I.ns
 ⟨a,⟨I.obj,O,O,ho⟩,hl⟩
section
variable{prog:c5}{w:c7}{A:c6}{E:cZ->c3->Prop}{s:c3}{K:Fg1}{x dx C f:c4}{mA:Str->Option cZ}{name:Str}{v:cZ}
end
theorem m5.some_of{v:V}{o:Option cZ}(r:m5 (Z v) o):∃u,o=Z u/\dS v u:=by
 cases o with
 |none=>exact(show False from r).elim
 |some u=>exact⟨u,O,r⟩
section
variable{P:c5}{w:c7}{H H':Hp}{h h':df}{a C dx:c4}{fs fs':List (Str×V)}
theorem Fg(b:lK P w H h)(e:H a=Z (.ins C dx fs)):∃mA,JK h a dx C mA/\(∀f,m5 (fs.lookup f) (mA f))/\PySem.Within mA (fs.map (·.1))/\fs.length<=1000/\H dx=Z (.own a):=by
 obtain⟨d,z,ne,c,mA,n,r,q⟩:=(show eL P w H h a (.ins C dx fs)from b a _ e);exact⟨mA,⟨c,n,ne⟩,r,q,z,d⟩
end
structure Nw (K:Fg1)(C:c4):Prop where
 pg:PySem.W.plainGet K C Str.empty=true
 hd:PySem.W.hasDictIn K C=true
 po:PySem.W.plainOver K C=true
 sa:PySem.W.findIn K (.ref C) "__setattr__"=some (some (.builtin "object.__setattr__"))
theorem Nw.get{K:Fg1}{C:c4}(c:Nw K C)(f:Str):PySem.W.plainGet K C f=M:=c.pg
section
variable{ag:List (c4×Obj)}{σ:St}{H:Hp}{s:c3}{a C dx:c4}{fs:List (Str×V)}{f:Str}{v:V}{A:c6}{E:cZ->c3->Prop}
end
section
variable{o e value:Expr}{f:Str}{pos pos' tpos:Pos}{ta tv:TE}
end
section
variable{ag:List (c4×Obj)}{σ:St}{H:Hp}{s:c3}{A:c6}{E:cZ->c3->Prop}{Q:cZ->c3->Prop}{c:cZ}{b:Bool}
inductive nX (K:Fg1)(H:Hp):V->cZ->Prop where
 |non:nX K H .non (.type "NoneType")
 |bl (x:Bool):nX K H (.bl x) (.type "bool")
 |int (i:Int):nX K H (.int i) (.type "int")
 |str (x:Str):nX K H (.str x) (.type "str")
 |flt (x:UInt64):nX K H (.flt x) (.type "float")
 |lst {a:c4} {xs:List V} (e:H a=some (.lst xs)):nX K H (.ref a) (.type "list")
 |frz {a:c4} {o:Obj} {xs:List V} (e:H a=some (.frz o (.lst xs))):nX K H (.ref a) (.type "list")
 |tup {a:c4} {xs:List V} (e:H a=some (.tup xs)):nX K H (.ref a) (.type "tuple")
 |dK {a:c4} {kvs:List (Key×V)} (e:H a=some (.dK kvs)):nX K H (.ref a) (.type "dict")
 |dT {a:c4} {kvs:List (List Key×V)} (e:H a=some (.dT kvs)):nX K H (.ref a) (.type "dict")
 | ins {a C dx:c4} {fs:List (Str×V)} (e:H a=some (.ins C dx fs)) (cl:Nw K C) (ha:PySem.W.findIn K (.ref C) "__class__"=some (some (.builtin "object.__class__")))
   (hn:PySem.W.specialIn K (.builtin "object.__class__") "__get__"=some (some (.builtin "getset_descriptor.__get__"))) (htk:PySem.W.takesIn K (.builtin "object.__class__")=some true)
   (hm:PySem.W.mroIn K C (.type "object")=some true):nX K H (.ref a) (.ref C)
theorem ju{x:V}{u t:cZ}(I:Inv X ag σ H s)(d:dS x u)(ty:nX X.K H x t)(e:PySem.W.kitOne X.K t c=some b)(h:∀ tk,Q (.bool b) {s with toks:=tk}):
  db (model X.prog X.w) A (call (.builtin "isinstance") [u,c]) Q E s:=by
 cases ty with
 |non=>cases(show u=Value.none from d);exact PySem.W.kia_one PySem.W.kitx_none I.kIn True.intro e (λz=>nomatch z) h
 |bl y=>cases(show u=Value.bool y from d);exact PySem.W.kia_one PySem.W.kitx_bool I.kIn True.intro e (λz=>nomatch z) h
 |int i=>obtain⟨t,q⟩:=(show∃t,u=Value.int i t from d);cases q;exact PySem.W.kia_one PySem.W.kitx_int I.kIn True.intro e (λz=>nomatch z) h
 |str y=>obtain⟨t,q⟩:=(show∃t,u=Value.str y t from d);cases q;exact PySem.W.kia_one PySem.W.kitx_str I.kIn True.intro e (λz=>nomatch z) h
 |flt y=>obtain⟨t,q⟩:=(show∃t,u=Value.float y t from d);cases q;exact PySem.W.kia_one PySem.W.kitx_float I.kIn True.intro e (λz=>nomatch z) h
 | @lst a xs f=>
  cases(show u=Value.ref a from d);obtain⟨_,_,n,_,h1⟩:=(show eL X.prog X.w H s.heap a (.lst xs)from I.hok a _ f);exact PySem.W.kia_one PySem.W.kitx_list I.kIn ⟨_,h1,O⟩ e (λz=>nomatch z) h
 | @frz a m xs f=>
  cases(show u=Value.ref a from d);obtain⟨_,_,_,n,_,h1⟩:=(show eL X.prog X.w H s.heap a (.frz m (.lst xs))from I.hok a _ f);exact PySem.W.kia_one PySem.W.kitx_list I.kIn ⟨_,h1,O⟩ e (λz=>nomatch z) h
 | @tup a xs f=>
  cases(show u=Value.ref a from d);obtain⟨_,_,_,p⟩:=(show eL X.prog X.w H s.heap a (.tup xs)from I.hok a _ f);obtain⟨o,h1,h2,_⟩:=p;exact PySem.W.kia_one PySem.W.kitx_tuple I.kIn ⟨o,h1,h2⟩ e (λz=>nomatch z) h
 | @dK a kvs f=>
  cases(show u=Value.ref a from d);obtain⟨_,_,vs,_,p⟩:=(show eL X.prog X.w H s.heap a (.dK kvs)from I.hok a _ f);obtain⟨o,es,ep,h1,h2,_⟩:=p;exact PySem.W.kia_one PySem.W.kitx_dict I.kIn ⟨o,h1,h2.1⟩ e (λz=>nomatch z) h
 | @dT a kvs f=>
  cases(show u=Value.ref a from d);obtain⟨_,_,xs,_,o,es,ep,h1,h2,_⟩:=(show eL X.prog X.w H s.heap a (.dT kvs)from I.hok a _ f);exact PySem.W.kia_one PySem.W.kitx_dict I.kIn ⟨o,h1,h2.1⟩ e (λz=>nomatch z) h
 | @ins a C dx fs f j r k g l=>
  cases(show u=Value.ref a from d);obtain⟨mA,au,_⟩:=Fg I.hok f;obtain⟨v,am,_⟩:=au.look;exact PySem.W.kia_one (PySem.W.kitx_own (j.get _) j.hd r k g l) I.kIn am e (λz=>nomatch z) h
end
structure ge (k:Nat)(A:c6):Prop where
 hd:A.handled=none
 dp:A.depth+3*k+5<recursionLimit
 un:A.units+16*k+200<cLine
 gd:A.guards=some []
theorem ge.mono{j k:Nat}{A:c6}(r:ge k A)(h:j<=k):ge j A:=⟨r.hd,by have:=r.dp;lia,by have:=r.un;lia,r.gd⟩
theorem ge.deeper{k:Nat}{A:c6}(r:ge (k+1) A)(env:Env):ge k (A.deeper env):=
 ⟨r.hd,by have:=r.dp;show A.depth+1+3*k+5<_;lia,by have:=r.un;show A.units+3+16*k+200<_;lia,r.gd⟩
theorem ge.depth{k:Nat}{A:c6}(r:ge k A):A.depth<recursionLimit:=by have:=r.dp;lia
theorem ge.units{k:Nat}{A:c6}(r:ge k A):A.units+64<cLine:=by have:=r.un;lia
def Mu:TA:=λ_ H Q=>Q [] H
def Kl(ta:TE)(tr:TA):TA:=fun σ H Q=>ta σ H λx H1=>tr σ H1 λxs H2=>Q (x::xs) H2
section
variable{e:Expr}{es:List Expr}{te:TE}{t:TA}{pos:Pos}
theorem pj:PA X [] Mu:=λ_ _ _ _ H Q I h=>Calls.spliced_nil ⟨[],H,I,.nil,h⟩
theorem kF(ha:PE X e te)(hr:PA X es t)(hs:autoParam (c9 (e::es) X.env=(J,eval e X.env)::c9 es X.env) cu0):PA X (e::es) (Kl te t):=by
 intro pos ag s σ H Q I h;rw[hs];show db _ _ (spliced ((J,eval e X.env)::backTo pos (c9 es X.env))) _ _ s;refine Calls.spliced_cons (fe (ha ag s σ H _ I h) λu c ⟨x,H1,a,f,b⟩=>?_);exact fe (hr pos ag c σ H1 _ a b) λj i ⟨xs,H2,d,r2,g⟩=>⟨x::xs,H2,d,.cons f r2,g⟩
def Mp(t:TA):TE:=fun σ H Q=>t σ H λxs H1=>xs.length<=da /\ ∀p,H1 p=Y->Q (.ref p) (upd H1 p (.tup xs))
def My(t:TA):TE:=fun σ H Q=>t σ H λxs H1=>xs.length<=da /\ ∀p,H1 p=Y->Q (.ref p) (upd H1 p (.lst xs))
theorem HA{x1}(h:PA X es t):PE X (.Tuple es x1 pos) (Mp t):=by
 intro ag s σ H Q I d;refine wpAny_Tuple_spliced (fe (h pos ag s σ H _ I d) λf a ⟨xs,H1,c,r,z,q⟩=>⟨by rw[<- r.length];exact z,?_⟩);have g:H1 a.heap.objs.size=Y:=c.hok.fresh (nR1 _);refine⟨.ref a.heap.objs.size,upd H1 a.heap.objs.size (.tup xs),c.laid (t':=a.toks) (λb u e=>hP1 _ e) (nR1 _) ?_,O,q _ g⟩;exact⟨z,f,r,⟨_,hS1 _ O,O,_,O⟩⟩
theorem HF(h:PA X es t):PE X (.List es pos) (My t):=by
 intro ag s σ H Q I d;refine wpAny_List_spliced (fe (h pos ag s σ H _ I d) λf a ⟨xs,H1,c,r,z,q⟩=>⟨by rw[<- r.length];exact z,?_⟩);have g:H1 a.heap.objs.size=Y:=c.hok.fresh (nR1 _);refine⟨.ref a.heap.objs.size,upd H1 a.heap.objs.size (.lst xs),c.laid (t':=a.toks) (λb u e=>hP1 _ e) (nR1 _) ?_,O,q _ g⟩;exact⟨z,f,0,r,hS1 _ O⟩
end
abbrev Sp:=List V->Hp->VK->XK->Prop
abbrev Ay:=List Env->Hp->c3->XK->cZ->c3->Prop
structure F8 (P:c5)(w:c7)(K:Fg1)(mg:Str->Option cZ)(base:df)(A:c6)(outer:List Env)(s:c3)(H:Hp):Prop where
 frames:A.frames=some outer
 mod:Mod K mg base
 bs:∀b o,base.get? b=some o->s.heap.get? b=some o/\H b=none
 bsz:base.objs.size<=s.heap.objs.size
 funs:s.heap.FunFrames base outer
 frf:∀b∈frs outer,H b=none
 hok:lK P w H s.heap
 bare:AllBare s.gens
def CE(outer:List Env)(P:c5)(w:c7)(H:Hp)(s:c3)(Q:VK)(u:cZ)(s':c3):Prop:=
 ∃v H',s'.os=s.os/\AllBare s'.gens/\Un (frs outer) [] H H' s.heap s'.heap/\lK P w H' s'.heap/\dS v u/\Q v H'
def CR(CX:Ay)(outer:List Env)(P:c5)(w:c7)(H:Hp)(s:c3)(Q:VK)(E:XK)(r:Result)(s':c3):Prop:=
 match r with
 | .ok (.ret u)=>CE outer P w H s Q u s'
 | .ok _=>False
 | .error e=>CX outer H s E e s'
structure m6 (P:c5)(w:c7)(K:Fg1)(mg:Str->Option cZ)(base:df)(CX:Ay)(k:Nat)(f:c4)(fd:dg)(ps:List Str)(sp:Sp):Prop where
 len:∀vs H Q E,sp vs H Q E->vs.length=ps.length
 run:∀(A:c6) (outer:List Env) (s:c3) (H:Hp) (args:Args) (us:List cZ) (vs:List V) (Q:VK) (E:XK),ge k A->F8 P w K mg base A outer s H->BindsTo s fd args (ps.zip us)->d4 vs us->sp vs H Q E ->
  de (model P w) A (.call (.ref f) args) (CR CX outer P w H s Q E) s
section
variable{ag:List (c4×Obj)}{σ:St}{H:Hp}{s s':c3}
theorem Inv.env0(I:Inv X ag σ H s):F8 X.prog X.w X.K X.mg X.base X.A X.stack s H:=
 ⟨I.ok.frames,I.ok.mod,I.bs,aC I.ok.bsz I.sz,I.stack,I.stkFree,I.hok,I.bare⟩
theorem Inv.after{Q:VK}{u:cZ}(I:Inv X ag σ H s)(h:CE X.stack X.prog X.w H s Q u s'):EP X ag σ Q u s':=by
 obtain⟨v,H',i,a,un,c,r,q⟩:=h;obtain⟨f,g,d,t,e⟩:=s';obtain rfl:e=s.os:=i;exact⟨v,H',I.call (h':=f) (g':=g) (d':=d) (t':=t) (ch:=[]) un c a (λb z=>absurd z (by simp)),r,q⟩
end
def Km(sp:Sp)(dvs:List V)(E:XK)(t:TA):TE:=fun σ H Q=>t σ H λvs H1=>sp (vs++dvs) H1 Q E
def ku(K:Fg1)(fd:dg)(ps:List Str)(ds:List cZ):Prop:=
 ∀(s:c3) (us:List cZ),K.In s.heap->(us++ds).length=ps.length->BindsTo s fd ⟨us,[]⟩ (ps.zip (us++ds))
theorem ku.all{K:Fg1}{fd:dg}{ps:List Str}(h:∀a:List cZ,a.length=ps.length->bindArgs fd ⟨a,[]⟩=pure (ps.zip a)):ku K fd ps []:=λs a _ b=>by
 rw[aN]at b ⊢;exact .of_eq (h a b)
def xA(CX:Ay)(X:Cx)(E:XK):Prop:=∀(ag:List (c4×Obj)) (σ:St) (H:Hp) (s:c3) (e:cZ) (s':c3),Inv X ag σ H s->CX X.stack H s E e s'->X.xe e s'
section
variable{CX:Ay}{k:Nat}{f C:c4}{fd:dg}{ps:List Str}{sp:Sp}{dvs:List V}{ds:List cZ}{E:XK}{x m:Str}{p pos apos:Pos}{e o:Expr}{es:List Expr}{ta:TE}{t:TA}
theorem Hb{ag:List (c4×Obj)}{σ:St}{H:Hp}{s:c3}{Q:VK}{a:List cZ}{vs:List V}(F:m6 X.prog X.w X.K X.mg X.base CX k f fd ps sp)(hr:ge k X.A)(hb:ku X.K fd ps ds)(hd:d4 dvs ds)(hx:xA CX X E)(I:Inv X ag σ H s)(r:d4 vs a)(h:sp (vs++dvs) H Q E):db (model X.prog X.w) X.A (call (.ref f) a) (EP X ag σ Q) X.xe s:=by
 have r2:d4 (vs++dvs) (a++ds):=r.append hd;have c:(a++ds).length=ps.length:=by rw[<- r2.length];exact F.len _ _ _ _ h
 refine wpAny_call (codeAny_mono (F.run X.A X.stack s H ⟨a,[]⟩ (a++ds) (vs++dvs) Q E hr I.env0 (hb s a I.kIn c) r2 h) λr s' b=>?_);cases r with
 |error e=>exact hx ag σ H s e s' I b
 |ok d=>
  cases d with
  |ret u=>exact I.after b
  |next=>exact False.elim b
  |brk=>exact False.elim b
  |cont=>exact False.elim b
theorem El (F:m6 X.prog X.w X.K X.mg X.base CX k f fd ps sp)(hr:ge k X.A)(hg:Gl X x)(hm:X.mg x=some (.ref f))(hk:wK1 X.K (.ref f)=true)(hb:ku X.K fd ps ds)(hd:d4 dvs ds)(hx:xA CX X E)
  (ha:PA X (e::es) t) (hdb:autoParam ((x == ("__debug__":Str))=J) bu0) (he:autoParam (c9 (e::es) X.env=(J,eval e X.env)::c9 es X.env) cu0) (hpl:autoParam ((backTo pos (c9 es X.env)).any (·.1)=J) cu0):
  PE X (.Call (.Name x p) (e::es) [] pos) (Km sp dvs E t):=by
 intro ag s σ H Q I h;refine wpAny_Call_Name_kw (yh I hg hm ?_ hdb);refine PySem.W.callWith_K (h₀:=X.base) I.ok.mod.kin hk (fe (ha pos ag s σ H _ I h) λb c ⟨vs,H1,a,r,q⟩=>⟨a.kIn,?_⟩) he hpl;exact Hb F hr hb hd hx a r q
end
section
variable{CX:Ay}{k:Nat}{f C:c4}{fd:dg}{ps ks:List Str}{sp:Sp}{E:XK}{x m:Str}{p pos apos kpos:Pos}{e o:Expr}{es:List Expr}{kws:List Keyword}{te ta:TE}{t tk:TA}{nm:Option Str}
variable{g:List cZ->List cZ->List cZ}{gV:List V->List V->List V}
end
structure hC (N P:List Str)(sc:dj):Prop where
 kind:sc.kind = .function
 co:sc.isCoroutine=false
 gen:sc.isGenerator=false
 nd:N.Nodup
 pre:N.take P.length=P
 par:∀x∈P,sc.names.lookup x=some .local\/sc.names.lookup x=some .cell
 nofree:∀y∈sc.names,y.2 ≠ .free
theorem sv{kindOf:Str->Option NameKind}{x:Str}:∀{binds:List (Str×cZ)} {m:Str->Option cZ},(∀v,(x,v)∉binds)->bindL kindOf binds m x=m x
 |[],_,_=>rfl
 |(n,v)::r,m,h=>by
  unfold bindL;rw[sv λw a=>h w (mC1 _ a)];split
  ·have:x≠n:=by rintro rfl;exact h v mS1
   simp[this]
  ·rfl
theorem sx{kindOf:Str->Option NameKind}{x:Str}:∀{binds:List (Str×cZ)} {m:Str->Option cZ},(∀v,(x,v)∉binds)->bindC kindOf binds m x=m x
 |[],_,_=>rfl
 |(n,v)::r,m,h=>by
  unfold bindC;rw[sx λw a=>h w (mC1 _ a)];split
  ·rfl
  ·have:x≠n:=by rintro rfl;exact h v mS1
   simp[this]
theorem sw{kindOf:Str->Option NameKind}{x:Str}{v:cZ}:∀ {P:List Str} {vs:List cZ} {i:Nat} {m:Str->Option cZ},P.Nodup->P[i]? = some x->vs[i]? = some v->kindOf x=some .local ->
  bindL kindOf (P.zip vs) m x=Z v
 |[],_,_,_,_,h,_,_=>by simp at h
 |_::_,[],_,_,_,_,h,_=>by simp at h
 |p::P,w::vs,0,m,nd,h1,h2,hk=>by
  simp at h1 h2;subst h1;subst h2;show bindL kindOf ((p,w)::P.zip vs) m p=_;unfold bindL;rw[sv λv a=>(aO.mp nd).1 (List.of_mem_zip a).1,ak hk];simp
 |p::P,w::vs,i+1,m,nd,h1,h2,hk=>by
  show bindL kindOf ((p,w)::P.zip vs) m x=_;unfold bindL;exact sw (i:=i) (aO.mp nd).2 (by simpa using h1) (by simpa using h2) hk
theorem sy{kindOf:Str->Option NameKind}{x:Str}{v:cZ}:∀ {P:List Str} {vs:List cZ} {i:Nat} {m:Str->Option cZ},P.Nodup->P[i]? = some x->vs[i]? = some v->kindOf x≠some .local ->
  bindC kindOf (P.zip vs) m x=Z v
 |[],_,_,_,_,h,_,_=>by simp at h
 |_::_,[],_,_,_,_,h,_=>by simp at h
 |p::P,w::vs,0,m,nd,h1,h2,hk=>by
  simp at h1 h2;subst h1;subst h2;show bindC kindOf ((p,w)::P.zip vs) m p=_;unfold bindC;rw[sx λv a=>(aO.mp nd).1 (List.of_mem_zip a).1,aj hk];simp
 |p::P,w::vs,i+1,m,nd,h1,h2,hk=>by
  show bindC kindOf ((p,w)::P.zip vs) m x=_;unfold bindC;exact sy (i:=i) (aO.mp nd).2 (by simpa using h1) (by simpa using h2) hk
def start(N:List Str)(vs:List V):St:=vs.map Z++aP (N.length-vs.length) Y
def nV(CX:Ay)(P:c5)(w:c7)(K:Fg1)(mg:Str->Option cZ)(base:df)(N:List Str)(qual:Str)(scope:dj)(f:c4)(cd:cZ)(A:c6)(outer:List Env)(s:c3)(H:Hp)(E:XK):Cx where
 prog:=P
 w:=w
 K:=K
 mg:=mg
 base:=base
 A:=A.deeper (envOfC qual scope s.heap.objs.size f cd)
 N:=N
 s₀:=s
 H₀:=H
 env:=envOfC qual scope s.heap.objs.size f cd
 outer:=outer
 stack:=envOfC qual scope s.heap.objs.size f cd::outer
 ex:=[]
 calm:=M
 fn:=λ_=>M
 pn:=[]
 xe:=λe s'=>db (model P w) (A.deeper (envOfC qual scope s.heap.objs.size f cd)) (leaving (envOfC qual scope s.heap.objs.size f cd) e) (λ_ s''=>CX outer H s E e s'') (λe' s''=>CX outer H s E e' s'') s'
theorem vN{a:dj}{n:Nat}{x:Str}(h:a.names.lookup x=Z .cell):∃c,(cellsFrom n a.names []).lookup x=Z c:=by
 have q:=PySem.W.cellsFrom_some a.names n [] (.inl h);exact aQ.mp q
theorem zI{CX:Ay}{P:c5}{w:c7}{K:Fg1}{mg:Str->Option cZ}{base:df}{N ps:List Str}{g:Str}{scope:dj}{f:c4}{B:cZ}{A:c6}{d:List Env}{s s1:c3}{H:Hp}{E:XK}{C:List cZ}{vs:List V}(S:hC N ps scope)(hd:A.handled=none)(j:F8 P w K mg base A d s H)(ao:vs.length=ps.length)(r:d4 vs C)(x:InCallC s s.heap.objs.size (bindL (envOfC g scope s.heap.objs.size f B).kindOf (ps.zip C) fun _=>none) (cellsFrom (s.heap.objs.size+1) scope.names []) (bindC (envOfC g scope s.heap.objs.size f B).kindOf (ps.zip C) fun _=>none) s1):
  Inv (nV CX P w K mg base N g scope f B A d s H E) [] (start N vs) H s1:=by
 have I:ps.length<=N.length:=by have:=congrArg List.length S.pre;rw[aR]at this;lia
 obtain⟨h1,tk,rfl,D⟩:=x.done;have l:∀b:c4,b∉(nV CX P w K mg base N g scope f B A d s H E).ex:=λb z=>absurd (show b∈([]:List c4)from z) (by simp);refine⟨⟨j.mod,S.kind,O,O,nR1 _,λy z c h1 h2=>?_,λy m=>?_,λy c _ h=>?_,λ_=>hd,Around.frames_deeper j.frames,.inr ⟨O,O⟩,λb z=>absurd z (l b),j.bs,j.bsz,λb _ _=>l b,λb z=>absurd z (l b),j.funs,j.frf⟩,
  rfl,j.bare,Un.kept D,⟨_,x.toInCall.ns,λi y v h1 h2 L=>?_⟩,λy c h=>⟨_,x.cell y c h⟩,j.hok.fresh (nR1 _),λy c h=>?_,λp t=>absurd (show p∈([]:List (c4×Obj))from t) (by simp),j.hok.kept D,?_⟩
 ·exact name_of_addr x.apart (PySem.mem_of_lookup h1) (PySem.mem_of_lookup h2)
 ·have m:scope.names.lookup y=Z .cell\/scope.names.lookup y=Z .free:=m;rcases m with m|m
  ·exact vN m
  ·exact absurd O (S.nofree _ (PySem.mem_of_lookup m))
 ·exact Nat.le_of_lt (x.above y c (PySem.mem_of_lookup h))
 ·have hi:i<vs.length:=by
   unfold start at h2;by_cases hi:i<vs.length
   ·exact hi
   ·rw[gR1 (by simpa using hi)]at h2;rw[aS]at h2;split at h2<;>cases h2
  have G:vs[i]?=Z v:=by
   unfold start at h2;rw[gL1 (by simpa using hi),gP1]at h2;cases e:vs[i]? with
   |none=>rw[e]at h2;cases h2
   |some a=>rw[e]at h2;cases h2;rfl
  obtain⟨u,F,am⟩:=r.get G;have t:ps[i]?=Z y:=by
   rw[<- S.pre,aT (by lia)];exact h1
  have o:ps.Nodup:=by rw[<- S.pre];exact S.nd.sublist (aU _ _)
  refine⟨u,am,?_⟩;rcases S.par y (gM1 t)with k|k
  ·exact .inl ⟨k,sw o t F k⟩
  ·obtain⟨c,e⟩:=vN (n:=s.heap.objs.size+1) k;refine .inr ⟨.inl k,c,e,?_⟩;have q:=x.cell y c e;rw[sy o t F (by show scope.names.lookup y≠_;rw[k];decide)]at q;exact q
 ·exact j.hok.fresh (Nat.le_of_lt (x.above y c (PySem.mem_of_lookup h)))
 ·unfold start;show _=N.length;rw[lA1,lM1,lR1];lia
theorem Ll{CX:Ay}{P:c5}{w:c7}{K:Fg1}{mg:Str->Option cZ}{base:df}{k:Nat}{f:c4}{name c:Str}{params:Arguments}{g:List di}{scope:dj}{ao kV z T d ct oc:cZ}{au W:Option c4}{F:Array (Option cZ)}{N ps:List Str}{sp:Sp}(lk:K.lookup f=some ⟨oc,W,.func (wF1 name c params g scope ao kV z T au d ct),F⟩)(hcd:wC1 K d c=true)(S:hC N ps scope)(len:∀vs H Q E,sp vs H Q E->vs.length=ps.length)(i:∀(A:c6) (a:List Env) (s:c3) (H:Hp) (vs:List V) (Q:VK) (E:XK),ge k (A.deeper (envOfC c scope s.heap.objs.size f d))->sp vs H Q E ->
   ∃t,v6 (nV CX P w K mg base N c scope f d A a s H E) g t/\t {nx:=λ_ H'=>Q .non H',rt:=Q} (start N vs) H):
  m6 P w K mg base CX (k+1) f (wF1 name c params g scope ao kV z T au d ct) ps sp:=by
 refine⟨len,λA a s H L us vs Q E G p hb r B=>?_⟩;have wq:=len _ _ _ _ B;have R:K.In s.heap:=p.mod.kin.keeps λb o e=>(p.bs b o e).1;have D:s.heap.NoLimit:=p.mod.nolimit.keeps λb o e=>(p.bs b o e).1;have j:∀y∈ps.zip us,scope.names.lookup y.1=Z .local\/(scope.names.lookup y.1=Z .cell/\((cellsFrom (s.heap.objs.size+1) scope.names []).lookup y.1).isSome=M):=λ⟨n,v⟩ aq=>by
  rcases S.par n (List.of_mem_zip aq).1 with q|q
  ·exact .inl q
  ·exact .inr ⟨q,PySem.W.cellsFrom_some _ _ _ (.inl q)⟩
 refine codeAny_call_function G.depth (R _ _ lk) O S.co S.gen O (PySem.W.codeRec_of R hcd) (hb _ _ _ _ ?_);refine wpAny_newFunctionEnv_cells S.kind j λenv X s1 x=>?_;subst X;refine⟨D.keeps x.toInCall.keep,codeAny_func ?_⟩;obtain⟨t,ht,hq⟩:=i A a s H vs Q E (G.deeper _) B;have I:Inv (nV CX P w K mg base N c scope f d A a s H E) [] (start N vs) H s1:=zI S G.hd p wq r x;refine wpAny_mono (ht [] s1 (start N vs) H _ I hq) (λU s' l=>?_) λe s' l=>l;have m:∀{h:St} {H':Hp} {v:V} {u:cZ},Inv (nV CX P w K mg base N c scope f d A a s H E) [] h H' s'->dS v u->Q v H'->CE a P w H s Q u s':=
  λ{h H' v u} am C q=>⟨v,H',am.os,am.bare,am.base,am.hok,C,q⟩
 cases U with
 |ret u=>
  obtain⟨v,h,H',am,C,q⟩:=l;exact m am C q
 |next=>
  obtain⟨h,H',am,q⟩:=l;exact m (v:=V.non) (u:=Value.none) am O q
 |brk=>
  obtain⟨_,_,_,q⟩:=l;exact False.elim q
 |cont=>
  obtain⟨_,_,_,q⟩:=l;exact False.elim q
section
variable{x:Str}{p pos:Pos}{e:Expr}{es:List Expr}{t:TA}{id T:String}{r:List V->Hp->VK->Prop}
def NA(r:List V->Hp->VK->Prop)(t:TA):TE:=fun σ H Q=>t σ H λvs H1=>r vs H1 Q
theorem pf (hc:eM X (.builtin id) r)(hg:Gl X x)(hm:X.mg x=none)(hv:bootBuiltins x=some (.builtin id))(ha:PA X (e::es) t)(hn:autoParam (x≠"__name__") bu0)(hdb:autoParam ((x == ("__debug__":Str))=false) bu0)
  (he:autoParam (c9 (e::es) X.env=(J,eval e X.env)::c9 es X.env) cu0) (hpl:autoParam ((backTo pos (c9 es X.env)).any (·.1)=J) cu0):PE X (.Call (.Name x p) (e::es) [] pos) (NA r t):=by
 intro ag s σ H Q I h;refine wpAny_Call_Name_kw (j8 I hg hm hv ?_ hn hdb);exact PyProof.Rows.callWith_builtin1 (fe (ha pos ag s σ H _ I h) λd c ⟨vs,H1,a,f,b⟩=>hc ag c σ H1 vs d Q a f b) he hpl
theorem mF (hc:eM X (.type T) r)(hg:Gl X x)(hm:X.mg x=none)(hv:bootBuiltins x=some (.type T))(ha:PA X (e::es) t)(hn:autoParam (x≠"__name__") bu0)(hdb:autoParam ((x == ("__debug__":Str))=false) bu0)
  (he:autoParam (c9 (e::es) X.env=(J,eval e X.env)::c9 es X.env) cu0) (hpl:autoParam ((backTo pos (c9 es X.env)).any (·.1)=J) cu0):PE X (.Call (.Name x p) (e::es) [] pos) (NA r t):=by
 intro ag s σ H Q I h;refine wpAny_Call_Name_kw (j8 I hg hm hv ?_ hn hdb);exact PyProof.Rows.callWith_type1 (fe (ha pos ag s σ H _ I h) λd c ⟨vs,H1,a,f,b⟩=>hc ag c σ H1 vs d Q a f b) he hpl
end
end L2
namespace HT
open PySem PyProof.Rows
section
open PySem.SeqAt
open PySem.AutoSeq1 (wpAny_loadPart')
open PySem.MeetsSeq PySem.MeetsSeq2 PySem.MeetsSeq3
end
section
variable{prog:c5}{w:c7}{A:c6}{E:cZ->c3->Prop}{s:c3}
theorem FJ {t b:c4}{vs ws:List cZ}{Q:cZ->c3->Prop}(ht:IsTup s.heap t vs.toArray)(hb:IsTup s.heap b ws.toArray)(hv:vs≠[])
  (h1:ws=[]->Q (.ref t) s) (h2:ws≠[]->Q (.ref s.heap.objs.size) {s with heap:=s.heap.push {cls:=.type "tuple",data:=.seq (vs++ws).toArray}})
  (hsz:vs.length+ws.length<=da):db (model prog w) A (binaryOp .Add (.ref t) (.ref b)) Q E s:=by
 obtain⟨⟨cls,l,data,o⟩,h,hc,n,m⟩:=id ht;obtain⟨⟨k,c,j,d⟩,a,g,p,f⟩:=id hb;simp only at hc m g f;subst hc m g f;have e:vs.toArray++ws.toArray=(vs++ws).toArray:=by simp
 by_cases i:ws=[]
 ·exact concat_meets ⟨_,h,rfl⟩ ⟨_,a,rfl⟩ noFill_tuple_add seq_tuple_add PySem.F.slot_tuple_add PySem.F.entry_tuple_add (PySem.F.args_tuple_add_2 _ _)
   (tuple_addW1 t b vs.toArray ws.toArray n p l c o d (by simpa using hv) (by simp[i])) ⟨h,a,h1 i⟩
 ·refine concat_meets ⟨_,h,rfl⟩ ⟨_,a,rfl⟩ noFill_tuple_add seq_tuple_add PySem.F.slot_tuple_add PySem.F.entry_tuple_add (PySem.F.args_tuple_add_2 _ _)
   (tuple_addW2 t b vs.toArray ws.toArray n p l c o d (by simpa using hv) (by simpa using i) (by rw[sT1,sT1];exact hsz)) ⟨h,a,?_⟩
  rw[e];exact h2 i
def sIx(n d:Nat):Option Int->Nat
 |none=>d
 |some v=>if v<0 then(v+(n:Int)).toNat else min v.toNat n
theorem uF(n d:Nat):sIx n d Y=d:=rfl
theorem oe(n d k:Nat):sIx n d (Z (k:Int))=min k n:=by
 show(if(k:Int)<0 then((k:Int)+(n:Int)).toNat else min (k:Int).toNat n)=min k n;rw[aj (by lia),Int.toNat_natCast]
theorem G9(n d:Nat)(hd:d<=n)(o:Option Int):sIx n d o<=n:=by
 cases o with
 |none=>exact hd
 |some v=>
  show(if v<0 then(v+(n:Int)).toNat else min v.toNat n)<=n;by_cases a:v<0
  ·rw[ak a];lia
  ·rw[aj a];exact Nat.min_le_right _ _
theorem yI(v:Int)(n d:Nat):(if v<0 then max (v+(n:Int)) 0 else min v (n:Int))=((sIx n d (Z v):Nat):Int):=by
 show(if v<0 then max (v+(n:Int)) 0 else min v (n:Int))=(((if v<0 then(v+(n:Int)).toNat else min v.toNat n):Nat):Int);by_cases a:v<0
 ·simp only[ak a];lia
 ·simp only[aj a];lia
theorem xp(lo hi:Option Int)(n:Nat):Builtin.Slice.sliceAdjust lo hi 1 (n:Int)=(((sIx n 0 lo:Nat):Int),((sIx n n hi:Nat):Int)):=by
 have h1:¬ ((1:Int)<0):=by lia
 unfold Builtin.Slice.sliceAdjust;simp only[h1,if_false];refine Prod.ext ?_ ?_
 ·cases lo with
  |none=>rfl
  |some v=>exact yI v n 0
 ·cases hi with
  |none=>rfl
  |some v=>exact yI v n n
theorem wB(i j:Nat):Builtin.Slice.slicePlaces (i:Int) (j:Int) 1=j-i:=by
 unfold Builtin.Slice.slicePlaces;have h1:(1:Int)>0:=by lia
 simp only[h1,if_true,Int.ediv_one];split<;>lia
theorem iH{v:cZ}{o:Option Int}{Q:Option Int->c3->Prop}(p:IsPart v o)(h:Q o s):db (model prog w) A (Builtin.Slice.slicePartIndex v) Q E s:=by
 cases p with
 |none=>exact slicePart_none h
 |int i t=>exact slicePart_int h
theorem jj{sl:c4}{c d:cZ}{lo hi:Option Int}{n:Nat}{Q:Int×Int×Nat->c3->Prop}(hs:s.heap.IsSliceOf sl c d .none)(pl:IsPart c lo)(f:IsPart d hi)(h:Q (((sIx n 0 lo:Nat):Int),1,sIx n n hi-sIx n 0 lo) s):db (model prog w) A (Builtin.Slice.sliceApplied (.ref sl) (pure (n:Int))) Q E s:=by
 obtain⟨g,a,e,b⟩:=id hs;unfold Builtin.Slice.sliceApplied Builtin.Slice.sliceFields;refine wB1 (wB1 (wpAny_field a b (x:=c) O (wB1 (wpAny_field a b (x:=d) O (wB1 (wpAny_field a b (x:=.none) O (wP1 ?_)))))));refine wB1 (slicePart_none ?_);show db _ _ (if((1:Int) == 0)=M then _ else _) _ _ s;rw[aj (by decide)];refine wB1 (iH pl (wB1 (iH f (wB1 (wP1 ?_)))));show db _ _ (match Builtin.Slice.sliceAdjust lo hi 1 (n:Int)with|(lo,hi)=>pure (lo,(1:Int),Builtin.Slice.slicePlaces lo hi 1)) _ _ s;rw[xp lo hi n];show db _ _ (pure (((sIx n 0 lo:Nat):Int),(1:Int),Builtin.Slice.slicePlaces ((sIx n 0 lo:Nat):Int) ((sIx n n hi:Nat):Int) 1)) _ _ s;rw[wB];exact wP1 h
theorem Bx(xs:Array cZ)(i k:Nat):((af k).filterMap λ(m:Nat)=>xs[((i:Int)+(m:Int)*1).toNat]?).toArray=((xs.toList.drop i).take k).toArray:=by
 have e:(λ(m:Nat)=>xs[((i:Int)+(m:Int)*1).toNat]?)=λm=>xs[i+m]?:=by
  funext m
  have:((i:Int)+(m:Int)*1).toNat=i+m:=by lia
  rw[this]
 rw[e];have:=pick_run xs i k;rw[aV]at this;have a:((λx=>xs[x]?)∘λx=>i+x)=λm=>xs[i+m]?:=rfl;rw[a]at this;rw[this]
theorem l7 {t sl:c4}{items:Array cZ}{f g:cZ}{lo hi:Option Int}{Q:cZ->c3->Prop}(ht:IsTup s.heap t items)(hs:s.heap.IsSliceOf sl f g .none)(pl:IsPart f lo)(k:IsPart g hi)
  (hw:¬ (sIx items.size 0 lo=0/\sIx items.size items.size hi=items.size))
  (h:Q (.ref s.heap.objs.size) {s with heap:=s.heap.push {cls:=.type "tuple",data:=.seq ((items.toList.drop (sIx items.size 0 lo)).take (sIx items.size items.size hi-sIx items.size 0 lo)).toArray}})
  (hsz:items.size<=da):db (model prog w) A (getItem (.ref t) (.ref sl)) Q E s:=by
 have a:sizeOk (.seq ((items.toList.drop (sIx items.size 0 lo)).take (sIx items.size items.size hi-sIx items.size 0 lo)).toArray):=by
  show((items.toList.drop (sIx items.size 0 lo)).take (sIx items.size items.size hi-sIx items.size 0 lo)).toArray.size<=da;rw[sT1,aR,aW,aI];omega
 have n:sIx items.size items.size hi<=items.size:=G9 _ _ (nR1 _) hi;obtain⟨j,b,c,i⟩:=id hs;have e:s.TypeIs (.ref sl) "slice":=⟨j,b,c⟩;unfold getItem
 try with_reducible refine wpAny_holding ?_
 first|refine wB1 (wP1 ?_)|skip
 refine wB1 (wpAny_sequenceKey ht.typeIs (by decide) ?_);refine wB1 (wpAny_callSpecial?_slot (name:=Str.ofString "__getitem__") ht.typeIs PyProof.Rows.slot_tuple_getitem
  (wE1 PyProof.Rows.slot_tuple_getitem ht.typeIs entry_tuple_getitem ?_ (args_tuple_getitem _ _)))
 show db _ _ (Builtin.Tuple.tupleItemsOf (.ref t) >>= _) _ _ s;refine wB1 (tupleItemsOf_ ht ?_);refine wB1 (wpAny_typeOf e ?_);rw[ak (by decide)];refine wB1 (jj hs pl k ?_);have d:¬ ((((sIx items.size 0 lo:Nat):Int) == 0&&(1:Int) == 1&&(sIx items.size items.size hi-sIx items.size 0 lo) == items.size)=M):=by
  intro q;rw[bA1,bA1]at q;have l:((sIx items.size 0 lo:Nat):Int)=0:=eq_of_beq q.1.1;have o:sIx items.size items.size hi-sIx items.size 0 lo=items.size:=eq_of_beq q.2;exact hw ⟨by omega,by omega⟩
 show db _ _ (if(((sIx items.size 0 lo:Nat):Int) == 0&&(1:Int) == 1&&(sIx items.size items.size hi-sIx items.size 0 lo) == items.size)=M then _ else _) _ _ s;rw[aj d,Bx]
 first
  |exact wB1 (m:=Builtin.Tuple.tupleExact _) (wO1 (wP1 ⟨_,rfl,wP1 h⟩) a)
  |exact wB1 (m:=Builtin.Tuple.tupleExact _) (wO1 (wB1 (wP1 (wP1 ⟨_,rfl,wP1 h⟩))) a)
  |exact wB1 (wB1 (m:=Builtin.Tuple.tupleExact _) (wO1 (wP1 (wP1 ⟨_,rfl,wP1 h⟩)) a))
  |exact wB1 (wB1 (m:=Builtin.Tuple.tupleExact _) (wO1 (wP1 ⟨_,rfl,wP1 h⟩) a))
end
end HT
namespace L2
open PySem PySem.Spec PyProof.Rows
abbrev TO:=St->Hp->(Option Int->Hp->Prop)->Prop
def PO(X:Cx)(e:Option Expr)(t:TO):Prop:=
 ∀(ag:List (c4×Obj)) (s:c3) (σ:St) (H:Hp) (Q:Option Int->Hp->Prop),Inv X ag σ H s->t σ H Q ->
  db (model X.prog X.w) X.A (evalPart e X.env) (λu s'=>∃o H',Inv X ag σ H' s'/\IsPart u o/\Q o H') X.xe s
def DL:TO:=λ_ H Q=>Q Y H
def Kc(t:TE):TO:=fun σ H Q=>t σ H λx H1=>∃i,x = .int i/\Q (Z i) H1
variable{X:Cx}
section
variable{e:Expr}{te:TE}{lo hi:Option Expr}{tl th:TO}{pos p2:Pos}
theorem Ed:PO X Y DL:=by
 intro ag s σ H Q I h;rw[evalPart_none];exact wP1 ⟨Y,H,I,.none,h⟩
theorem Ec(h:PE X e te):PO X (Z e) (Kc te):=by
 intro ag s σ H Q I c;rw[evalPart_some];refine fe (h ag s σ H _ I c) λu f ⟨x,H1,a,d,b⟩=>?_;obtain⟨i,rfl,q⟩:=b;obtain⟨t,rfl⟩:=d;exact⟨Z i,H1,a,.int i t,q⟩
def Du(X:Cx)(r:V->Option Int->Option Int->Hp->VK->Prop):Prop:=
 ∀(ag:List (c4×Obj)) (s:c3) (σ:St) (H:Hp) (x:V) (v vl vu:cZ) (lo hi:Option Int) (sl:c4) (Q:VK),Inv X ag σ H s->dS x v->s.heap.IsSliceOf sl vl vu .none->IsPart vl lo->IsPart vu hi->r x lo hi H Q ->
  ∃T id,typeLookup (.type T) "__getitem__"=pure (Z (.builtin id))/\s.TypeIs v T/\db (model X.prog X.w) X.A (getItem v (.ref sl)) (EP X ag σ Q) X.xe s
theorem Du.or{r g:V->Option Int->Option Int->Hp->VK->Prop}(h:Du X r)(h':Du X g):Du X (λx lo hi H Q=>r x lo hi H Q\/g x lo hi H Q):=by
 intro ag s σ H x v b c lo hi d Q I a e pl f q;rcases q with q|q
 ·exact h ag s σ H x v b c lo hi d Q I a e pl f q
 ·exact h' ag s σ H x v b c lo hi d Q I a e pl f q
def N1(r:V->Option Int->Option Int->Hp->VK->Prop)(te:TE)(tl th:TO):TE:=fun σ H Q=>te σ H λx H1=>tl σ H1 λl H2=>th σ H2 λu H3=>r x l u H3 Q
theorem BB{r:V->Option Int->Option Int->Hp->VK->Prop}(hr:Du X r)(he:PE X e te)(w:PO X lo tl)(k:PO X hi th):PE X (.Subscript e (.Slice lo hi Y p2) pos) (N1 r te tl th):=by
 intro ag s σ H Q I h;refine Subscript_ (fe (he ag s σ H _ I h) λv p ⟨x,H1,n,j,t⟩=>?_);refine wpAny_Slice (fe (w ag p σ H1 _ n t) λd g ⟨l,H2,C,pl,y⟩=>fe (k ag g σ H2 _ C y) λc a ⟨u,f,A,D,i⟩=>?_);rw[evalPart_none];refine wP1 ?_;have m:Inv X ag σ f {a with heap:=a.heap.push {cls:=.type "slice",data:=.fields #[d,c,.none]}}:=A.kept (t':=a.toks) λb E q=>hP1 _ q;obtain⟨T,id,z,B,o⟩:=hr ag {a with heap:=a.heap.push {cls:=.type "slice",data:=.fields #[d,c,.none]}} σ f x v d c l u a.heap.objs.size Q m j (Heap.IsSliceOf.new ..) pl D i;show db (model X.prog X.w) X.A (subscriptTail e (.Slice lo hi Y p2) v (.ref a.heap.objs.size)) (EP X ag σ Q) X.xe {a with heap:=a.heap.push {cls:=.type "slice",data:=.fields #[d,c,.none]}};exact tail_any (ops:=[.ref a.heap.objs.size,v]) B z o (by with_unfolding_all rfl)
def vJ(xs:List V)(lo hi:Option Int):List V:=(xs.drop (HT.sIx xs.length 0 lo)).take (HT.sIx xs.length xs.length hi-HT.sIx xs.length 0 lo)
theorem nA(xs:List V)(lo hi:Option Int):(vJ xs lo hi).length<=xs.length:=by
 unfold vJ;rw[aR,aW];lia
def MP(K:Fg1):V->Option Int->Option Int->Hp->VK->Prop:=λx lo hi H Q=>∃a xs,x = .ref a/\kS K H a xs /\
 ¬ (HT.sIx xs.length 0 lo=0/\HT.sIx xs.length xs.length hi=xs.length) /\ ∀p,H p=Y->Q (.ref p) (upd H p (.tup (vJ xs lo hi)))
theorem G6:Du X (MP X.K):=by
 intro ag s σ H x v m n lo hi p Q I g k pl l h;obtain⟨a,xs,rfl,i,j,q⟩:=h;cases g;obtain⟨d,r,f,e⟩:=I.tuple i;have c:d.toArray.size=xs.length:=by rw[sT1];exact r.length.symm
 refine⟨"tuple",_,PyProof.Rows.slot_tuple_getitem.lookup,f.typeIs,?_⟩;refine HT.l7 f k pl l (by rw[c];exact j) ?_ (by rw[c];exact e);rw[c];refine⟨.ref s.heap.objs.size,_,I.laid (t':=s.toks) (o:=.tup (vJ xs lo hi)) (λb t q=>hP1 _ q) (nR1 _) ?_,O,q _ (I.hok.fresh (nR1 _))⟩;exact⟨aC (nA xs lo hi) e,_,(r.drop (HT.sIx xs.length 0 lo)).take (HT.sIx xs.length xs.length hi-HT.sIx xs.length 0 lo),IsTup.new _ _⟩
def Kv(K:Fg1):R2:=λx y H Q=>∃a b xs ys,x = .ref a/\y = .ref b/\kS K H a xs/\kS K H b ys/\xs≠[]/\xs.length+ys.length<=da /\
 (ys=[]->Q (.ref a) H)/\(ys≠[] -> ∀p,H p=Y->Q (.ref p) (upd H p (.tup (xs++ys))))
theorem d4.nil_iff{xs:List V}{a:List cZ}(r:d4 xs a):a=[]↔xs=[]:=by
 cases r with
 |nil=>simp
 |cons _ _=>simp
theorem Er:fP X (binaryOp .Add) (Kv X.K):=by
 intro ag s σ H x y v u Q I f l h;obtain⟨a,b,xs,ys,rfl,rfl,p,m,g,e,i,n⟩:=h;cases f;cases l;obtain⟨j,c,k,_⟩:=I.tuple p;obtain⟨d,r2,p2,_⟩:=I.tuple m;refine HT.FJ k p2 (λz=>g (c.nil_iff.mp z)) (λz=>⟨.ref a,H,I,O,i (r2.nil_iff.mp z)⟩) (λz=>?_) (by rw[<- c.length,<- r2.length];exact e);refine⟨.ref s.heap.objs.size,_,I.laid (t':=s.toks) (o:=.tup (xs++ys)) (λb r q=>hP1 _ q) (nR1 _) ?_,O,n (λw=>z (r2.nil_iff.mpr w)) _ (I.hok.fresh (nR1 _))⟩;exact⟨by rw[lA1];exact e,_,c.append r2,IsTup.new _ _⟩
end
def wX(n:Nat)(i:Int):Option Nat:=if 0<=i then(if i<n then Z i.toNat else Y)else if-(n:Int)<=i then Z (i+n).toNat else Y
def vZ{α:Type}(xs:List α)(i:Int):Option α:=(wX xs.length i).bind λj=>xs[j]?
theorem tJ{n:Nat}{i:Int}{j:Nat}(h:wX n i=Z j):seqIndex? i n=Z j/\j<n /\ -(n:Int)<=i/\i<n:=by
 unfold wX at h;by_cases a:0<=i
 ·rw[ak a]at h;by_cases h1:i<n
  ·rw[ak h1]at h;have e:i.toNat=j:=Option.some.inj h;exact⟨by rw[seqIndex_of a h1,e],by lia,by lia,h1⟩
  ·rw[aj h1]at h;cases h
 ·rw[aj a]at h;by_cases h1: -(n:Int)<=i
  ·rw[ak h1]at h;have e:(i+n).toNat=j:=Option.some.inj h;exact⟨by rw[seqIndex_neg (by lia) h1,e],by lia,h1,by lia⟩
  ·rw[aj h1]at h;cases h
theorem yT{α:Type}{xs:List α}{i:Int}{v:α}(h:vZ xs i=Z v):∃j,seqIndex? i xs.length=Z j/\xs[j]?=Z v/\j<xs.length /\ -(xs.length:Int)<=i/\i<xs.length:=by
 unfold vZ at h;cases e:wX xs.length i with
 |none=>rw[e]at h;cases h
 |some j=>
  rw[e]at h;obtain⟨h1,h2,b,a⟩:=tJ e;exact⟨j,h1,h,h2,b,a⟩
def oA(b:Expr):Prop:=∀o i,subscripted b J o i=operate [o,i] (getItem o i)
def GH(X:Cx)(r:R2):Prop:=
 ∀(value slice:Expr) (ag:List (c4×Obj)) (s:c3) (σ:St) (H:Hp) (x y:V) (v u:cZ) (Q:VK),Inv X ag σ H s->dS x v->dS y u->r x y H Q ->
  subscripted slice J v u=operate [v,u] (getItem v u)->db (model X.prog X.w) X.A (subscriptTail value slice v u) (EP X ag σ Q) X.xe s
def JM(X:Cx)(id:String)(r:V->List V->Hp->VK->Prop):Prop:=
 ∀(ag:List (c4×Obj)) (s:c3) (σ:St) (H:Hp) (x:V) (xs:List V) (v:cZ) (us:List cZ) (Q:VK),Inv X ag σ H s->dS x v->d4 xs us->r x xs H Q ->
  db (model X.prog X.w) X.A (call (.builtin id) (v::us)) (EP X ag σ Q) X.xe s
section
variable{a b:Expr}{ta tb:TE}{pos:Pos}
theorem KD{r:R2}(hr:GH X r)(ha:PE X a ta)(hb:PE X b tb)(hs:oA b):PE X (.Subscript a b pos) (Ke r ta tb):=by
 intro ag s σ H Q I h;exact Subscript_ (Jw ha hb I h λv u f x y H2 e c d q=>hr a b ag f σ H2 x y v u Q e c d q (hs _ _))
def MV(K:Fg1):R2:=λx y H Q=>∃p xs i v,x = .ref p/\y = .int i/\m4 K H p xs/\vZ xs i=Z v/\Q v H
def MU(K:Fg1):R2:=λx y H Q=>∃p xs i v,x = .ref p/\y = .int i/\kS K H p xs/\vZ xs i=Z v/\Q v H
theorem E6:GH X (MV X.K):=by
 intro value e ag s σ H x y v u Q I l B h k;obtain⟨p,xs,i,z,rfl,rfl,m,o,q⟩:=h;cases l;obtain⟨t,rfl⟩:=B;obtain⟨c,r,pl,F⟩:=I.list m;obtain⟨j,h1,h2,D,A,C⟩:=yT o;obtain⟨w,f,b⟩:=r.get h2;have n:=r.length;have E:=mM;have a:EP X ag σ Q w s:=⟨z,H,I,b,q⟩;by_cases g:0<=i
 ·have d:i.toNat=j:=by
   rw[seqIndex_of g C]at h1;exact Option.some.inj h1
  exact item_listR pl.isList g (by lia) (by rw[d];simpa using f) a k
 ·have d:(i+(c.toArray.size:Int)).toNat=j:=by
   rw[seqIndex_neg (by lia) A]at h1;rw[sT1,<- n];exact Option.some.inj h1
  exact subscriptTail_builtinR (x:=w) pl.isList.typeIs slot_list_getitem.lookup
   (wpAny_getItem_list_neg (Q:=λr s'=>r=w/\EP X ag σ Q r s') pl.isList (by lia) (by rw[sT1]<;>lia) (by lia) (by rw[d];simpa using f) ⟨O,a⟩) k
theorem I7:GH X (MU X.K):=by
 intro value c ag s σ H x y v u Q I d m h n;obtain⟨p,xs,i,z,rfl,rfl,e,l,q⟩:=h;cases d;obtain⟨t,rfl⟩:=m;obtain⟨f,r,pl,B⟩:=I.tuple e;obtain⟨j,h1,h2,o,C,D⟩:=yT l;obtain⟨w,g,a⟩:=r.get h2;have k:=r.length;have A:=mM;have b:EP X ag σ Q w s:=⟨z,H,I,a,q⟩;exact subscriptTail_builtinR (x:=w) pl.typeIs slot_tuple_getitem.lookup
  (getItem_tuple (j:=j) (Q:=λr s'=>r=w/\EP X ag σ Q r s') pl (by lia) (by lia) (by rw[sT1,<- k];exact h1) (by simpa using g) ⟨O,b⟩) n
theorem wS(its:List cZ)(n j:Nat)(u:cZ):Obj.mapSeq (·.setIfInBounds j u) {cls:=.type "list",data:=.seq its.toArray n}={cls:=.type "list",data:=.seq (its.set j u).toArray n}:=by
 simp[Obj.mapSeq]
theorem Inv.lst{ag:List (c4×Obj)}{σ:St}{H:Hp}{s:c3}{p:c4}{xs:List V}(I:Inv X ag σ H s)(h:H p=some (.lst xs)):
  ∃(its:List cZ) (n:Nat),d4 xs its/\s.heap.get? p=Z {cls:=.type "list",data:=.seq its.toArray n}/\xs.length<=da:=by
 obtain⟨z,its,n,r,e⟩:=I.hok p _ h;exact⟨its,n,r,e,z⟩
theorem Inv.lstUpd {ag:List (c4×Obj)}{σ:St}{H:Hp}{s:c3}{p:c4}{xs ys:List V}{its its':List cZ}{n n':Nat}{f:Obj->Obj}(I:Inv X ag σ H s)(h:H p=some (.lst xs))
  (ho:s.heap.get? p=Z {cls:=.type "list",data:=.seq its.toArray n}) (hf:f {cls:=.type "list",data:=.seq its.toArray n}={cls:=.type "list",data:=.seq its'.toArray n'}) (r:d4 ys its') (hz:ys.length<=da) (t:Nat):
  Inv X ag σ (upd H p (.lst ys)) {s with heap:=s.heap.update p f,toks:=t}:=by
 have e:(s.heap.update p f).get? p=Z {cls:=.type "list",data:=.seq its'.toArray n'}:=by
  rw[hW1 f ho (by rw[hf]<;>rfl),hf]
 refine I.write (x:=p) (e:=p) (by rw[h];trivial) (.inl O) (λb u a q=>(Heap.get?_update_other _ _ (Ne.symm a)).trans q) ⟨_,e⟩ ?_;exact⟨hz,its',n',r,e⟩
def Ku:V->V->V->Hp->(Hp->Prop)->Prop:=λo i v H Q=>∃p xs k j,o = .ref p/\i = .int k/\H p=Z (.lst xs)/\wX xs.length k=Z j/\Q (upd H p (.lst (xs.set j v)))
theorem Bb:xB X Ku:=by
 intro ag s σ H o i v D C u Q I w z A h;obtain⟨p,xs,k,j,rfl,rfl,e,x,q⟩:=h;cases w;obtain⟨t,rfl⟩:=z;obtain⟨a,n,r,b,y⟩:=I.lst e;obtain⟨h1,h2,f,l⟩:=tJ x;have c:=r.length;have B:=mM;have m:Inv X ag σ (upd H p (.lst (xs.set j v))) {s with heap:=s.heap.update p (Obj.mapSeq (·.setIfInBounds j u))}:=
  I.lstUpd e b (wS a n j u) (r.set A j) (by rw[aX];exact y) s.toks
 by_cases g:0<=k
 ·have d:k.toNat=j:=by
   rw[seqIndex_of g l]at h1;exact Option.some.inj h1
  exact PySem.W.ki_setAt b g (by lia) (by rw[sT1,<- c];exact l) (by rw[d];exact⟨_,m,q⟩)
 ·have d:(k+(a.toArray.size:Int)).toNat=j:=by
   rw[seqIndex_neg (by lia) f]at h1;rw[sT1,<- c];exact Option.some.inj h1
  exact PySem.W.ki_setBack b (by lia) (by rw[sT1,<- c];exact f) (by lia) (by rw[d];exact⟨_,m,q⟩)
theorem sO(lo hi:Option Int)(n:Nat):(sliceBounds lo hi Y n).1=((HT.sIx n 0 lo:Nat):Int)/\(sliceBounds lo hi Y n).2.1=((HT.sIx n n hi:Nat):Int)/\(sliceBounds lo hi Y n).2.2=1:=by
 refine⟨?_,?_,O⟩
 ·cases lo with
  |none=>simp[sliceBounds,HT.sIx]
  |some i=>
   simp only[sliceBounds,HT.sIx,Option.getD_none,show(1:Int)>0 by decide,if_true];by_cases h:i<0
   ·simp only[h,if_true]<;>lia
   ·simp only[h,if_false]<;>lia
 ·cases hi with
  |none=>simp[sliceBounds,HT.sIx]
  |some i=>
   simp only[sliceBounds,HT.sIx,Option.getD_none,show(1:Int)>0 by decide,if_true];by_cases h:i<0
   ·simp only[h,if_true]<;>lia
   ·simp only[h,if_false]<;>lia
theorem qx(its:List cZ)(lo hi:Option Int):slicePick its.toArray lo hi Y=((its.drop (HT.sIx its.length 0 lo)).take (HT.sIx its.length its.length hi-HT.sIx its.length 0 lo)).toArray:=by
 obtain⟨h1,h2,a⟩:=sO lo hi its.toArray.size;unfold slicePick;rw[h1,h2,a];simp only[sliceRange_one,pick_run,sT1]<;>rfl
def MQ(K:Fg1):V->Option Int->Option Int->Hp->VK->Prop:=λx lo hi H Q=>∃a xs,x = .ref a/\m4 K H a xs /\ ∀p,H p=Y->Q (.ref p) (upd H p (.lst (vJ xs lo hi)))
theorem DR:Du X (MQ X.K):=by
 intro ag s σ H x v l m lo hi n Q I e j pl k h;obtain⟨a,xs,rfl,f,q⟩:=h;cases e;obtain⟨g,r,d,i⟩:=I.list f;have c:=r.length;refine⟨"list",_,slot_list_getitem.lookup,d.isList.typeIs,?_⟩;refine wpAny_getItem_list_slice d.isList j pl k .none (by simp) ?_ (by rw[sT1]<;>lia);rw[qx,<- c];refine⟨.ref s.heap.objs.size,_,I.laid (t':=s.toks) (o:=.lst (vJ xs lo hi)) (λb p q=>hP1 _ q) (nR1 _) ?_,O,q _ (I.hok.fresh (nR1 _))⟩;exact⟨aC (nA xs lo hi) i,_,0,(r.drop (HT.sIx xs.length 0 lo)).take (HT.sIx xs.length xs.length hi-HT.sIx xs.length 0 lo),hS1 _ O⟩
def ll:V->Bool
 | .non=>M
 | .bl _=>M
 | .int _=>M
 | .str _=>M
 |_=>J
def vX:V->V->Bool
 | .non,.non=>M
 | .bl a,.bl b=>a == b
 | .bl a,.int b=>(if a then 1 else 0) == b
 | .int a,.bl b=>a == (if b then 1 else 0)
 | .int a,.int b=>a == b
 | .str a,.str b=>a == b
 |_,_=>J
theorem lF{A:c6}{s:c3}{y x:V}{u v:cZ}(e:dS y u)(c:dS x v)(g:ll y=M)(f:ll x=M):SeqAt.EqAt A s u v (vX y x):=by
 cases y with
 |non=>
  cases e;cases x with
  |non=>cases c;exact SeqAt.EqAt.same _
  |bl b=>cases c;exact SeqAt.EqAt.none_bool b
  |int b=>obtain⟨t,rfl⟩:=c;exact SeqAt.EqAt.none_int b t
  |str b=>obtain⟨t,rfl⟩:=c;exact SeqAt.EqAt.none_str b t
  |_=>exact absurd (show J=M from f) aK
 |bl a=>
  cases e;cases x with
  |non=>cases c;exact SeqAt.EqAt.bool_none a
  |bl b=>cases c;exact SeqAt.EqAt.bool_bool a b
  |int b=>obtain⟨t,rfl⟩:=c;exact SeqAt.EqAt.bool_int a b t
  |str b=>obtain⟨t,rfl⟩:=c;exact SeqAt.EqAt.bool_str a b t
  |_=>exact absurd (show J=M from f) aK
 |int a=>
  obtain⟨d,rfl⟩:=e;cases x with
  |non=>cases c;exact SeqAt.EqAt.int_none a d
  |bl b=>cases c;exact SeqAt.EqAt.int_bool a d b
  |int b=>obtain⟨t,rfl⟩:=c;exact SeqAt.EqAt.int_int a d b t
  |str b=>obtain⟨t,rfl⟩:=c;exact SeqAt.EqAt.int_str a d b t
  |_=>exact absurd (show J=M from f) aK
 |str a=>
  obtain⟨d,rfl⟩:=e;cases x with
  |non=>cases c;exact SeqAt.EqAt.str_none a d
  |bl b=>cases c;exact SeqAt.EqAt.str_bool a d b
  |int b=>obtain⟨t,rfl⟩:=c;exact SeqAt.EqAt.str_int a d b t
  |str b=>obtain⟨t,rfl⟩:=c;exact SeqAt.EqAt.str_str a d b t
  |_=>exact absurd (show J=M from f) aK
 |_=>exact absurd (show J=M from g) aK
theorem t5:eM X (.builtin "len") (λxs H Q=>∃p ys,xs=[.ref p]/\(m4 X.K H p ys\/kS X.K H p ys)/\Q (.int ys.length) H):=by
 intro ag s σ H xs i Q I r h;obtain⟨p,ys,rfl,b,q⟩:=h;obtain⟨u,rfl,e⟩:=io r;cases e;have g:=mM;rcases b with b|b
 ·obtain⟨c,d,pl,f⟩:=I.list b;have a:=d.length;exact Calls.call_len_list pl.isList (by simp only[sT1]<;>lia) ⟨.int ys.length,H,I.tok _,⟨s.toks+1,by rw[sT1,a]⟩,q⟩
 ·obtain⟨c,d,pl,f⟩:=I.tuple b;have a:=d.length;exact len_tuple pl (by simp only[sT1]<;>lia) ⟨.int ys.length,H,I.tok _,⟨s.toks+1,by rw[sT1,a]⟩,q⟩
theorem t0:eM X (.builtin "len") (λxs H Q=>∃z,xs=[.str z]/\z.length<=da/\Q (.int z.length) H):=by
 intro ag s σ H xs c Q I r h;obtain⟨z,rfl,b,q⟩:=h;obtain⟨u,rfl,t,rfl⟩:=io r;have a:=mM;exact len_str (by lia) ⟨.int z.length,H,I.tok _,⟨_,O⟩,q⟩
theorem tZ:eM X (.type "list") (λxs H Q=>∃p ys,xs=[.ref p]/\(m4 X.K H p ys\/kS X.K H p ys) /\ ∀l,H l=Y->Q (.ref l) (upd H l (.lst ys))):=by
 intro ag s σ H xs v Q I r h;obtain ⟨p,ys,rfl,g,q⟩:=h;obtain ⟨u,rfl,t⟩:=io r;cases t;have f:∀ (a:List cZ),d4 ys a->ys.length<=da -> ∀ (h':df) (c:Nat),(∀ b o',s.heap.get? b=some o'->h'.get? b=some o') ->
   h'.get? s.heap.objs.size=Z {cls:=.type "list",dict:=Y,data:=.seq a.toArray c,slots:= #[]}->EP X ag σ Q (.ref s.heap.objs.size) {s with heap:=h'}:=λa d j h' c kp e=>
  ⟨.ref s.heap.objs.size,_,I.laid (t':=s.toks) kp (nR1 _) (show eL X.prog X.w _ h' _ (.lst ys)from⟨j,a,c,d,e⟩),O,q _ (I.hok.fresh (nR1 _))⟩
 rcases g with g|g
 ·obtain⟨a,d,pl,j⟩:=I.list g;have i:=d.length;obtain⟨o,k,hc,n,m⟩:=pl.isList;exact call_list_seq p (.inl O) k hc m (λh' c kp e=>f a d j h' c kp e) (by simp only[sT1]<;>lia)
 ·obtain⟨a,d,pl,j⟩:=I.tuple g;have i:=d.length;obtain⟨o,k,hc,n,m⟩:=pl;exact call_list_seq p (.inr O) k hc m (λh' c kp e=>f a d j h' c kp e) (by simp only[sT1]<;>lia)
theorem q3:eM X (.type "tuple") (λxs H Q=>∃p ys,xs=[.ref p]/\((m4 X.K H p ys /\ ∀l,H l=Y->Q (.ref l) (upd H l (.tup ys)))\/(kS X.K H p ys/\Q (.ref p) H))):=by
 intro ag s σ H xs m Q I r h;obtain⟨p,ys,rfl,h⟩:=h;obtain⟨u,rfl,j⟩:=io r;cases j;rcases h with⟨c,q⟩|⟨c,q⟩
 ·obtain ⟨a,d,pl,i⟩:=I.list c;have g:=d.length;refine call_tuple_list pl.isList (fun h' kp=>?_) (by simp only [sT1]<;>lia);have f:Inv X ag σ H {s with heap:=h'}:=I.kept (t':=s.toks) kp;have k:Inv X ag σ (upd H h'.objs.size (.tup ys)) {s with heap:=h'.push {cls:=.type "tuple",data:=.seq a.toArray}}:=
   f.laid (t':=s.toks) (λb o e=>hP1 _ e) (nR1 _) (show eL X.prog X.w _ _ _ (.tup ys)from⟨i,a,d,IsTup.new _ _⟩)
  exact⟨.ref h'.objs.size,_,k,O,q _ (f.hok.fresh (nR1 _))⟩
 ·obtain⟨a,d,pl,i⟩:=I.tuple c;exact call_tuple_same pl ⟨.ref p,H,I,O,q⟩
def Nx(K:Fg1)(T:String)(x:V)(H:Hp):Prop:=match x with
 | .str _=>T="str"
 | .int _=>T="int"
 | .ref p=>(T="list" /\ ∃ xs,m4 K H p xs)\/(T="tuple" /\ ∃ o,K.lookup p=some o/\o.cls = .type "tuple"/\o.dict=none) \/
   (T="dict"/\((∃kvs,H p=Z (.dK kvs)) \/ ∃kvs,H p=Z (.dT kvs)))\/(T="set" /\ ∃S n,H p=Z (.set S n))
 |_=>False
theorem GR{ag:List (c4×Obj)}{σ:St}{H:Hp}{s:c3}{T:String}{x:V}{v:cZ}(I:Inv X ag σ H s)(r:dS x v)(ty:Nx X.K T x H):
  s.TypeIs v T /\ ∀a,v = .ref a -> ∃g,s.heap.get? a=Z g/\g.dict=Y:=by
 cases x with
 |str z=>
  obtain⟨t,rfl⟩:=r;cases(show T="str" from ty);exact⟨typeIs_str s z t,λ_ e=>nomatch e⟩
 |int i=>
  obtain⟨t,rfl⟩:=r;cases(show T="int" from ty);exact⟨typeIs_int s i t,λ_ e=>nomatch e⟩
 |ref p=>
  cases r;rcases ty with⟨rfl,xs,h⟩|⟨rfl,o,b,hc,d⟩|⟨rfl,b⟩|⟨rfl,S,n,b⟩
  ·obtain⟨j,_,pl,_⟩:=I.list h;refine⟨pl.isList.typeIs,λa e=>?_⟩;cases e;obtain⟨o,n,e,c,d,_⟩:=pl;exact⟨o,e,d⟩
  ·refine⟨⟨o,I.kIn p o b,hc⟩,λa e=>?_⟩;cases e;exact⟨o,I.kIn _ o b,d⟩
  ·have z:∃ o,s.heap.get? p=some o/\o.ExactDict:=by
    rcases b with⟨kvs,b⟩|⟨kvs,b⟩
    ·obtain⟨_,_,_,_,o,_,_,e,ex,_⟩:=I.hok p _ b;exact⟨o,e,ex⟩
    ·obtain⟨_,_,_,_,o,_,_,e,ex,_⟩:=I.hok p _ b;exact⟨o,e,ex⟩
   obtain⟨o,e,ex⟩:=z;refine⟨⟨o,e,ex.1⟩,λa f=>?_⟩;cases f;exact⟨o,e,ex.2.1⟩
  ·obtain⟨o,_,_,_,e,ex,_⟩:=I.hok p _ b;refine⟨⟨o,e,ex.1⟩,λa f=>?_⟩;cases f;exact⟨o,e,ex.2.1⟩
 |_=>exact False.elim ty
def N5(K:Fg1)(T:String)(r:V->List V->Hp->VK->Prop)(to:TE)(t:TA):TE:=fun σ H Q=>to σ H λx H1=>Nx K T x H1/\t σ H1 λxs H2=>r x xs H2 Q
variable{o e:Expr}{es:List Expr}{to:TE}{t:TA}{name:Str}{apos cpos:Pos}{T id:String}{r:V->List V->Hp->VK->Prop}
theorem KE (d:PlainAttrs T)(slot:Slot T name id)(hty:typeOf (.builtin id)=pure (.type "method_descriptor"))(hm:JM X id r)(ho:PE X o to)(ha:PA X (e::es) t)
  (hbase:autoParam (attributeBase o name X.env (eval o X.env)=eval o X.env) cu0)
  (hfew:autoParam (((backTo cpos (c9 (e::es) X.env)).all (λx=> !x.1)&&(backToKw cpos (keywordEach [] X.env)).all (λx=>x.1.isSome)
   && decide ((e::es).length+([]:List Keyword).length+(if([]:List Keyword).isEmpty then 0 else 1)<30))=M) cu0)
  (hline:autoParam ((apos.endLine == cpos.line)=M) cu0) (hs:autoParam (c9 (e::es) X.env=(J,eval e X.env)::c9 es X.env) cu0) (hplain:autoParam ((backTo cpos (c9 es X.env)).any (·.1)=J) cu0):
  PE X (.Call (.Attribute o name apos) (e::es) [] cpos) (N5 X.K T r to t):=by
 intro ag s σ H Q I h;refine wpAny_Call_method_late hbase hfew hline O (fe (ho ag s σ H _ I h) λv g ⟨x,H1,a,c,ty,i⟩=>?_);obtain⟨h1,h2⟩:=GR a c ty;refine⟨T,id,d,slot,hty,h1,h2,?_⟩;have b:=ha cpos ag g σ H1 _ a i;rw[hs]at b ⊢;refine Calls.callWith_builtin (by show(J||(backTo cpos (c9 es X.env)).any (·.1))=J;rw[hplain]<;>rfl) (Calls.evalArgs_plain ?_);exact fe b λk f ⟨vs,H2,j,r2,l⟩=>hm ag f σ H2 x vs v k Q j c r2 l
end
def Nq(X:Cx)(id:String)(r:V->List V->Hp->VK->Prop):Prop:=
 ∀(ag:List (c4×Obj)) (s:c3) (σ:St) (H:Hp) (x:V) (xs:List V) (v:cZ) (us:List cZ) (Q:VK),Inv X ag σ H s->dS x v->d4 xs us->r x xs H Q ->
  db (model X.prog X.w) X.A (call (.builtin id) (v::us)) (EP X ag σ Q) X.xe s
theorem d4.one:∀{x:V} {a:List cZ},d4 [x] a -> ∃u,a=[u]/\dS x u:=by
 intro x a h;cases h with
 |cons r t=>cases t;exact⟨_,O,r⟩
theorem d4.eraseIdx:∀{xs:List V} {a:List cZ} (i:Nat),d4 xs a->d4 (xs.eraseIdx i) (a.eraseIdx i)
 |_,_,_,.nil=>.nil
 |_,_,0,.cons _ t=>t
 |_,_,i+1,.cons r t=>.cons r (d4.eraseIdx i t)
theorem d4.reverse{xs:List V}{a:List cZ}(h:d4 xs a):d4 xs.reverse a.reverse:=by
 induction h with
 |nil=>exact .nil
 |cons r t ih=>rw[aY,aY];exact d4.append ih (.cons r .nil)
theorem d4.rep{xs:List V}{a:List cZ}(h:d4 xs a):∀k:Nat,d4 (aP k xs).flatten (aP k a).flatten
 |0=>.nil
 |k+1=>by
  rw[aZ,aZ,a0,a0];exact d4.append h (d4.rep h k)
theorem rO{α:Type}:∀(l:List α) (i:Nat),(l.eraseIdx i).length<=l.length
 |[],_=>nR1 _
 |_::_,0=>bc _
 |_::r,i+1=>Nat.succ_le_succ (rO r i)
theorem r9(its:List cZ):∀ (k:Nat) (acc:List cZ),
  List.foldl (λa x2=>a++x2) acc.toArray (aP k its.toArray)=(acc++(aP k its).flatten).toArray
 |0,acc=>by simp
 |k+1,acc=>by
  have e:acc.toArray++its.toArray=(acc++its).toArray:=by simp
  have b:(acc++its)++(aP k its).flatten=acc++(aP (k+1) its).flatten:=by
   rw[aZ,a0,bf]
  rw[<- b,<- r9 its k (acc++its),<- e,aZ,bg]
section
variable{ag:List (c4×Obj)}{σ:St}{H:Hp}{s:c3}{l b:c4}{xs ys zs:List V}
theorem Inv.lset {its its':List cZ}{n:Nat}{f:Array cZ->Array cZ}{t':Nat}(I:Inv X ag σ H s)(a:H l=some (.lst xs))
  (e:s.heap.get? l=Z {cls:=.type "list",data:=.seq its.toArray n}) (hf:f its.toArray=its'.toArray) (hv:d4 ys its') (hz:ys.length<=da):
  Inv X ag σ (upd H l (.lst ys)) {s with heap:=s.heap.update l (Obj.mapSeq f),toks:=t'}:=by
 have q:=PySem.IsL.update e f;rw[hf]at q;refine I.write (x:=l) (e:=l) (by rw[a];exact trivial) (.inl O) (λd u b c=>(Heap.get?_update_other s.heap (Obj.mapSeq f) (Ne.symm b)).trans c) ⟨_,q⟩ ?_;exact⟨hz,its',_,hv,q⟩
theorem Inv.lnew{its:List cZ}{t':Nat}(I:Inv X ag σ H s)(hv:d4 ys its)(hz:ys.length<=da):
  Inv X ag σ (upd H s.heap.objs.size (.lst ys)) {s with heap:=s.heap.push {cls:=.type "list",data:=.seq its.toArray},toks:=t'}:=
 I.laid (λ_ _ q=>hP1 _ q) (nR1 _) ⟨hz,its,0,hv,hS1 _ O⟩
theorem Inv.fresh(I:Inv X ag σ H s):H s.heap.objs.size=Y:=I.hok.fresh (nR1 _)
theorem Inv.lstM(I:Inv X ag σ H s)(a:H l=Z (.lst xs)):xs.length<=da /\ ∃(its:List cZ) (n:Nat),d4 xs its/\xs.length=its.length/\s.heap.get? l=Z {cls:=.type "list",data:=.seq its.toArray n}:=by
 obtain⟨z,its,n,r,e⟩:=I.hok l _ a;exact⟨z,its,n,r,r.length,e⟩
theorem u5{n:Nat}(h:n<=da):Builtin.List.listTooLong n=J:=by
 unfold Builtin.List.listTooLong;exact ai (by lia)
end
def D0:V->List V->Hp->VK->Prop:=λx vs H Q=>∃l xs y,x = .ref l/\vs=[y]/\H l=Z (.lst xs)/\xs.length<da/\Q .non (upd H l (.lst (xs++[y])))
theorem rL:Nq X "list.append" D0:=by
 intro ag s σ H x vs v j Q I c f h;obtain⟨l,xs,y,rfl,rfl,b,i,q⟩:=h;cases c;obtain⟨u,rfl,d⟩:=f.one;obtain⟨z,a,n,r,g,e⟩:=I.lstM b;refine call_meets F.slot_list_append ⟨_,e,O⟩ F.entry_list_append (F.args_list_append_2 _ _) (PySem.list_append l a.toArray n u (by rw[sT1];lia)) ⟨e,?_⟩;refine⟨.non,_,I.lset (its':=a++[u]) b e (by simp) (r.append (.cons d .nil)) ?_,O,q⟩;rw[lA1,bh];lia
def DZ:V->List V->Hp->VK->Prop:=λx vs H Q=>∃l b xs zs,x = .ref l/\vs=[.ref b]/\H l=Z (.lst xs)/\H b=Z (.lst zs)/\xs.length+zs.length<=da/\Q .non (upd H l (.lst (xs++zs)))
theorem zu:Nq X "list.extend" DZ:=by
 intro ag s σ H x vs v B Q I i o h;obtain⟨l,b,xs,zs,rfl,rfl,g,t,A,q⟩:=h;cases i;obtain⟨u,rfl,j⟩:=o.one;cases j;obtain⟨z,c,n,r,y,e⟩:=I.lstM g;obtain⟨w,a,p,r2,k,m⟩:=I.lstM t;have f:c.toArray.size+a.toArray.size<=da:=by rw[sT1,sT1];lia
 have d:¬ (!c.toArray.isEmpty&&Builtin.List.listTooLong (c.toArray.size+a.toArray.size))=M:=by
  rw[u5 f,Bool.and_false];exact aK
 refine call_meets F.slot_list_extend ⟨_,e,O⟩ F.entry_list_extend (F.args_list_extend_2 _ _)
  (AutoSeq1.list_extend_list_list_0 l c.toArray n b a.toArray p d (by rw[sT1];lia) (by lia)) ⟨e,m,?_⟩
 refine⟨.non,_,I.lset (its':=c++a) g e (by simp) (r.append r2) ?_,O,q⟩;rw[lA1];lia
def Hg:V->List V->Hp->VK->Prop:=λx vs H Q=>∃l xs i k y,x = .ref l/\vs=[.int i]/\H l=Z (.lst xs) /\ -(2^63)<=i/\i<2^63/\seqIndex? i xs.length=Z k/\xs[k]?=Z y/\Q y (upd H l (.lst (xs.eraseIdx k)))
theorem B2:Nq X "list.pop" Hg:=by
 intro ag s σ H x vs v A Q I d o h;obtain⟨l,xs,i,k,y,rfl,rfl,c,h1,h2,p,f,q⟩:=h;cases d;obtain⟨u,rfl,m⟩:=o.one;obtain⟨t,rfl⟩:=m;obtain⟨z,a,n,r,j,e⟩:=I.lstM c;obtain⟨w,g,b⟩:=r.get f;refine call_meets F.slot_list_pop ⟨_,e,O⟩ F.entry_list_pop (F.args_list_pop_2 _ _)
  (MeetsSeq.list_pop_at l a.toArray n i t k w (fitsIndex_both h1 h2) (by rw[sT1,<- j];exact p) (by rw[<- aT1];exact g) (by rw[sT1];lia)) ⟨e,?_⟩
 refine⟨y,_,I.lset (its':=a.eraseIdx k) c e ?_ (r.eraseIdx k) ?_,b,q⟩
 ·show a.toArray.eraseIdxIfInBounds k=(a.eraseIdx k).toArray;rw[List.eraseIdxIfInBounds_toArray]
 ·have:=rO xs k;lia
def MX:R2:=λx y H Q=>∃l b xs zs,x = .ref l/\y = .ref b/\H l=Z (.lst xs)/\H b=Z (.lst zs)/\xs.length+zs.length<=da /\ ∀p,H p=Y->Q (.ref p) (upd H p (.lst (xs++zs)))
theorem HV:fP X (binaryOp .Add) MX:=by
 intro ag s σ H x y v u Q I d i h;obtain⟨l,b,xs,zs,rfl,rfl,f,m,p,q⟩:=h;cases d;cases i;obtain⟨z,c,n,r,o,e⟩:=I.lstM f;obtain⟨t,a,w,r2,j,k⟩:=I.lstM m;refine PySem.P.add_list e k ?_ (by rw[sT1,sT1];lia);have g:c.toArray++a.toArray=(c++a).toArray:=by simp
 rw[g];exact⟨.ref _,_,I.lnew (t':=s.toks) (r.append r2) (by rw[lA1];lia),O,q _ I.fresh⟩
def MR:R2:=λx y H Q=>∃l k xs,x = .ref l/\y = .int k/\H l=Z (.lst xs) /\ -(2^63)<=k/\k<2^63/\xs.length*k.toNat<=da /\
 ∀p,H p=Y->Q (.ref p) (upd H p (.lst (aP k.toNat xs).flatten))
theorem EU{α:Type}(xs:List α)(k:Nat):(aP k xs).flatten.length=k*xs.length:=by
 induction k with
 |zero=>simp
 |succ k ih=>rw[aZ,a0,lA1,ih,Nat.succ_mul,Nat.add_comm]
theorem HP:fP X (binaryOp .Mult) MR:=by
 intro ag s σ H x y v u Q I p C h;obtain⟨l,k,xs,rfl,rfl,w,h1,h2,o,q⟩:=h;cases p;obtain⟨t,rfl⟩:=C;obtain⟨z,b,n,r,B,e⟩:=I.lstM w;have f:b.toArray.size*k.toNat<=da:=by rw[sT1,<- B];exact o
 have i:¬ b.toArray.size*k.toNat>(2^63-1)/8:=by
  have:(da:Nat)<=(2^63-1)/8:=by decide
  lia
 have g:¬ (!Builtin.List.listFitsIndex k)=M:=by
  rw[fitsIndex_both h1 h2];exact aK
 have c:¬ Builtin.List.listTooLong (b.toArray.size*k.toNat)=M:=by
  rw[u5 f];exact aK
 have d:List.foldl (λj x2=>j++x2) #[] (aP (if b.toArray.isEmpty=M then 0 else k.toNat) b.toArray)=(aP k.toNat b).flatten.toArray:=by
  have A:∀m:Nat,List.foldl (λj x2=>j++x2) #[] (aP m b.toArray)=(aP m b).flatten.toArray:=λm=>by
   have:=r9 b m [];rw[bi]at this;exact this
  rw[A];cases b with
  |nil=>simp
  |cons a D=>rw[aj (by simp)]
 refine wpAny_binaryOp_repeat_ref (T:="list") (U:="int") (by decide) ⟨_,e,O⟩ (λs'=>typeIs_int s' k t) noFill_list_mul F.fills_int_mul F.slot_int_rmul repeat_list F.slot_int_index.lookup
  (call_meets F.slot_int_rmul (typeIs_int s k t) F.entry_int_rmul (F.args_int_rmul_2 _ _) (int___rmul___int_list k t l b.toArray n)
   ⟨e,O,⟨_,e,O⟩,call_meets F.slot_list_mul ⟨_,e,O⟩ F.entry_list_mul (F.args_list_mul_2 _ _) (AutoListH.list___mul___list_int_3 l b.toArray n k t g i c) ⟨e,?_⟩⟩)
 rw[d];exact⟨.ref _,_,I.lnew (t':=s.toks) (r.rep k.toNat) (by rw[EU,Nat.mul_comm];exact o),O,q _ I.fresh⟩
section
variable{prog:c5}{w:c7}{A:c6}{E:cZ->c3->Prop}{s:c3}
end
end L2
namespace Att
open PySem PySem.W PySem.Calls PyProof.Rows
theorem nR{P:Params}{h:df}:∀(ns:List Int) (vs:List cZ),WellAll P h vs (ns.map WData.int)->IntsAre vs ns:=by
 intro ns
 induction ns with
 |nil=>
  intro vs w;rw[bj]at w;cases w;exact .nil
 |cons n ns ih=>
  intro vs w;rw[mP1]at w;cases w with
  |cons a b=>
   cases a;exact .cons _ _ (ih _ b)
theorem zk{l:OpenLaw}{n:Nat}(hn:l.most=some n){P:Params}{h:df}{args:List WData}{c:List cZ}(b:l.row.toRowW.claim.pre args=true)(k:WellAll P h c args):
  ∃a vs ns,c=[Value.ref a]/\args=[WData.list (ns.map WData.int)]/\h.get? a=Z {cls:=.type "list",data:=.seq vs.toArray}/\IntsAre vs ns/\ns.length<=n:=by
 have j:WShape.hasAll [] args [.list .int]=M:=(pre_splitW b).1;have hc:l.pre.holds [] {args:=args}=M:=(pre_splitW b).2;obtain⟨d,r,rfl,h1,h2⟩:=hasAllW_cons j;obtain rfl:=hasAllW_nil h2;obtain⟨xs,rfl,m⟩:=hasW_list h1;obtain⟨ns,rfl⟩:=items_int m;have f:ns.length<=n:=by
  unfold OpenLaw.pre at hc;have g:(WTm.not (.lt (.lit (.int (n:Int))) (.len (.arg 0)))).holds [] {args:=[.list (ns.map .int)]}=M:=by
   have g:=(holds_andW hc).1;rw[hn]at g;exact g
  have i:=condW_of g (w_not (w_lt w_lit (w_len_list (w_arg O))));rw[lM1]at i;refine Nat.le_of_not_lt λq=>?_;have s:(n:Int)<((ns.length:Nat):Int):=by omega
  first
   |(rw[ah s]at i;exact absurd i (by decide))
   |(simp at i;omega)
 cases k with
 |cons p t=>
  cases t;cases p with
  |list o e=>exact⟨_,_,ns,O,O,o,nR ns _ e,f⟩
theorem zm(l:OpenLaw)(args:List WData):l.row.toRowW.claim.post args (.bool M) args=M:=
 postW_of (r:=l.row.toRowW) (X:=(M == M))
  (show WShape.has [] (.bool M) .bool=M by first|rfl|decide|simp[WShape.has,WShape.arms,WShape.armsAll])
  (show(WTm.eq .res (.lit (.bool M))).value [] {args:=args,res:=Z (.bool M),after:=args}=Z (.bool (M == M))from w_eq_bool (w_res O) w_lit) O
theorem attach_call {l:OpenLaw}{n:Nat}{q:c5}{c:List Str}{XP:(Str->Option cZ)->df->Prop}{A:c7->df->Prop}{d:DefRec}
  (hn:l.most=Z n) (t:d.params.defaults=[])
  (call:∀(w:c7) (e b:c3) (mg s:Str->Option cZ) (k:c4) (o:Obj) (y p g:cZ) (a:c4) (vs:List cZ) (ns:List Int),
   Ground q c [] XP w e mg s b.heap->A w b.heap ->
   b.heap.get? k=Z o->o.data = .func (docDef d.name d.params d.body d.scope y p g)->b.heap.CodeRec p d.name->mg d.name=Z (.ref k) ->
   b.heap.get? a=Z {cls:=.type "list",data:=.seq vs.toArray}->IntsAre vs ns->ns.length<=n->b.gens = #[] ->
   de (model l.prog w) callerA (.call (.ref k) ⟨[.ref a],[]⟩) (λr s'=>r = .ok (.ret (.bool M))/\OldK b.heap s'.heap/\s'.os=b.os/\AllBare s'.gens) b):
  WalkO q c XP A l.row.toRowW d [] (λf vs=>PySem.call f vs):=by
 intro w e b mg s G aq k o y p g ao kV F I v C x L z B as j D E u K;obtain rfl:ao = .none:=Dflts.none C t;obtain rfl:kV = .none:=Dflts.noKw C;obtain⟨a,vs,ns,rfl,rfl,m,h,i⟩:=zk hn j u;refine enter_call (codeAny_mono (call w e b mg s k o y p g a vs ns G aq F (fd_plain I) v x m h i L) λr s' au=>?_);obtain⟨rfl,h2,H,am⟩:=au;exact⟨.inl ⟨.bool M,.bool M,[],O,λ_=>rfl,.bool M,zm l _,λ_=>⟨List.Pairwise.nil,λ_ N=>(nomatch N)⟩⟩,h2,H,am⟩
section
variable{prog:c5}{w:c7}{A:c6}{E:cZ->c3->Prop}{s:c3}{K:Frag}
end
end Att
namespace L2
open PySem PySem.Spec PyProof.Rows
theorem y3:∀{vs:List cZ} {ns:List Int},IntsAre vs ns->d4 (ns.map V.int) vs:=by
 intro vs ns h
 induction h with
 |nil=>exact .nil
 |cons n t h ih=>exact .cons ⟨t,O⟩ ih
def F6(H:Hp):Prop:=∀b,H b=Y \/ ∃o xs,H b=Z (.frz o (.lst xs))
theorem Co {P:c5}{w:c7}{K:Fg1}{mg C:Str->Option cZ}{CX:Ay}{k:Nat}{am a:c4}{fd:dg}{x:Str}{sp:Sp}{s₁:c3}{vs:List cZ}{ns:List Int}
  (S:K.In s₁.heap) (B:s₁.heap.Ns c8 mg) (hb:s₁.heap.Ns builtinsNs C) (D:∀x:Str,x≠"__name__"->C x=bootBuiltins x) (t:s₁.heap.NoLimit) (hg:s₁.gens = #[])
  (ha:s₁.heap.get? a=Z {cls:=.type "list",data:=.seq vs.toArray}) (hi:IntsAre vs ns) (R:ns.length<=da) (hr:ge k callerA)
  (F:∀base:df,K.In base->base.Ns c8 mg->m6 P w K mg base CX k am fd [x] sp) (g:∀(s:c3) (u:cZ),BindsTo s fd ⟨[u],[]⟩ [(x,u)])
  (L:∀H:Hp,F6 H->m4 K H a (ns.map V.int)->sp [.ref a] H (λv _=>v = .bl M) λ_ _ _=>False)
  (G:∀H e s',CX [] H s₁ (λ_ _ _=>False) e s'->False):
  de (model P w) callerA (.call (.ref am) ⟨[.ref a],[]⟩) (λr s'=>r = .ok (.ret (.bool M))/\OldK s₁.heap s'.heap/\s'.os=s₁.os/\AllBare s'.gens) s₁:=by
 have Q:=y3 hi;have p:=hi.length
 -- from an abstract heap in which nothing but the script may be tracked
 have f:∀ H:Hp,F6 H->m4 K H a (ns.map V.int)->lK P w H s₁.heap->(∀ b,H b≠none->b=a)->(H a≠none->K.lookup a=none) ->
   de (model P w) callerA (.call (.ref am) ⟨[.ref a],[]⟩) (λr s'=>r = .ok (.ret (.bool M))/\OldK s₁.heap s'.heap/\s'.os=s₁.os/\AllBare s'.gens) s₁:=by
  intro H au hS i N aq;have base_of:∀{b:c4} {o:Obj},s₁.heap.get? b=Z o->H b=Y->(tN s₁.heap H).get? b=Z o:=λe n=>CD e n;have I:∀{b:c4} {o:Obj} {es:Array DictEntry} {ep:Nat},s₁.heap.get? b=Z o->o.data = .dict es ep->H b=Y:=λ{b o es ep} e d=>by
   cases q:H b with
   |none=>rfl
   |some u=>
    have E:b=a:=N b (by rw[q];simp);subst E;rw[ha]at e;cases e;have d':Data.seq vs.toArray _=Data.dict es ep:=d;cases d'
  have c:∀{b:c4} {m:Str->Option cZ},s₁.heap.Ns b m->(tN s₁.heap H).Ns b m:=λ{b m} ⟨o,es,ep,e,d,r⟩=>⟨o,es,ep,base_of e (I e d),d,r⟩;have l:K.In (tN s₁.heap H):=λb o e=>base_of (S b o e) (by
   cases q:H b with
   |none=>rfl
   |some u=>
    have E:b=a:=N b (by rw[q];simp);subst E;rw[aq (by rw[q];simp)]at e;cases e)
  have X:Mod K mg (tN s₁.heap H):=⟨l,c B,⟨C,c hb,D⟩,let ⟨mc,h1,h2⟩:=t;⟨mc,c h1,h2⟩⟩;have e0:F8 P w K mg (tN s₁.heap H) callerA [] s₁ H:=⟨O,X,λb o e=>Et e,Nat.le_of_eq (zO _ _),trivial,λb hb=>absurd (show b∈([]:List c4)from hb) (by simp),i,.of_eq hg⟩;refine codeAny_mono ((F _ l (c B)).run callerA [] s₁ H ⟨[.ref a],[]⟩ [.ref a] [.ref a] _ _ hr e0 (g s₁ (.ref a)) (.cons O .nil) (L H au hS)) λr s' h=>?_;cases r with
  |error e=>exact(G H e s' h).elim
  |ok T=>
   cases T with
   |next=>exact False.elim h
   |brk=>exact False.elim h
   |cont=>exact False.elim h
   |ret u=>
    obtain⟨v,H',U,y,un,j,r',q⟩:=h;have W:v = .bl M:=q;subst W;obtain rfl:u=Value.bool true:=r';refine⟨O,OldK.of_keep λb o e=>?_,U,y⟩;cases q:H b with
    |none=>exact un.keep b o e q (by intro z;exact absurd (show b∈([]:List c4)from z) (by simp)) (by simp)
    |some u=>
     rcases au b with z|⟨ob,xs,z⟩
     ·rw[q]at z;cases z
     ·have z2:=un.frzs b ob _ z;obtain⟨ao,_⟩:=i b _ z;obtain⟨wq,_⟩:=j b _ z2;rw[e]at ao;cases ao;exact wq
 cases hk:K.lookup a with
 |some o=>
  -- the script is one of the module's own objects
  have e:=S a o hk;rw[ha]at e;cases e;refine f (λ_=>Y) (λ_=>.inl O) (.inr ⟨_,vs.toArray,_,hk,O,O,O,by rw[sT1,p];exact R,by simpa using Q⟩) (λb u z=>by have A:(Y:Option HO)=Z u:=z;cases A) (λb z=>absurd O z) λz=>absurd O z
 |none=>
  refine f (λb=>if b=a then Z (.frz {cls:=.type "list",data:=.seq vs.toArray} (.lst (ns.map V.int)))else Y) (λb=>?_) (.inl (.inr ⟨{cls:=.type "list",data:=.seq vs.toArray},ak O⟩)) (λb u z=>?_) (λb z=>?_) λ_=>hk
  ·by_cases hb:b=a
   ·exact .inr ⟨_,_,ak hb⟩
   ·exact .inl (aj hb)
  ·by_cases hb:b=a
   ·have A:=(ak hb).symm.trans z;cases A;subst hb;exact⟨ha,by rw[lM1];exact R,vs,_,Q,ha⟩
   ·have A:=(aj hb).symm.trans z;cases A
  ·by_cases hb:b=a
   ·exact hb
   ·exact absurd (aj hb) z
theorem DJ{l:PySem.W.OpenLaw}{n k:Nat}{q:c5}{c:List Str}{XP:(Str->Option cZ)->df->Prop}{A:c7->df->Prop}{d:DefRec}{K:Params->Fg1}{CX:c7->Ay}{sp:c7->Sp}{x:Str}(hn:l.most=some n)(y:n<=da)(p:d.params.defaults=[])(hr:ge k callerA)(am:∀(w:c7) (h:df),A w h->(K w.params).In h)(F:∀(w:c7) (mg:Str->Option cZ) (m:c4) (h:df),(K w.params).In h->h.Ns c8 mg->mg d.name=some (.ref m) ->
   ∃fd:dg,(∀(s:c3) (u:cZ),BindsTo s fd ⟨[u],[]⟩ [(x,u)]) /\
    ∀base:df,(K w.params).In base->base.Ns c8 mg->m6 l.prog w (K w.params) mg base (CX w) k m fd [x] (sp w))(z:∀(w:c7) (H:Hp) (a:c4) (ns:List Int),ns.length<=n->F6 H->m4 (K w.params) H a (ns.map V.int)->sp w [.ref a] H (λv _=>v = .bl M) λ_ _ _=>False)(r:∀(w:c7) (H:Hp) (s:c3) (e:cZ) (s':c3),CX w [] H s (λ_ _ _=>False) e s'->False):
  PySem.W.WalkO q c XP A l.row.toRowW d [] (λf vs=>PySem.call f vs):=by
 refine Att.attach_call hn p λw B i mg Q m o T S I a vs ns G aq P R E t j g b L=>?_;have C:=am w _ aq;obtain⟨fd,N,ao⟩:=F w mg m _ C G.T.g t;exact Co C G.T.g G.T.b G.T.builtins G.T.nolimit L j g (aC b y) hr ao N (λH D au=>z w H a ns b D au) λH e s'=>r w H i e s'
def i9(s:di):Arguments:=match s with
 | .FunctionDef _ a _ _ _ _ _ _ _ _=>a
 |_=>{posonlyargs:=[],args:=[],vararg:=Y,kwonlyargs:=[],kw_defaults:=[],kwarg:=Y,defaults:=[]}
def fA(s:di):List di:=match s with
 | .FunctionDef _ _ b _ _ _ _ _ _ _=>b
 |_=>[]
def dX(s:di):dj:=match s with
 | .FunctionDef _ _ _ _ _ _ sc _ _ _=>sc
 |_=>{kind:=.function,names:=[],isGenerator:=J,isCoroutine:=J}
abbrev vW:Ay:=λ_ _ _ _ _ _=>False
abbrev E0:XK:=λ_ _ _=>False
theorem KG{X:Cx}:xA vW X E0:=λ_ _ _ _ _ _ _ h=>h.elim
structure yY (K:Fg1)(x qual:Str)(st:di)(f:c4)(fd:dg):Prop where
 ex:∃(oc:cZ) (od:Option c4) (kV doc pm:cZ) (an:Option c4) (cdv ct:cZ) (osl:Array (Option cZ)),
  fd=wF1 x qual (i9 st) (fA st) (dX st) .none kV doc pm an cdv ct/\K.lookup f=some ⟨oc,od,.func fd,osl⟩/\wC1 K cdv qual=true
 kp:wK1 K (.ref f)=true
section
variable{P:c5}{w:c7}{K:Fg1}{mg:Str->Option cZ}{base:df}
theorem yY.ok{x b:Str}{st:di}{f:c4}{fd:dg}{N ps:List Str}{k:Nat}{sp:Sp}(F:yY K x b st f fd)(S:hC N ps (dX st))(len:∀ vs H Q E,sp vs H Q E->vs.length=ps.length)(d:∀(c:cZ) (A:c6) (a:List Env) (s:c3) (H:Hp) (vs:List V) (Q:VK) (E:XK),ge k (A.deeper (envOfC b (dX st) s.heap.objs.size f c))->sp vs H Q E ->
   ∃t,v6 (nV vW P w K mg base N b (dX st) f c A a s H E).nox (fA st) t/\t {nx:=λ_ H'=>Q .non H',rt:=Q} (start N vs) H):m6 P w K mg base vW (k+1) f fd ps sp:=by
 obtain⟨o,r,kV,m,n,p,c,ct,i,rfl,j,e⟩:=F.ex;refine Ll j e S len λA a s H vs Q E l g=>?_;obtain⟨t,h,q⟩:=d c A a s H vs Q E l g;exact⟨t,h.nox,q⟩
theorem yY.binds{x a:Str}{st:di}{f:c4}{fd:dg}{ps:List Str}(F:yY K x a st f fd)(h:∀(kV c g:cZ) (e:Option c4) (b ct:cZ) (d:List cZ),d.length=ps.length->bindArgs (wF1 x a (i9 st) (fA st) (dX st) .none kV c g e b ct) ⟨d,[]⟩=pure (ps.zip d)):ku K fd ps []:=by
 obtain⟨k,m,kV,c,g,e,b,ct,i,rfl,l,j⟩:=F.ex;exact .all (h kV c g e b ct)
theorem CO{x a:Str}{st:di}{f:c4}{j:cZ}{i g:Option c4}{e:Array (Option cZ)}{kV d h b ct:cZ}(l:K.lookup f=Z ⟨j,i,.func (wF1 x a (i9 st) (fA st) (dX st) .none kV d h g b ct),e⟩)(c:wC1 K b a=M)(k:wK1 K (.ref f)=M):yY K x a st f (wF1 x a (i9 st) (fA st) (dX st) .none kV d h g b ct):=⟨⟨j,i,kV,d,h,g,b,ct,e,O,l,c⟩,k⟩
end
variable{X:Cx}
def Ao(H H':Hp):Prop:=∀b o,H b=Z o->H' b=Z o
theorem Ao.trans{H H1 H2:Hp}(a:Ao H H1)(b:Ao H1 H2):Ao H H2:=λc o h=>b c o (a c o h)
theorem Ao.free{H H':Hp}(e:Ao H H'){l:c4}(h:H' l=Option.none):H l=Option.none:=by
 cases q:H l with
 |none=>rfl
 |some o=>
  rw[e l o q]at h;cases h
section
variable{κ:Type} [DecidableEq κ]
def jA(kvs:List (κ×V))(k:κ):Option V:=(kvs.find? λkv=>decide (kv.1=k)).map (·.2)
def ik(kvs:List (κ×V))(k:κ)(v:V):List (κ×V):=
 if(kvs.any λkv=>decide (kv.1=k))=M then kvs.map (λkv=>if kv.1=k then(kv.1,v)else kv)else kvs++[(k,v)]
theorem oG{p:κ×V}{r:List (κ×V)}{k:κ}(e:p.1=k):jA (p::r) k=Z p.2:=by simp[jA,bm,e]
theorem oH{p:κ×V}{r:List (κ×V)}{k:κ}(e:¬ p.1=k):jA (p::r) k=jA r k:=by simp[jA,bm,e]
theorem ut(k:κ):∀kvs:List (κ×V),(kvs.any λa=>decide (a.1=k))=(jA kvs k).isSome
 |[]=>rfl
 |p::r=>by
  rw[bn];by_cases e:p.1=k
  ·simp only[oG e,ah e,Bool.true_or,Option.isSome_some]
  ·rw[oH e,ai e,Bool.false_or];exact ut k r
theorem j7(kvs:List (κ×V))(k:κ)(v:V):(ik kvs k v).length<=kvs.length+1:=by
 unfold ik;split
 ·rw[lM1];lia
 ·rw[lA1,lC1,bo];lia
theorem m5.isSome_eq{o:Option V}{u:Option cZ}(r:m5 o u):o.isSome=u.isSome:=by
 cases o with
 |none=>cases u with
  |none=>rfl
  |some _=>exact(show False from r).elim
 |some _=>cases u with
  |none=>exact(show False from r).elim
  |some _=>rfl
theorem m5.getD{o:Option V}{u:Option cZ}{d:V}{d':cZ}(r:m5 o u)(a:dS d d'):dS (o.getD d) (u.getD d'):=by
 cases o with
 |none=>cases u with
  |none=>exact a
  |some _=>exact(show False from r).elim
 |some _=>cases u with
  |none=>exact(show False from r).elim
  |some _=>exact r
theorem KV.val{kvs:List (κ×V)}{vs:List (κ×cZ)}(r:KV kvs vs)(k:κ):m5 (jA kvs k) (valueAt vs k):=by
 unfold KV at r
 induction r with
 |nil=>exact True.intro
 | @cons p q ps a h t ih=>
  obtain⟨h1,h2⟩:=h;by_cases e:p.1=k
  ·have c:q.1=k:=h1.symm.trans e;have b:valueAt (q::a) k=Z q.2:=by simp[valueAt,bm,c]
   rw[oG e,b];exact h2
  ·have c:¬ q.1=k:=λz=>e (h1.trans z);have b:valueAt (q::a) k=valueAt a k:=by simp[valueAt,bm,c]
   rw[oH e,b];exact ih
theorem KV.any{kvs:List (κ×V)}{vs:List (κ×cZ)}(r:KV kvs vs)(k:κ):(kvs.any λa=>decide (a.1=k))=vs.any λa=>decide (a.1=k):=by
 unfold KV at r
 induction r with
 |nil=>rfl
 |cons h t ih=>rw[bn,bn,ih,h.1]
theorem KV.repl{kvs:List (κ×V)}{vs:List (κ×cZ)}(r:KV kvs vs)(k:κ){y:V}{u:cZ}(b:dS y u):
  KV (kvs.map λa=>if a.1=k then(a.1,y)else a) (vs.map λa=>if a.1=k then(a.1,u)else a):=by
 unfold KV at r ⊢
 induction r with
 |nil=>exact .nil
 | @cons p q ps c h t ih=>
  rw[mP1,mP1];refine .cons ?_ ih;obtain⟨h1,h2⟩:=h;by_cases e:p.1=k
  ·rw[ak e,ak (h1.symm.trans e)];exact⟨h1,b⟩
  ·rw[aj e,aj (λz=>e (h1.trans z))];exact⟨h1,h2⟩
theorem KV.put{kvs:List (κ×V)}{vs:List (κ×cZ)}(r:KV kvs vs)(k:κ){y:V}{u:cZ}(a:dS y u):KV (ik kvs k y) (stored vs k u):=by
 unfold ik stored;rw[r.any k];by_cases e:(vs.any λb=>decide (b.1=k))=M
 ·rw[ak e,ak e];exact r.repl k a
 ·rw[aj e,aj e];exact Paired.snoc r ⟨O,a⟩
theorem KV.length{kvs:List (κ×V)}{vs:List (κ×cZ)}(r:KV kvs vs):kvs.length=vs.length:=Paired.length r
end
theorem pF{P:c5}{w:c7}{k:Key}{u:cZ}(r:dS (kV k) u):(eE P w).is k u=M:=by
 cases k with
 |inl i=>obtain⟨t,e⟩:=(show∃t,u=Value.int i t from r);subst e;exact va P w i t
 |inr x=>obtain⟨t,e⟩:=(show∃t,u=Value.str x t from r);subst e;exact u9 P w x t
theorem rQ{P:c5}{w:c7}:∀{ks:List Key} {a:List cZ},d4 (ks.map kV) a->ItemsAre (eE P w) ks a
 |[],_,r=>by rw[bj]at r;cases r;exact .nil
 |k::ks,_,r=>by
  rw[mP1]at r;cases r with
  |cons h t=>exact .cons (pF h) (rQ t)
abbrev KT(H:Hp):List (List Key×V)->List (List Key×c4×cZ)->Prop:=Paired λp q=>p.1=q.1/\H q.2.1=Z (.tup (p.1.map kV))/\dS p.2 q.2.2
theorem KT.val{H:Hp}{kvs:List (List Key×V)}{xs:List (List Key×c4×cZ)}(r:KT H kvs xs)(k:List Key):m5 (jA kvs k) ((atKey xs k).map (·.2)):=by
 induction r with
 |nil=>exact True.intro
 | @cons p q ps a h t ih=>
  obtain⟨h1,_,h2⟩:=h;by_cases e:p.1=k
  ·have c:q.1=k:=h1.symm.trans e;have b:atKey (q::a) k=Z q.2:=by simp[atKey,bm,c]
   rw[oG e,b];exact h2
  ·have c:¬ q.1=k:=λz=>e (h1.trans z);have b:atKey (q::a) k=atKey a k:=by simp[atKey,bm,c]
   rw[oH e,b];exact ih
theorem KT.repl{H:Hp}{kvs:List (List Key×V)}{xs:List (List Key×c4×cZ)}(r:KT H kvs xs)(k:List Key){y:V}{u:cZ}(c:dS y u):
  KT H (kvs.map λa=>if a.1=k then(a.1,y)else a) (xs.map (putAt k u)):=by
 induction r with
 |nil=>exact .nil
 | @cons p q ps d h t ih=>
  rw[mP1,mP1];refine .cons ?_ ih;obtain⟨h1,h2,b⟩:=h;unfold putAt;by_cases e:p.1=k
  ·rw[ak e,ak (h1.symm.trans e)];exact⟨h1,h2,c⟩
  ·rw[aj e,aj (λz=>e (h1.trans z))];exact⟨h1,h2,b⟩
theorem KT.put{H:Hp}{kvs:List (List Key×V)}{xs:List (List Key×c4×cZ)}(r:KT H kvs xs)(k:List Key){b:c4}{y:V}{u:cZ}(hb:H b=some (.tup (k.map kV)))(a:dS y u):
  KT H (ik kvs k y) (storedH xs k b u):=by
 have e:(kvs.any λc=>decide (c.1=k))=(atKey xs k).isSome:=by
  rw[ut,(r.val k).isSome_eq,bp]
 unfold ik storedH;rw[e];by_cases q:(atKey xs k).isSome=M
 ·rw[ak q,ak q];exact r.repl k a
 ·rw[aj q,aj q];exact Paired.snoc r ⟨O,hb,a⟩
theorem KT.keeps{H H':Hp}{kvs:List (List Key×V)}{xs:List (List Key×c4×cZ)}(r:KT H kvs xs)(ht:∀b ys,H b=Z (.tup ys)->H' b=Z (.tup ys)):KT H' kvs xs:=
 Paired.mapP r λ_ _ z=>⟨z.1,ht _ _ z.2.1,z.2.2⟩
section
variable{P:c5}{w:c7}{H:Hp}{h:df}{a:c4}
theorem Gm{u:HO}(ok:lK P w H h)(e:Rd H a u):eL P w H h a u:=e.ok ok
theorem si{kvs:List (Key×V)}(ok:lK P w H h)(e:Rd H a (.dK kvs)):kvs.length<=da/\(a == sysModules)=J /\ ∃vs,KV kvs vs/\h.DictOf (eE P w) a vs:=
 show eL P w H h a (.dK kvs)from Gm ok e
theorem yD{kvs:List (Key×V)}(ok:lK P w H h)(e:H a=Z (.dK kvs)):kvs.length<=da/\(a == sysModules)=J /\ ∃vs,KV kvs vs/\h.DictOf (eE P w) a vs:=si ok (.inl e)
theorem pE{ks:List Key}(ok:lK P w H h)(e:H a=Z (.tup (ks.map kV))):(tupleKind (eE P w)).is h ks a:=by
 obtain⟨_,b,r,o,h1,h2,n,c⟩:=(show eL P w H h a (.tup (ks.map kV))from ok a _ e);exact⟨o,b.toArray,n,h1,h2,c,by simpa using rQ r⟩
theorem vE{kvs:List (List Key×V)}(ok:lK P w H h)(e:Rd H a (.dT kvs)):kvs.length<=da/\(a == sysModules)=false /\
  ∃xs,KT H kvs xs/\h.DictOfH (tupleKind (eE P w)) a xs:=by
 obtain⟨z,y,xs,r,o,es,ep,h1,h2,d,f,g⟩:=(show eL P w H h a (.dT kvs)from Gm ok e);refine⟨z,y,xs,r,o,es,ep,h1,h2,d,f,λx b=>?_,g⟩;have all:∀{l:List (List Key×V)} {m:List (List Key×c4×cZ)},KT H l m -> ∀x∈m,(tupleKind (eE P w)).is h x.1 x.2.1:=by
  intro l m q
  induction q with
  |nil=>intro x b;exact nomatch b
  | @cons p q ps i c t ih=>
   intro x b;rcases aE.mp b with e|b
   ·subst e;exact pE ok (by rw[<- c.1];exact c.2.1)
   ·exact ih x b
 exact all r x b
theorem Lx{kvs:List (List Key×V)}(ok:lK P w H h)(e:H a=some (.dT kvs)):kvs.length<=da/\(a == sysModules)=false /\
  ∃xs,KT H kvs xs/\h.DictOfH (tupleKind (eE P w)) a xs:=vE ok (.inl e)
end
def rf(H:Hp)(a:c4)(y:V)(r:Option V):Prop:=
 (∃kvs k,Rd H a (.dK kvs)/\y=kV k/\r=jA kvs k) \/ ∃kvs k b,Rd H a (.dT kvs)/\y = .ref b/\H b=Z (.tup (k.map kV))/\r=jA kvs k
def Ar(H:Hp)(a:c4)(y v:V)(H':Hp):Prop:=
 (∃kvs k,H a=Z (.dK kvs)/\y=kV k/\kvs.length<da/\H'=upd H a (.dK (ik kvs k v))) \/
 ∃kvs k b,H a=Z (.dT kvs)/\y = .ref b/\H b=Z (.tup (k.map kV))/\kvs.length<da/\H'=upd H a (.dT (ik kvs k v))
theorem rf.k{H:Hp}{a:c4}{kvs:List (Key×V)}{k:Key}(e:H a=Z (.dK kvs)):rf H a (kV k) (jA kvs k):=.inl ⟨kvs,k,.inl e,O,O⟩
theorem rf.t{H:Hp}{a b:c4}{kvs:List (List Key×V)}{k:List Key}(e:H a=Z (.dT kvs))(c:H b=Z (.tup (k.map kV))):rf H a (.ref b) (jA kvs k):=.inr ⟨kvs,k,b,.inl e,O,c,O⟩
theorem Ar.k{H:Hp}{a:c4}{kvs:List (Key×V)}{k:Key}{v:V}(e:H a=Z (.dK kvs))(b:kvs.length<da):Ar H a (kV k) v (upd H a (.dK (ik kvs k v))):=.inl ⟨kvs,k,e,O,b,O⟩
theorem Ar.t{H:Hp}{a b:c4}{kvs:List (List Key×V)}{k:List Key}{v:V}(e:H a=some (.dT kvs))(d:H b=some (.tup (k.map kV)))(c:kvs.length<da):
  Ar H a (.ref b) v (upd H a (.dT (ik kvs k v))):=.inr ⟨kvs,k,b,e,O,d,c,O⟩
section
variable{ag:List (c4×Obj)}{σ:St}{H:Hp}{s:c3}{a:c4}{y v:V}{u r:cZ}{o:Option V}{A:c6}{E:cZ->c3->Prop}
theorem Inv.big(I:Inv X ag σ H s):sysModules<s.heap.objs.size:=by
 have h:c8<s.heap.objs.size:=(I.mod.glob.keeps I.bk).lt;exact bq (by decide) h
theorem Ab{Q:cZ->c3->Prop}(w:A.units+1<cLine)(I:Inv X ag σ H s)(g:rf H a y (some v))(q:dS y u)(h:∀ f s',Inv X ag σ H s'->dS v f->Q f s'):
  db (model X.prog X.w) A (getItem (.ref a) u) Q E s:=by
 rcases g with⟨kvs,k,e,i,l⟩|⟨kvs,k,b,e,i,x,l⟩
 ·subst i;obtain⟨z,t,vs,c,n⟩:=si I.hok e;obtain⟨f,m,d⟩:=m5.some_of (v:=v) (o:=valueAt vs k) (by rw[l];exact c.val k);exact wpAny_getItem_of (pF q) n.mapOf m (h f _ (I.tok _) d)
 ·subst i;cases(show u=Value.ref b from q);obtain⟨z,t,xs,c,n⟩:=vE I.hok e;obtain⟨f,m,d⟩:=m5.some_of (v:=v) (o:=(atKey xs k).map (·.2)) (by rw[l];exact c.val k);obtain⟨p,r,j⟩:=oM1.mp m;refine wpAny_getItem_heap (tupleKind_room_in1 w) (pE I.hok x) n r ?_;rw[j];exact h f _ (I.tok _) d
theorem Nf{Q:cZ->c3->Prop}(m:A.units+1<cLine)(I:Inv X ag σ H s)(g:rf H a y o)(j:dS y u)(h:∀ s',Inv X ag σ H s'->Q (.bool o.isSome) s'):
  db (model X.prog X.w) A (compareOp .In u (.ref a)) Q E s:=by
 rcases g with⟨kvs,k,e,d,l⟩|⟨kvs,k,b,e,d,n,l⟩
 ·subst d;obtain⟨z,i,vs,c,f⟩:=si I.hok e;refine wpAny_in_of (pF j) i f.mapOf ?_;rw[<- (c.val k).isSome_eq,<- l];exact h _ (I.tok _)
 ·subst d;cases(show u=Value.ref b from j);obtain⟨z,i,xs,c,f⟩:=vE I.hok e;refine wpAny_in_heap (tupleKind_room_in1 m) (pE I.hok n) i f ?_;have q:=(c.val k).isSome_eq;rw[bp]at q;rw[<- q,<- l];exact h _ (I.tok _)
theorem FB{Q:cZ->c3->Prop}(m:A.units+1<cLine)(I:Inv X ag σ H s)(g:rf H a y o)(j:dS y u)(h:∀ s',Inv X ag σ H s'->Q (.bool (!o.isSome)) s'):
  db (model X.prog X.w) A (compareOp .NotIn u (.ref a)) Q E s:=by
 rcases g with⟨kvs,k,e,d,l⟩|⟨kvs,k,b,e,d,n,l⟩
 ·subst d;obtain⟨z,i,vs,c,f⟩:=si I.hok e;refine wpAny_notIn_of (pF j) i f.mapOf ?_;rw[<- (c.val k).isSome_eq,<- l];exact h _ (I.tok _)
 ·subst d;cases(show u=Value.ref b from j);obtain⟨z,i,xs,c,f⟩:=vE I.hok e;refine wpAny_notIn_heap (tupleKind_room_in1 m) (pE I.hok n) i f ?_;have q:=(c.val k).isSome_eq;rw[bp]at q;rw[<- q,<- l];exact h _ (I.tok _)
theorem mf{h':df}{t':Nat}{c:HO}(I:Inv X ag σ H s)(mu:JL (H a))(hs:Heap.SameBut a s.heap h')(he:∃ q,h'.get? a=some q)(new:eL X.prog X.w (upd H a c) h' a c):
  Inv X ag σ (upd H a c) {s with heap:=h',toks:=t'}:=
 I.write (x:=a) (e:=a) mu (.inl O) (λb q d z=>(hs.2 b d).trans z) he new
theorem C2{P:c5}{w:c7}{H':Hp}{h':df}{kvs:List (Key×V)}{vs:List (Key×cZ)}(z:kvs.length<=da)(hd:(a == sysModules)=false)(b:KV kvs vs)(dd:h'.DictOf (eE P w) a vs):
  eL P w H' h' a (.dK kvs):=⟨z,hd,vs,b,dd⟩
theorem Aa{H':Hp}{Q:Unit->c3->Prop}(am:A.units+1<cLine)(I:Inv X ag σ H s)(g:Ar H a y v H')(D:dS y u)(C:dS v r)(h:∀ s',Inv X ag σ H' s'->Q () s'):
  db (model X.prog X.w) A (setItem (.ref a) u r) Q E s:=by
 rcases g with⟨kvs,k,e,n,l,o⟩|⟨kvs,k,b,e,n,x,l,o⟩
 ·subst n o;obtain⟨z,j,vs,d,w⟩:=yD I.hok e;have m:vs.length<=da:=by rw[<- d.length];exact z
  have p:(ik kvs k v).length<=da:=by have:=j7 kvs k v;lia
  refine wpAny_setItem_pairs (hsz:=m) (pF D) w λh' f t=>h _ ?_;have K:∃q,h'.get? a=Z q:=let ⟨q,_,_,i,_⟩:=f;⟨q,i⟩
  exact mf I (by rw[e];exact True.intro) t K (C2 p j (d.put k C) f)
 ·subst n o;cases(show u=Value.ref b from D);obtain⟨z,j,xs,d,w⟩:=Lx I.hok e;have m:xs.length<=da:=by rw[<- Paired.length d];exact z
  have p:(ik kvs k v).length<=da:=by have:=j7 kvs k v;lia
  refine wpAny_setItem_heap (hsz:=m) (tupleKind_room_in1 am) (pE I.hok x) w λh' f t=>h _ ?_;obtain⟨q,es,ep,i,h2,F,G,_,L⟩:=f;refine mf I (by rw[e];exact True.intro) t ⟨q,i⟩ ⟨p,j,_,(d.put k x C).keeps λc ys B=>?_,q,es,ep,i,h2,F,G,L⟩;rw[d0 (KX B e (λz=>nomatch z))];exact B
end
section
variable{ag:List (c4×Obj)}{σ:St}{H:Hp}{s:c3}{a:c4}{kvs:List (Key×V)}{k:Key}{u:cZ}{A:c6}{E:cZ->c3->Prop}
theorem LA{Q:cZ->c3->Prop}(I:Inv X ag σ H s)(e:Rd H a (.dK kvs))(h:∀t s',Inv X ag σ H s'->Q (.int kvs.length t) s'):db (model X.prog X.w) A (call (.builtin "len") [.ref a]) Q E s:=by
 obtain⟨z,c,vs,b,d⟩:=si I.hok e;refine call_len_dict c d (by rw[<- b.length];rw[sizeLine_eq]at z;lia) ?_;rw[<- b.length];exact h _ _ (I.tok _)
end
theorem vG{X:Cx}{ag:List (c4×Obj)}{σ:St}{H:Hp}{s:c3}{a:c4}{y:V}{o:Option V}(I:Inv X ag σ H s)(g:rf H a y o):s.TypeIs (.ref a) "dict":=by
 rcases g with⟨kvs,k,e,_,_⟩|⟨kvs,k,b,e,_,_,_⟩
 ·obtain⟨_,_,vs,_,c⟩:=si I.hok e;exact c.typeIs
 ·obtain⟨_,_,xs,_,c⟩:=vE I.hok e;exact c.typeIs
section
variable{o i e value:Expr}{pos pos' tpos:Pos}{td ty tv:TE}
end
theorem vF{P:c5}{w:c7}{H:Hp}(h:df)(hb:sysModules<h.objs.size):eL P w H (h.push {cls:=.type "dict",data:=.dict #[]}) h.objs.size (.dK []):=
 ⟨br _,beq_eq_false_iff_ne.mpr (Ne.symm (nN1 hb)),[],.nil,Heap.DictOf.new h⟩
def GY:TE:=λ_ H Q=>∀p,H p=Y->Q (.ref p) (upd H p (.dK []))
section
variable{pos:Pos}
theorem BD:PE X (.Dict [] [] pos) GY:=λag s σ H Q I h=>
 wpAny_Dict_empty ⟨.ref s.heap.objs.size,_,I.laid (a:=s.heap.objs.size) (o:=.dK []) (t':=s.toks) (λ_ _ q=>hP1 _ q) (nR1 _) (vF s.heap I.big),O,h _ (I.hok.fresh (nR1 _))⟩
end
def sL:List (TE×TE)->St->Hp->(List (V×V)->Hp->Prop)->Prop
 |[],_,H,Q=>Q [] H
 |(tk,tv)::r,σ,H,Q=>tk σ H λx H1=>tv σ H1 λy H2=>sL r σ H2 λps H3=>Q ((x,y)::ps) H3
abbrev VV:List (V×V)->List (cZ×cZ)->Prop:=Paired λp q=>dS p.1 q.1/\dS p.2 q.2
def LV(X:Cx)(pos:Pos)(keys:List (Option Expr))(values:List Expr)(trs:List (TE×TE)):Prop:=
 ∀(ag:List (c4×Obj)) (s:c3) (σ:St) (H:Hp) (Q:List (V×V)->Hp->Prop),Inv X ag σ H s->sL trs σ H Q ->
  db (model X.prog X.w) X.A (evalPairs (pairTrees keys values X.env pos)) (λvs s'=>∃ps H',Inv X ag σ H' s'/\VV ps vs/\Q ps H') X.xe s
theorem Eb{X:Cx}{pos:Pos}:LV X pos [] [] []:=λag s σ H Q I h=>pairTrees_nil_walk ⟨[],H,I,.nil,h⟩
theorem Bt{X:Cx}{pos:Pos}{k v:Expr}{ks:List (Option Expr)}{vs:List Expr}{tk tv:TE}{a:List (TE×TE)}(hk:PE X k tk)(hv:PE X v tv)(hr:LV X pos ks vs a):
  LV X pos (Z k::ks) (v::vs) ((tk,tv)::a):=λag s σ H Q I h=>
 pairTrees_cons_walk (fe (hk ag s σ H _ I h) λu i ⟨x,H1,d,c,j⟩=>fe (hv ag i σ H1 _ d j) λq f ⟨y,H2,n,m,o⟩=>
  fe (hr ag f σ H2 _ n o) λws p ⟨ps,e,g,b,l⟩=>⟨(x,y)::ps,e,g,.cons ⟨c,m⟩ b,l⟩)
def jH(kvs more:List (Key×V)):List (Key×V):=more.foldl (λacc kv=>ik acc kv.1 kv.2) kvs
theorem KV.merge:∀{more:List (Key×V)} {rs:List (Key×cZ)} {kvs:List (Key×V)} {vs:List (Key×cZ)},KV more rs->KV kvs vs->KV (jH kvs more) (merged vs rs):=by
 intro more rs kvs vs r;unfold KV at r
 induction r generalizing kvs vs with
 |nil=>intro q;exact q
 | @cons p q ps b h t ih=>
  intro a;have e:KV (ik kvs p.1 p.2) (stored vs q.1 q.2):=by
   have:=a.put p.1 h.2;rw[<- h.1];exact this
  exact ih e
theorem li:∀(more kvs:List (Key×V)),(jH kvs more).length<=kvs.length+more.length
 |[],kvs=>by show kvs.length<=kvs.length+0;lia
 |p::r,kvs=>by
  have h1:=li r (ik kvs p.1 p.2);have h2:=j7 kvs p.1 p.2;show(jH (ik kvs p.1 p.2) r).length<=_;rw[lC1];lia
theorem pZ{P:c5}{w:c7}:∀{kvs:List (Key×V)} {ws:List (cZ×cZ)},VV (kvs.map λd=>(kV d.1,d.2)) ws -> ∃rs,Carries (eE P w) ws rs/\KV kvs rs
 |[],_,r=>by rw[bj]at r;cases r;exact⟨[],True.intro,.nil⟩
 |p::kvs,_,r=>by
  rw[mP1]at r;cases r with
  | @cons a b as bs h t=>
   obtain⟨rs,c,q⟩:=pZ (P:=P) (w:=w) t;obtain⟨b1,b2⟩:=b;exact⟨(p.1,b2)::rs,⟨pF h.1,O,c⟩,.cons ⟨O,h.2⟩ q⟩
def Kk(trs:List (TE×TE)):TE:=fun σ H Q=>∀p,H p=Y->sL trs σ (upd H p (.dK [])) λps H2=>H2 p=Z (.dK []) /\ ∃kvs:List (Key×V),ps=kvs.map (λkv=>(kV kv.1,kv.2))/\kvs.length<=15/\Q (.ref p) (upd H2 p (.dK (jH [] kvs)))
theorem Ei{X:Cx}{pos:Pos}{b:List (Option Expr)}{values:List Expr}{g:List (TE×TE)}(h:LV X pos b values g)(d:b.all (·.isSome)=M)(u:b.length=values.length)(h0:b≠[])(i:b.length<=15):PE X (.Dict b values pos) (Kk g):=by
 intro ag s σ H Q I q;have p:=I.hok.fresh (nR1 s.heap.objs.size);have t:=I.laid (a:=s.heap.objs.size) (o:=.dK []) (h':=s.heap.push {cls:=.type "dict",data:=.dict #[]}) (t':=s.toks) (λ_ _ q=>hP1 _ q) (nR1 _) (vF s.heap I.big);refine wpAny_Dict_walk (knd:=eE X.prog X.w) d u h0 i (fe (h ag _ σ _ _ t (q _ p)) λws B ⟨ps,H2,k,j,e,kvs,ep,C,x⟩=>?_);subst ep;obtain⟨rs,c,rk⟩:=pZ (P:=X.prog) (w:=X.w) j;obtain⟨z,l,A,m,y⟩:=yD k.hok e;cases m;refine⟨rs,c,y,λh' f v=>⟨.ref s.heap.objs.size,_,?_,O,x⟩⟩;have n:(jH [] kvs).length<=da:=by
  have h1:=li kvs [];rw[bo]at h1;rw[sizeLine_eq];lia
 have r:∃q,h'.get? s.heap.objs.size=Z q:=let ⟨q,_,_,hq,_⟩:=f;⟨q,hq⟩
 exact mf k (by rw[e];exact True.intro) v r (C2 n l (rk.merge .nil) f)
structure M2 (X:Cx)(o:Expr)(m:Str)(apos:Pos)(e f:Expr)(cpos:Pos):Prop where
 base:attributeBase o m X.env (eval o X.env)=eval o X.env
 few:((backTo cpos (c9 [e,f] X.env)).all (λx=> !x.1)&&(backToKw cpos (keywordEach [] X.env)).all (λx=>x.1.isSome)
  && decide (([e,f]:List Expr).length+([]:List Keyword).length+(if([]:List Keyword).isEmpty then 0 else 1)<30))=true
 line:(apos.endLine == cpos.line)=true
 trees:backTo cpos (c9 [e,f] X.env)=[(false,eval e X.env),(false,eval f X.env)]
section
variable{ag:List (c4×Obj)}{σ:St}{H:Hp}{s:c3}{a:c4}{y d:V}{u r:cZ}{o:Option V}{A:c6}{E:cZ->c3->Prop}
end
section
variable{o e f:Expr}{apos cpos:Pos}{td ty tx:TE}
end
section
variable{ag:List (c4×Obj)}{σ:St}{H:Hp}{s:c3}{a:c4}{kvs:List (Key×V)}{A:c6}{E:cZ->c3->Prop}
end
section
variable{ag:List (c4×Obj)}{σ:St}{H:Hp}{s:c3}{a:c4}{y:V}{u:cZ}{A:c6}{E:cZ->c3->Prop}
end
end L2
namespace Mi
open PySem PySem.Spec PyProof.Rows L2
inductive TK where
 |non|int (i:Int)|tup (xs:List TK)
instance:DecidableEq TK:=λ_ _=>Classical.propDecidable _
mutual
def TK.hash:TK->Int
 | .non=>0xFCA86420
 | .int i=>hashInt i
 | .tup xs=>reduceHash (Builtin.Tuple.tupleHashOf (TK.hashes xs))
def TK.hashes:List TK->List Int
 |[]=>[]
 |x::xs=>TK.hash x::TK.hashes xs
end
mutual
def TK.draws:TK->Nat
 | .non=>1
 | .int _=>1
 | .tup xs=>TK.drawsAll xs+1
def TK.drawsAll:List TK->Nat
 |[]=>0
 |x::xs=>TK.draws x+TK.drawsAll xs
end
mutual
def TK.dep:TK->Nat
 | .non=>0
 | .int _=>0
 | .tup xs=>TK.depAll xs+1
def TK.depAll:List TK->Nat
 |[]=>0
 |x::xs=>max (TK.dep x) (TK.depAll xs)
end
theorem TK.dep_mem:∀{xs:List TK} {x:TK},x∈xs->x.dep<=TK.depAll xs
 |y::ys,x,h=>by
  rw[TK.depAll];rcases aE.mp h with e|e
  ·rw[e];exact Nat.le_max_left _ _
  ·exact aC (TK.dep_mem e) (Nat.le_max_right _ _)
theorem TK.hashes_app:∀a b:List TK,TK.hashes (a++b)=TK.hashes a++TK.hashes b
 |[],_=>rfl
 |x::xs,b=>by rw[bt,TK.hashes,TK.hashes,TK.hashes_app xs b];rfl
theorem TK.draws_app:∀a b:List TK,TK.drawsAll (a++b)=TK.drawsAll a+TK.drawsAll b
 |[],_=>by simp[TK.drawsAll]
 |x::xs,b=>by rw[bt,TK.drawsAll,TK.drawsAll,TK.draws_app xs b,bu]
def xz(xs:Array Nat):Prop:=xs.toList.Pairwise (· < ·)
def Gj(m:Nat):Nat->Nat->Nat->List Nat
 |0,_,_=>[]
 |n+1,i,b=>List.range' i (SetTable.runEnd m i-i+1)++Gj m n (SetTable.leap m i b).1 (SetTable.leap m i b).2
def N6(m:Nat):Prop:=m=7\/m=31\/m=127
def MH(m:Nat)(h:Int):List Nat:=Gj m (SetTable.turns m) (SetTable.bits h%(m+1)) (SetTable.bits h)
def MK(m:Nat)(occ:List Nat)(h:Int)(j:Nat):Prop:=∃pre post,MH m h=pre++j::post /\ ∀y∈pre,y∈occ
structure MJ (es:Array (Int×cZ))(t:SetTable):Prop where
 mks:N6 t.mask
 up:xz t.place
 du:t.dummies = #[]
 sz:t.place.size=es.size
 le:∀j∈t.place.toList,j<=t.mask
 fl:es.size<=t.mask
 rc:∀z∈t.place.toList.zip es.toList,MK t.mask t.place.toList z.2.1 z.1
def stO(es:Array (Int×cZ))(ep:Nat)(t:SetTable):Obj:={cls:=.type "set",dict:=Y,data:=.set es ep t,slots:= #[]}
def LU(a:c4)(xs:List (TK×c4×cZ))(h:df):Prop:=(xs.map (·.1)).Nodup /\ ∃es ep t,h.get? a=Z (stO es ep t)/\MJ es t/\t.tooFull=J/\(∀e∈es.toList,∃z∈xs,e=(z.1.hash,.ref z.2.1))/\(∀z∈xs,(z.1.hash,Value.ref z.2.1)∈es.toList)/\es.size=xs.length
inductive D where
 |non|bl (b:Bool)|int (i:Int)|str (x:Str)|tup (xs:List D)|rol (xs:List D)|ref (n:Nat)|fn (x:Str)
inductive Ob where
 |lst (xs:List D)|dct (kvs:List (Key×D))|dcT (kvs:List (TK×D))|iset (xs:List Int)|dcF (kvs:List (TK×D))|tst (ks:List TK)
abbrev dr:=List Ob
abbrev Ev:=List (Option D)
abbrev FE:=Ev->dr->Option (D×dr)
abbrev FT:=Ev->dr->Option (Bool×dr)
abbrev FA:=Ev->dr->Option (List D×dr)
abbrev FN:=List D->dr->Option (D×dr)
inductive Fl where
 |nx|rt (d:D)|bk|ct
abbrev FS:=Ev->dr->Option (Fl×Ev×dr)
def RoL(K:Fg1)(H:Hp)(a:c4)(xs:List V):Prop:=(∃o,H a=Z (.frz o (.lst xs))) \/
 ∃(o:Obj) (its:Array cZ) (n:Nat),K.lookup a=Z o/\o.cls = .type "list"/\o.dict=Y/\o.data = .seq its n/\its.size<=da/\d4 xs its.toList
theorem RoL.sq{K:Fg1}{H:Hp}{a:c4}{xs:List V}(h:RoL K H a xs):m4 K H a xs:=h.elim (λ⟨o,q⟩=>.inl (.inr ⟨o,q⟩)) .inr
mutual
inductive eP (K:Fg1)(H:Hp)(mu:List c4):D->V->Prop
 |non:eP K H mu .non .non
 |bl (b:Bool):eP K H mu (.bl b) (.bl b)
 |int (i:Int):eP K H mu (.int i) (.int i)
 |str (x:Str):eP K H mu (.str x) (.str x)
 |tup {ds:List D} {vs:List V} {a:c4} (h:kS K H a vs) (r:dI K H mu ds vs):eP K H mu (.tup ds) (.ref a)
 |rol {ds:List D} {vs:List V} {a:c4} (h:RoL K H a vs) (r:dI K H mu ds vs):eP K H mu (.rol ds) (.ref a)
 |ref {n:Nat} {a:c4} (h:mu[n]?=some a):eP K H mu (.ref n) (.ref a)
 |fn {x:Str} {a:c4} (h:wN1 K c8 x=some (some (.ref a))):eP K H mu (.fn x) (.ref a)
inductive dI (K:Fg1)(H:Hp)(mu:List c4):List D->List V->Prop
 |nil:dI K H mu [] []
 |cons {d:D} {v:V} {ds:List D} {vs:List V} (r:eP K H mu d v) (t:dI K H mu ds vs):dI K H mu (d::ds) (v::vs)
end
structure Ext (mu mu':List c4)(H H':Hp):Prop where
 pre:mu <+: mu'
 old:∀a o,H a=some o->a∉mu->H' a=some o
 tup:∀a xs,Rd H a (.tup xs)->Rd H' a (.tup xs)
 frz:∀a o u,H a=some (.frz o u)->H' a=some (.frz o u)
 new:∀a∈mu',a∈mu\/H a=none
theorem Ext.refl(mu:List c4)(H:Hp):Ext mu mu H H:=⟨bv,λ_ _ h _=>h,λ_ _ h=>h,λ_ _ _ h=>h,λ_ h=>.inl h⟩
theorem Ext.trans{mu m1 m2:List c4}{H H1 H2:Hp}(a:Ext mu m1 H H1)(b:Ext m1 m2 H1 H2):Ext mu m2 H H2 where
 pre:=a.pre.trans b.pre
 old:=λc o h n=>b.old c o (a.old c o h n) λz=>by
  rcases a.new c z with q|q
  ·exact n q
  ·rw[h]at q;cases q
 tup:=λc xs h=>b.tup c xs (a.tup c xs h)
 frz:=λc o u h=>b.frz c o u (a.frz c o u h)
 new:=λc h=>by
  rcases b.new c h with q|q
  ·exact a.new c q
  ·by_cases z:c∈mu
   ·exact .inl z
   ·right;cases e:H c with
    |none=>rfl
    |some o=>rw[a.old c o e z]at q;cases q
theorem Ext.at{mu mu':List c4}{H H':Hp}(e:Ext mu mu' H H'){n:Nat}{a:c4}(h:mu[n]?=Z a):mu'[n]?=Z a:=by
 obtain⟨t,rfl⟩:=e.pre;have b:n<mu.length:=(gE1.mp h).1;rw[gL1 b];exact h
theorem Ext.back{mu mu':List c4}{H H':Hp}(e:Ext mu mu' H H'):Ext mu mu H H':=⟨bv,e.old,e.tup,e.frz,λ_ h=>.inl h⟩
structure ul (mu mu':List c4)(H H':Hp):Prop where
 pre:mu <+: mu'
 tup:∀a xs,Rd H a (.tup xs)->Rd H' a (.tup xs)
 frz:∀a o u,H a=some (.frz o u)->H' a=some (.frz o u)
theorem Ext.w{mu mu':List c4}{H H':Hp}(e:Ext mu mu' H H'):ul mu mu' H H':=⟨e.pre,e.tup,e.frz⟩
theorem ul.trans{mu m1 m2:List c4}{H H1 H2:Hp}(a:ul mu m1 H H1)(b:ul m1 m2 H1 H2):ul mu m2 H H2:=⟨a.pre.trans b.pre,λc xs h=>b.tup c xs (a.tup c xs h),λc o u h=>b.frz c o u (a.frz c o u h)⟩
theorem ul.at{mu mu':List c4}{H H':Hp}(e:ul mu mu' H H'){n:Nat}{a:c4}(h:mu[n]?=Z a):mu'[n]?=Z a:=by
 obtain⟨t,rfl⟩:=e.pre;have b:n<mu.length:=(gE1.mp h).1;rw[gL1 b];exact h
structure GI (mu mu':List c4)(H H':Hp):Prop where
 pre:mu <+: mu'
 tup:∀a xs,Rd H a (.tup xs)->Rd H' a (.tup xs)
 frl:∀a o xs,H a=some (.frz o (.lst xs))->H' a=some (.frz o (.lst xs))
theorem ul.v{mu mu':List c4}{H H':Hp}(e:ul mu mu' H H'):GI mu mu' H H':=⟨e.pre,e.tup,λa o xs h=>e.frz a o _ h⟩
theorem Ext.v{mu mu':List c4}{H H':Hp}(e:Ext mu mu' H H'):GI mu mu' H H':=e.w.v
theorem GI.at{mu mu':List c4}{H H':Hp}(e:GI mu mu' H H'){n:Nat}{a:c4}(h:mu[n]?=Z a):mu'[n]?=Z a:=by
 obtain⟨t,rfl⟩:=e.pre;have b:n<mu.length:=(gE1.mp h).1;rw[gL1 b];exact h
theorem kS.exv{K:Fg1}{mu mu':List c4}{H H':Hp}{a:c4}{vs:List V}(e:GI mu mu' H H')(h:kS K H a vs):kS K H' a vs:=by
 rcases h with h|h
 ·exact .inl (e.tup a vs h)
 ·exact .inr h
theorem RoL.exv{K:Fg1}{mu mu':List c4}{H H':Hp}{a:c4}{vs:List V}(e:GI mu mu' H H')(h:RoL K H a vs):RoL K H' a vs:=by
 rcases h with⟨o,h⟩|h
 ·exact .inl ⟨o,e.frl a o _ h⟩
 ·exact .inr h
theorem eP.exv{K:Fg1}{mu mu':List c4}{H H':Hp}(e:GI mu mu' H H'):∀ {d:D} {v:V},eP K H mu d v->eP K H' mu' d v:=fun h=>h.rec (motive_1:=fun d v _=>eP K H' mu' d v) (motive_2:=fun ds vs _=>dI K H' mu' ds vs)
  .non .bl .int .str (λh _ ih=>.tup (kS.exv e h) ih) (λh _ ih=>.rol (RoL.exv e h) ih) (λh=>.ref (e.at h)) (λh=>.fn h) .nil (λ_ _ a b=>.cons a b)
theorem dI.ind{K:Fg1}{mu:List c4}{H:Hp}{P:(ds:List D)->(vs:List V)->dI K H mu ds vs->Prop}(hn:P [] [] .nil)(hc:∀{d v ds vs} (r:eP K H mu d v) (t:dI K H mu ds vs),P ds vs t->P (d::ds) (v::vs) (.cons r t)){ds:List D}{vs:List V}(h:dI K H mu ds vs):P ds vs h:=
 h.rec (motive_1:=λ_ _ _=>True) (motive_2:=P) trivial (λ_=>trivial) (λ_=>trivial) (λ_=>trivial) (λ_ _ _=>trivial) (λ_ _ _=>trivial) (λ_=>trivial) (λ_=>trivial) hn (λr t _ ih=>hc r t ih)
theorem dI.exv{K:Fg1}{mu mu':List c4}{H H':Hp}(e:GI mu mu' H H'):∀{ds:List D} {vs:List V},dI K H mu ds vs->dI K H' mu' ds vs:=λh=>h.ind (P:=λds vs _=>dI K H' mu' ds vs) .nil λr _ ih=>.cons (eP.exv e r) ih
section
variable{K:Fg1}{mu mu':List c4}{H H':Hp}{a:c4}{vs:List V}
theorem eP.exw(e:ul mu mu' H H'){d:D}{v:V}(h:eP K H mu d v):eP K H' mu' d v:=h.exv e.v
theorem dI.exw(e:ul mu mu' H H'){ds:List D}(h:dI K H mu ds vs):dI K H' mu' ds vs:=h.exv e.v
theorem eP.ext(e:Ext mu mu' H H'){d:D}{v:V}(h:eP K H mu d v):eP K H' mu' d v:=h.exv e.v
theorem dI.ext(e:Ext mu mu' H H'){ds:List D}(h:dI K H mu ds vs):dI K H' mu' ds vs:=h.exv e.v
end
section
variable{K:Fg1}{H:Hp}{mu:List c4}
theorem dI.length:∀{ds:List D} {vs:List V},dI K H mu ds vs->ds.length=vs.length:=λh=>h.ind (P:=λds vs _=>ds.length=vs.length) O λ_ _ ih=>congrArg (· + 1) ih
theorem dI.get:∀{ds:List D} {vs:List V} {i:Nat} {d:D},dI K H mu ds vs->ds[i]?=Z d -> ∃v,vs[i]?=Z v/\eP K H mu d v:=by
 intro ds vs i d h e
 induction h using dI.ind generalizing i with
 |hn=>cases e
 |hc r t ih=>cases i with
  |zero=>cases e;exact⟨_,O,r⟩
  |succ i=>exact ih (i:=i) e
theorem dI.getV:∀{ds:List D} {vs:List V} {i:Nat} {v:V},dI K H mu ds vs->vs[i]?=Z v -> ∃d,ds[i]?=Z d/\eP K H mu d v:=by
 intro ds vs i d h e
 induction h using dI.ind generalizing i with
 |hn=>cases e
 |hc r t ih=>cases i with
  |zero=>cases e;exact⟨_,O,r⟩
  |succ i=>exact ih (i:=i) e
theorem dI.append:∀{ds es:List D} {vs ws:List V},dI K H mu ds vs->dI K H mu es ws->dI K H mu (ds++es) (vs++ws):=λh s=>h.ind (P:=λds vs _=>dI K H mu (ds++_) (vs++_)) s λr _ ih=>.cons r ih
theorem dI.take:∀{ds:List D} {vs:List V} (n:Nat),dI K H mu ds vs->dI K H mu (ds.take n) (vs.take n):=by
 intro ds vs n h
 induction h using dI.ind generalizing n with
 |hn=>rw[av,av];exact .nil
 |hc r t ih=>cases n with
  |zero=>exact .nil
  |succ n=>exact .cons r (ih n)
theorem dI.drop:∀{ds:List D} {vs:List V} (n:Nat),dI K H mu ds vs->dI K H mu (ds.drop n) (vs.drop n):=by
 intro ds vs n h
 induction h using dI.ind generalizing n with
 |hn=>rw[aw,aw];exact .nil
 |hc r t ih=>cases n with
  |zero=>exact .cons r t
  |succ n=>exact ih n
theorem dI.set{d:D}{v:V}(r:eP K H mu d v):∀{ds:List D} {vs:List V} (i:Nat),dI K H mu ds vs->dI K H mu (ds.set i d) (vs.set i v):=by
 intro ds vs i h
 induction h using dI.ind generalizing i with
 |hn=>exact .nil
 |hc q t ih=>cases i with
  |zero=>exact .cons r t
  |succ i=>exact .cons q (ih i)
theorem dI.eraseIdx:∀{ds:List D} {vs:List V} (i:Nat),dI K H mu ds vs->dI K H mu (ds.eraseIdx i) (vs.eraseIdx i):=by
 intro ds vs i h
 induction h using dI.ind generalizing i with
 |hn=>exact .nil
 |hc q t ih=>cases i with
  |zero=>exact t
  |succ i=>exact .cons q (ih i)
theorem dI.reverse:∀{ds:List D} {vs:List V},dI K H mu ds vs->dI K H mu ds.reverse vs.reverse:=by
 intro ds vs h
 induction h using dI.ind with
 |hn=>exact .nil
 |hc r t ih=>rw[aY,aY];exact dI.append ih (.cons r .nil)
end
def KR{κ:Type}(K:Fg1)(H:Hp)(mu:List c4):List (κ×D)->List (κ×V)->Prop:=Paired λp q=>p.1=q.1/\eP K H mu p.2 q.2
mutual
def tkD:TK->D
 | .non=>.non
 | .int i=>.int i
 | .tup xs=>.tup (lN xs)
def lN:List TK->List D
 |[]=>[]
 |x::xs=>tkD x::lN xs
end
def iX(a:c4)(xs:List (TK×c4×cZ))(h:df):Prop:=(a == sysModules)=J/\(xs.map (·.1)).Nodup /\ ∃o es ep,h.get? a=Z o/\o.ExactDict/\o.data = .dict es ep/\es.toList=xs.map λx=>(⟨x.1.hash,.ref x.2.1,x.2.2⟩:DictEntry)
def GJ(a:c4)(xs:List (TK×c4×cZ))(o:Obj):Prop:=(a == sysModules)=J/\(xs.map (·.1)).Nodup/\o.ExactDict /\ ∃es ep,o.data = .dict es ep/\es.toList=xs.map λx=>(⟨x.1.hash,.ref x.2.1,x.2.2⟩:DictEntry)
def KT(K:Fg1)(H:Hp)(mu:List c4):List (TK×D)->List (TK×c4×cZ)->Prop:=Paired λp q=>p.1=q.1/\p.1.dep<=8/\eP K H mu (tkD p.1) (.ref q.2.1) /\ ∃v,dS v q.2.2/\eP K H mu p.2 v
def qw(K:Fg1)(H:Hp)(mu:List c4)(a:c4):Ob->Prop
 | .lst ds=>∃vs,H a=Z (.lst vs)/\dI K H mu ds vs
 | .dct kvs=>∃ws,H a=Z (.dK ws)/\KR K H mu kvs ws
 | .dcT kvs=>∃xs,H a=Z (.ext (iX a xs))/\KT K H mu kvs xs/\xs.length<=da
 | .iset xs=>H a=Z (.set (λk=>xs.contains k) xs.length)/\xs.Nodup
 | .dcF kvs=>∃xs,(∃o u,H a=Z (.frz o u)/\GJ a xs o)/\KT K H mu kvs xs/\xs.length<=da
 | .tst ks=>∃xs,H a=Z (.ext (LU a xs))/\KT K H mu (ks.map λk=>(k,D.non)) xs
structure Sim (K:Fg1)(H:Hp)(mu:List c4)(S:dr):Prop where
 len:mu.length=S.length
 nd:mu.Nodup
 ob:∀(n:Nat) (o:Ob) (a:c4),S[n]?=some o->mu[n]?=some a->qw K H mu a o
structure fG (K:Fg1)(H:Hp)(mu:List c4)(r:Ev)(σ:L2.St):Prop where
 len:r.length=σ.length
 val:∀(i:Nat) (d:D),r[i]?=some (some d) -> ∃v,σ[i]?=some (some v)/\eP K H mu d v
theorem fG.ext{K:Fg1}{mu mu':List c4}{H H':Hp}{r:Ev}{σ:L2.St}(e:Ext mu mu' H H')(h:fG K H mu r σ):fG K H' mu' r σ:=⟨h.len,λi d q=>by
 obtain⟨v,a,b⟩:=h.val i d q;exact⟨v,a,b.ext e⟩⟩
theorem KR.ext{κ:Type}{K:Fg1}{mu mu':List c4}{H H':Hp}{ks:List (κ×D)}{ws:List (κ×V)}(e:Ext mu mu' H H')(h:KR K H mu ks ws):KR K H' mu' ks ws:=
 Paired.mapP h λ_ _ z=>⟨z.1,z.2.ext e⟩
theorem KT.ext{K:Fg1}{mu mu':List c4}{H H':Hp}{ks:List (TK×D)}{ws:List (TK×c4×cZ)}(e:Ext mu mu' H H')(h:KT K H mu ks ws):KT K H' mu' ks ws:=
 Paired.mapP h λ_ _ ⟨z,d,k,v,a,r⟩=>⟨z,d,k.ext e,v,a,r.ext e⟩
theorem Sim.nil{K:Fg1}{H:Hp}:Sim K H [] []:=⟨O,bA,λn o a h=>by simp at h⟩
theorem Sim.here{K:Fg1}{H:Hp}{mu:List c4}{S:dr}(s:Sim K H mu S){a:c4}(h:a∈mu):∃o,H a=Z o:=by
 obtain⟨n,b⟩:=bB h;have c:n<S.length:=by rw[<- s.len];exact(gE1.mp b).1
 have q:=s.ob n _ a (gG1 c) b;cases e:S[n]with
 |lst ds=>rw[e]at q;obtain⟨vs,z,_⟩:=q;exact⟨_,z⟩
 |dct ks=>rw[e]at q;obtain⟨vs,z,_⟩:=q;exact⟨_,z⟩
 |dcT ks=>rw[e]at q;obtain⟨vs,z,_⟩:=q;exact⟨_,z⟩
 |iset xs=>rw[e]at q;exact⟨_,q.1⟩
 |dcF ks=>rw[e]at q;obtain⟨vs,⟨_,_,z,_⟩,_⟩:=q;exact⟨_,z⟩
 |tst ks=>rw[e]at q;obtain⟨vs,z,_⟩:=q;exact⟨_,z⟩
def uh(K:Fg1)(mu:List c4)(H:Hp)(d:D)(S':dr)(Q:VK):Prop:=∀v H' mu',Ext mu mu' H H'->eP K H' mu' d v->Sim K H' mu' S'->Q v H'
inductive tM (K:Fg1)(m:FE)(σ:L2.St)(H:Hp)(Q:VK):Prop
 |mk (r:Ev) (mu:List c4) (S:dr) (d:D) (S':dr) (he:fG K H mu r σ) (hs:Sim K H mu S) (hm:m r S=some (d,S')) (hc:uh K mu H d S' Q)
inductive DM (K:Fg1)(m:FT)(σ:L2.St)(H:Hp)(Q:Bool->Hp->Prop):Prop
 |mk (r:Ev) (mu:List c4) (S:dr) (b:Bool) (S':dr) (he:fG K H mu r σ) (hs:Sim K H mu S) (hm:m r S=some (b,S')) (hc:∀H' mu',Ext mu mu' H H'->Sim K H' mu' S'->Q b H')
inductive Nz (K:Fg1)(m:FA)(σ:L2.St)(H:Hp)(Q:List V->Hp->Prop):Prop
 |mk (r:Ev) (mu:List c4) (S:dr) (ds:List D) (S':dr) (he:fG K H mu r σ) (hs:Sim K H mu S) (hm:m r S=some (ds,S')) (hc:∀vs H' mu',Ext mu mu' H H'->dI K H' mu' ds vs->Sim K H' mu' S'->Q vs H')
def Mv(K:Fg1)(mu:List c4)(H:Hp)(r':Ev)(S':dr)(E:kq)(f:Fl):Prop:=match f with
 | .nx=>∀ σ' H' mu',Ext mu mu' H H'->fG K H' mu' r' σ'->Sim K H' mu' S'->E.nx σ' H'
 | .bk=>∀ σ' H' mu',Ext mu mu' H H'->fG K H' mu' r' σ'->Sim K H' mu' S'->E.bk σ' H'
 | .ct=>∀ σ' H' mu',Ext mu mu' H H'->fG K H' mu' r' σ'->Sim K H' mu' S'->E.ct σ' H'
 | .rt d=>uh K mu H d S' E.rt
inductive xP (K:Fg1)(m:FS)(E:kq)(σ:L2.St)(H:Hp):Prop
 |mk (r:Ev) (mu:List c4) (S:dr) (f:Fl) (r':Ev) (S':dr) (he:fG K H mu r σ) (hs:Sim K H mu S) (hm:m r S=some (f,r',S')) (hc:Mv K mu H r' S' E f)
inductive rN (K:Fg1)(f:FN)(vs:List V)(H:Hp)(Q:VK):Prop
 |mk (mu:List c4) (S:dr) (ds:List D) (d:D) (S':dr) (hr:dI K H mu ds vs) (hs:Sim K H mu S) (hm:f ds S=some (d,S')) (hc:uh K mu H d S' Q)
abbrev ME(X:Cx)(e:Expr)(m:FE):Prop:=PE X e (tM X.K m)
abbrev MT(X:Cx)(e:Expr)(m:FT):Prop:=PT X e (DM X.K m)
abbrev MW(X:Cx)(e:Expr)(m:FT):Prop:=PW X e (DM X.K m)
abbrev MA(X:Cx)(es:List Expr)(m:FA):Prop:=PA X es (Nz X.K m)
abbrev MS(X:Cx)(st:di)(m:FS):Prop:=PS X st (xP X.K m)
abbrev Ap(X:Cx)(st:List di)(m:FS):Prop:=v6 X st (xP X.K m)
variable{X:Cx}
section
variable{e:Expr}{es:List Expr}{st:di}{sts:List di}
theorem eO{t t':TE}(h:PE X e t)(i:∀ σ H Q,t' σ H Q->t σ H Q):PE X e t':=λag s σ H Q I q=>h ag s σ H Q I (i σ H Q q)
theorem wA{t t':TT}(h:PT X e t)(i:∀ σ H Q,t' σ H Q->t σ H Q):PT X e t':=λag s σ H Q I q=>h ag s σ H Q I (i σ H Q q)
theorem Bk{t t':TT}(h:PW X e t)(i:∀ σ H Q,t' σ H Q->t σ H Q):PW X e t':=λa ag s σ H Q I q=>h a ag s σ H Q I (i σ H Q q)
theorem BJ{t t':TA}(h:PA X es t)(i:∀ σ H Q,t' σ H Q->t σ H Q):PA X es t':=λpos ag s σ H Q I q=>h pos ag s σ H Q I (i σ H Q q)
theorem iJ{t t':TS}(h:PS X st t)(i:∀E σ H,t' E σ H->t E σ H):PS X st t':=λag s σ H E I q=>h ag s σ H E I (i E σ H q)
theorem sS{t t':TS}(h:v6 X sts t)(i:∀E σ H,t' E σ H->t E σ H):v6 X sts t':=λag s σ H E I q=>h ag s σ H E I (i E σ H q)
end
noncomputable def mV (i:Nat):FE:=λr S=>match r[i]? with
 |some (some d)=>some (d,S)
 |_=>none
noncomputable def mC (d:D):FE:=λ_ S=>some (d,S)
section
variable{pos:Pos}
theorem IB (i:Nat){x:Str}(hN:X.N[i]?=Z x)(hv:Vis X.env.scope x)(hd:autoParam ((x == ("__debug__":Str))=J) bu0)(hcd:autoParam ((x == ("__classdict__":Str))=J) bu0):ME X (.Name x pos) (mV i):=
 eO (Hz hN hv hd hcd) <| by
  rintro σ H Q ⟨r,mu,S,d,h,c,f,a,hc⟩;unfold mV at a;split at a
  ·rename_i j e;cases a;obtain⟨v,b,g⟩:=c.val i _ e;exact⟨v,b,hc v H mu (.refl _ _) g f⟩
  ·cases a
theorem Cc{e:Expr}{v:V}(d:D)(h:PE X e (tC v))(hr:∀H mu,eP X.K H mu d v):ME X e (mC d):=
 eO h <| by
  rintro σ H Q ⟨r,mu,S,g,f,c,b,a,hc⟩;cases a;exact hc v H mu (.refl _ _) (hr H mu) b
theorem IJ{i:Int}{j}:ME X (.Constant (.int i) j pos) (mC (.int i)):=Cc _ HG λ_ _=>.int i
theorem K6{b:Bool}{j}:ME X (.Constant (.bool b) j pos) (mC (.bl b)):=Cc _ KF λ_ _=>.bl b
theorem IH{j}:ME X (.Constant .none j pos) (mC .non):=Cc _ HE λ_ _=>.non
theorem ID{x:Str}{j}:ME X (.Constant (.str x) j pos) (mC (.str x)):=Cc _ HB λ_ _=>.str x
end
def dq:FA:=λ_ S=>Z ([],S)
noncomputable def dn (m:FE)(n:FA):FA:=λr S=>(m r S).bind λp=>(n r p.2).bind λq=>some (p.1::q.1,q.2)
section
variable{pos:Pos}{e:Expr}{es:List Expr}{m:FE}{n:FA}
theorem IM:MA X [] dq:=BJ pj <| by
 rintro σ H Q ⟨r,mu,S,ds,c,d,a,b,hc⟩;cases b;exact hc [] H mu (.refl _ _) .nil a
theorem EO(h:ME X e m)(ht:MA X es n)(hs:autoParam (c9 (e::es) X.env=(J,eval e X.env)::c9 es X.env) cu0):MA X (e::es) (dn m n):=
 BJ (kF h ht hs) <| by
  rintro σ H Q ⟨r,mu,S,ds,s,g,hs,a,hc⟩;unfold dn at a;obtain⟨⟨d,f⟩,j,a⟩:=oB1.mp a;obtain⟨⟨b,q⟩,p,a⟩:=oB1.mp a;cases a;refine⟨r,mu,S,d,f,g,hs,j,λv H1 mu1 i k o=>?_⟩;refine⟨r,mu1,f,b,_,g.ext i,o,p,λvs H2 c x2 r2 l=>?_⟩;exact hc _ H2 c (i.trans x2) (.cons (k.ext x2) r2) l
end
noncomputable def m2 (f:FN)(a b:FE):FE:=λr S=>(a r S).bind λp=>(b r p.2).bind λq=>f [p.1,q.1] q.2
noncomputable def m1 (f:FN)(a:FE):FE:=λr S=>(a r S).bind λp=>f [p.1] p.2
noncomputable def mN (f:FN)(a:FA):FE:=λr S=>(a r S).bind λp=>f p.1 p.2
abbrev r2(K:Fg1)(f:FN):R2:=λx y H Q=>rN K f [x,y] H Q
section
variable{K:Fg1}{f:FN}{a b:FE}{σ:L2.St}{H:Hp}{Q:VK}
theorem yg(h:tM K (m2 f a b) σ H Q):Ke (r2 K f) (tM K a) (tM K b) σ H Q:=by
 obtain⟨r,mu,S,d,A,l,z,c,hc⟩:=h;obtain⟨⟨i,n⟩,o,c⟩:=oB1.mp c;obtain⟨⟨k,m⟩,w,c⟩:=oB1.mp c;refine⟨r,mu,S,i,n,l,z,o,λv H1 mu1 j s y=>?_⟩;refine⟨r,mu1,n,k,m,l.ext j,y,w,λu H2 e x2 r2 p=>?_⟩;exact⟨e,m,[i,k],d,A,.cons (s.ext x2) (.cons r2 .nil),p,c,λv x g B q t=>hc v x g ((j.trans x2).trans B) q t⟩
theorem K8(h:tM K (m1 f a) σ H Q):Ny (λx H Q=>rN K f [x] H Q) (tM K a) σ H Q:=by
 obtain⟨r,mu,S,d,p,o,q,b,hc⟩:=h;obtain⟨⟨g,e⟩,i,b⟩:=oB1.mp b;refine⟨r,mu,S,g,e,o,q,i,λv H1 mu1 s k n=>?_⟩;exact⟨mu1,e,[g],d,p,.cons k .nil,n,b,λv j c t l m=>hc v j c (s.trans t) l m⟩
theorem Cg{a:FA}(h:tM K (mN f a) σ H Q):Nz K a σ H λvs H1=>rN K f vs H1 Q:=by
 obtain⟨r,mu,S,d,o,n,p,b,hc⟩:=h;obtain⟨⟨g,e⟩,i,b⟩:=oB1.mp b;refine⟨r,mu,S,g,e,n,p,i,λv H1 mu1 t q m=>?_⟩;exact⟨mu1,e,g,d,o,q,m,b,λv j c s k l=>hc v j c (t.trans s) k l⟩
theorem K3{op:Operator}{x y:Expr}{pos:Pos}(ho:fP X (binaryOp op) (r2 X.K f))(hx:ME X x a)(hy:ME X y b):ME X (.BinOp x op y pos) (m2 f a b):=eO (KC ho hx hy) λ_ _ _=>yg
theorem K2{op:UnaryOp}{x:Expr}{pos:Pos}(ho:JT X (unaryOp op) (λx H Q=>rN X.K f [x] H Q))(hx:ME X x a):ME X (.UnaryOp op x pos) (m1 f a):=eO (KB ho hx) λ_ _ _=>K8
theorem IK{op:CmpOp}{x y:Expr}{pos:Pos}(ho:fP X (compareOp op) (r2 X.K f))(hx:ME X x a)(hy:ME X y b)(hm:behindInMarks op y=J):ME X (.Compare x [op] [y] pos) (m2 f a b):=eO (Ek ho hx hy hm) λ_ _ _=>yg
theorem K4{x y:Expr}{pos:Pos}(ho:GH X (r2 X.K f))(hx:ME X x a)(hy:ME X y b)(hs:oA y):ME X (.Subscript x y pos) (m2 f a b):=eO (KD ho hx hy hs) λ_ _ _=>yg
theorem Cb {x:Str}{p pos:Pos}{e:Expr}{es:List Expr}{id:String}{a:FA}(hc:eM X (.builtin id) (rN X.K f))(hg:Gl X x)(hm:X.mg x=none)(hv:bootBuiltins x=some (.builtin id))(ha:MA X (e::es) a)(hn:autoParam (x≠"__name__") bu0)(hdb:autoParam ((x == ("__debug__":Str))=false) bu0)
  (he:autoParam (c9 (e::es) X.env=(J,eval e X.env)::c9 es X.env) cu0) (hpl:autoParam ((backTo pos (c9 es X.env)).any (·.1)=J) cu0):ME X (.Call (.Name x p) (e::es) [] pos) (mN f a):=
 eO (pf hc hg hm hv ha hn hdb he hpl) λ_ _ _=>Cg
theorem zB {x:Str}{p pos:Pos}{e:Expr}{es:List Expr}{T:String}{a:FA}(hc:eM X (.type T) (rN X.K f))(hg:Gl X x)(hm:X.mg x=none)(hv:bootBuiltins x=some (.type T))(ha:MA X (e::es) a)(hn:autoParam (x≠"__name__") bu0)(hdb:autoParam ((x == ("__debug__":Str))=false) bu0)
  (he:autoParam (c9 (e::es) X.env=(J,eval e X.env)::c9 es X.env) cu0) (hpl:autoParam ((backTo pos (c9 es X.env)).any (·.1)=J) cu0):ME X (.Call (.Name x p) (e::es) [] pos) (mN f a):=
 eO (mF hc hg hm hv ha hn hdb he hpl) λ_ _ _=>Cg
end
noncomputable def mB (m:FE):FT:=λr S=>(m r S).bind λp=>match p.1 with
 | .bl b=>some (b,p.2)
 |_=>none
theorem K7{K:Fg1}{m:FE}{σ:L2.St}{H:Hp}{Q:Bool->Hp->Prop}(h:DM K (mB m) σ H Q):tB (tM K m) σ H Q:=by
 obtain⟨r,mu,S,b,n,f,i,a,hc⟩:=h;obtain⟨⟨g,l⟩,c,a⟩:=oB1.mp a;cases g with
 |bl k=>
  cases a;refine⟨r,mu,S,_,_,f,i,c,λv H1 mu1 j d e=>?_⟩;cases d;exact⟨_,O,hc H1 mu1 j e⟩
 |_=>cases a
def mK(a b:FT):FT:=λr S=>(a r S).bind λp=>if p.1=M then b r p.2 else Z (J,p.2)
def wT(a b:FT):FT:=λr S=>(a r S).bind λp=>if p.1=M then Z (M,p.2)else b r p.2
def iA(a:FT):FT:=λr S=>(a r S).bind λp=>Z (!p.1,p.2)
def gx(a b:FE):FE:=λr S=>(a r S).bind λp=>match p.1 with
 | .bl c=>if c=M then b r p.2 else Z (.bl J,p.2)
 |_=>Y
def Oq(a b:FE):FE:=λr S=>(a r S).bind λp=>match p.1 with
 | .bl c=>if c=M then Z (.bl M,p.2)else b r p.2
 |_=>Y
def pz(a:FE):FE:=λr S=>(a r S).bind λp=>match p.1 with
 | .bl c=>Z (.bl (!c),p.2)
 |_=>Y
def vb(c:FT)(a b:FE):FE:=λr S=>(c r S).bind λp=>if p.1=M then a r p.2 else b r p.2
section
variable{x y c:Expr}{rest:List Expr}{pos:Pos}{a b:FT}{f g:FE}
theorem Ik{op:CmpOp}{f:FN}{a b:FE}(ho:fP X (compareOp op) (r2 X.K f))(hx:ME X x a)(hy:ME X y b)(hm:behindInMarks op y=J):MT X (.Compare x [op] [y] pos) (mB (m2 f a b)):=
 wA (D4 ho hx hy hm) fun σ H Q h=>by
  obtain⟨r,mu,S,d,g,e,i,hm,hc⟩:=K7 h;exact yg ⟨r,mu,S,d,g,e,i,hm,λv H' mu' k j c=>hc v H' mu' k j c⟩
theorem Ey(ha:MT X x a):MW X (.BoolOp .And [x] pos) a:=D1 ha
theorem Ih(ha:MT X x a):MW X (.BoolOp .Or [x] pos) a:=Hh ha
theorem Ii(ha:MT X x a)(hb:MW X (.BoolOp .And (y::rest) pos) b):MW X (.BoolOp .And (x::y::rest) pos) (mK a b):=
 Bk (Hi ha hb) <| by
  rintro σ H Q ⟨r,mu,S,k,l,h,m,c,hc⟩;obtain⟨⟨b1,f⟩,i,c⟩:=oB1.mp c;refine⟨r,mu,S,b1,f,h,m,i,λH1 mu1 d g=>?_⟩;cases b1 with
  |true=>exact⟨r,mu1,f,k,l,h.ext d,g,c,λH2 e x2 j=>hc H2 e (d.trans x2) j⟩
  |false=>cases c;exact hc H1 mu1 d g
theorem KZ(ha:MT X x a)(hb:MW X (.BoolOp .Or (y::rest) pos) b):MW X (.BoolOp .Or (x::y::rest) pos) (wT a b):=
 Bk (Kw ha hb) <| by
  rintro σ H Q ⟨r,mu,S,k,l,h,m,c,hc⟩;obtain⟨⟨b1,f⟩,i,c⟩:=oB1.mp c;refine⟨r,mu,S,b1,f,h,m,i,λH1 mu1 d g=>?_⟩;cases b1 with
  |false=>exact⟨r,mu1,f,k,l,h.ext d,g,c,λH2 e x2 j=>hc H2 e (d.trans x2) j⟩
  |true=>cases c;exact hc H1 mu1 d g
theorem MZ(h:MW X x a):MT X x a:=PW.pt h
theorem Ij(ha:MT X x a):MT X (.UnaryOp .Not x pos) (iA a):=
 wA (Hl ha) <| by
  rintro σ H Q ⟨r,mu,S,k,i,f,g,b,hc⟩;obtain⟨⟨b1,d⟩,c,b⟩:=oB1.mp b;cases b;exact⟨r,mu,S,b1,d,f,g,c,λH1 mu1 h e=>hc H1 mu1 h e⟩
theorem IF{op}(h:ME X x f):ME X (.BoolOp op [x] pos) f:=HC h
theorem IL(ha:ME X x f)(hb:ME X (.BoolOp .And (y::rest) pos) g):ME X (.BoolOp .And (x::y::rest) pos) (gx f g):=
 eO (HI ha hb) <| by
  rintro σ H Q ⟨r,mu,S,k,o,h,p,a,hc⟩;obtain⟨⟨i,d⟩,j,a⟩:=oB1.mp a;refine⟨r,mu,S,i,d,h,p,j,λv H1 mu1 b l e=>?_⟩;cases i with
  |bl b1=>
   cases l;refine⟨b1,O,?_⟩;cases b1 with
   |true=>exact⟨r,mu1,d,k,o,h.ext b,e,a,λn H2 c x2 r2 m=>hc n H2 c (b.trans x2) r2 m⟩
   |false=>cases a;exact hc _ H1 mu1 b (.bl J) e
  |_=>cases a
theorem IG(ha:ME X x f):ME X (.UnaryOp .Not x pos) (pz f):=
 eO (HD ha) <| by
  rintro σ H Q ⟨r,mu,S,k,l,h,i,a,hc⟩;obtain⟨⟨b,e⟩,c,a⟩:=oB1.mp a;refine⟨r,mu,S,b,e,h,i,c,λv H1 mu1 j d g=>?_⟩;cases b with
  |bl b1=>
   cases d;cases a;exact⟨b1,O,hc _ H1 mu1 j (.bl _) g⟩
  |_=>cases a
theorem K5(hc:MT X c a)(hx:ME X x f)(hy:ME X y g):ME X (.IfExp c x y pos) (vb a f g):=
 eO (BC hc hx hy) <| by
  rintro σ H Q ⟨r,mu,S,k,n,l,p,d,hc⟩;obtain⟨⟨b1,i⟩,o,d⟩:=oB1.mp d;refine⟨r,mu,S,b1,i,l,p,o,λH1 mu1 e m=>?_⟩;cases b1 with
  |true=>exact⟨r,mu1,i,k,n,l.ext e,m,d,λj H2 b x2 r2 h=>hc j H2 b (e.trans x2) r2 h⟩
  |false=>exact⟨r,mu1,i,k,n,l.ext e,m,d,λj H2 b x2 r2 h=>hc j H2 b (e.trans x2) r2 h⟩
end
def ER(f g:FN)(a b c:FE):FE:=λr S=>(a r S).bind λp=>(b r p.2).bind λq=>(f [p.1,q.1] q.2).bind λt=>match t.1 with
 | .bl k=>if k=M then(c r t.2).bind λz=>g [q.1,z.1] z.2 else Z (.bl J,t.2)
 |_=>Y
section
variable{x y z:Expr}{pos:Pos}{f g:FN}{a b c:FE}{op op':CmpOp}
theorem IN{K:Fg1}{σ:L2.St}{H:Hp}{Q:VK}(h:tM K (ER f g a b c) σ H Q):AY (r2 K f) (r2 K g) (tM K a) (tM K b) (tM K c) σ H Q:=by
 obtain⟨r,mu,S,d,U,n,R,e,hc⟩:=h;obtain⟨⟨t,z⟩,B,e⟩:=oB1.mp e;obtain⟨⟨m,y⟩,am,e⟩:=oB1.mp e;obtain⟨⟨s,v⟩,W,e⟩:=oB1.mp e;refine⟨r,mu,S,t,z,n,R,B,λX H1 mu1 j G ao=>?_⟩;refine⟨r,mu1,z,m,y,n.ext j,ao,am,λv2 H2 o x2 r2 C=>?_⟩;refine⟨o,y,[t,m],s,v,.cons (G.ext x2) (.cons r2 .nil),C,W,λv3 L i l D w=>?_⟩;cases s with
 |bl k=>
  cases D;refine⟨k,O,?_⟩;cases k with
  |false=>cases e;exact hc _ L i ((j.trans x2).trans l) (.bl J) w
  |true=>
   obtain⟨⟨u,x⟩,F,e⟩:=oB1.mp e;refine⟨r,i,v,u,x,n.ext ((j.trans x2).trans l),w,F,λaq wq p A I T=>?_⟩;exact⟨p,x,[m,u],d,U,.cons ((r2.ext l).ext A) (.cons I .nil),T,e,λV P q E N au=>hc V P q ((((j.trans x2).trans l).trans A).trans E) N au⟩
 |_=>cases e
theorem Ca(ho:fP X (compareOp op) (r2 X.K f))(ho':fP X (compareOp op') (r2 X.K g))(hx:ME X x a)(hy:ME X y b)(hz:ME X z c)(hm:autoParam (lastMarks [op,op'] [y,z]=false) BE._auto_1):
  ME X (.Compare x [op,op'] [y,z] pos) (ER f g a b c):=eO (BE ho ho' hx hy hz hm) λ_ _ _=>IN
end
mutual
def D.und(n:Nat):D->Bool
 | .tup xs=>D.unds n xs
 | .rol xs=>D.unds n xs
 | .ref k=>decide (k<n)
 | .non=>M
 | .bl _=>M
 | .int _=>M
 | .str _=>M
 | .fn _=>M
def D.unds(n:Nat):List D->Bool
 |[]=>M
 |d::ds=>D.und n d&&D.unds n ds
end
mutual
def D.same:D->D->Bool
 | .non,.non=>M
 | .bl a,.bl b=>a == b
 | .int a,.int b=>decide (a=b)
 | .str a,.str b=>decide (a=b)
 | .tup xs,.tup ys=>D.sames xs ys
 | .rol xs,.rol ys=>D.sames xs ys
 | .ref a,.ref b=>decide (a=b)
 | .fn a,.fn b=>decide (a=b)
 |_,_=>J
def D.sames:List D->List D->Bool
 |[],[]=>M
 |x::xs,y::ys=>D.same x y&&D.sames xs ys
 |_,_=>J
end
mutual
theorem D.same_eq:∀{a b:D},D.same a b=M->a=b
 | .tup x,b,h=>by cases b with|tup y=>rw[D.same]at h;rw[D.sames_eq h]|_=>simp[D.same]at h
 | .rol x,b,h=>by cases b with|rol y=>rw[D.same]at h;rw[D.sames_eq h]|_=>simp[D.same]at h
 | .non,b,h|.bl _,b,h|.int _,b,h|.str _,b,h|.ref _,b,h|.fn _,b,h=>by cases b<;>simp[D.same]at h⊢<;>exact h
theorem D.sames_eq:∀{a b:List D},D.sames a b=M->a=b
 |[],[],_=>rfl
 |x::xs,y::ys,h=>by
  rw[D.sames,bA1]at h;rw[D.same_eq h.1,D.sames_eq h.2]
 |[],_::_,h=>by simp[D.sames]at h
 |_::_,[],h=>by simp[D.sames]at h
end
mutual
theorem D.same_refl:∀a:D,D.same a a=M
 | .tup xs=>by rw[D.same];exact D.sames_refl xs
 | .rol xs=>by rw[D.same];exact D.sames_refl xs
 | .non|.bl _|.int _|.str _|.ref _|.fn _=>by simp[D.same]
theorem D.sames_refl:∀a:List D,D.sames a a=M
 |[]=>rfl
 |x::xs=>by rw[D.sames,D.same_refl x,D.sames_refl xs];rfl
end
section
variable{K:Fg1}{H:Hp}{mu mu':List c4}
theorem eP.cut{n:Nat}(h:∀ k,k<n->mu[k]? = mu'[k]?):∀ {d:D} {v:V},eP K H mu d v->d.und n=true->eP K H mu' d v:=fun c=>c.rec (motive_1:=fun d v _=>d.und n=true->eP K H mu' d v) (motive_2:=fun ds vs _=>D.unds n ds=true->dI K H mu' ds vs)
  (λ_=>.non) (λb _=>.bl b) (λi _=>.int i) (λx _=>.str x) (λq _ ih e=>.tup q (ih (by rw[D.und]at e;exact e))) (λq _ ih e=>.rol q (ih (by rw[D.und]at e;exact e)))
  (λq e=>.ref (by rw[D.und]at e;rw[<- h _ (of_decide_eq_true e)];exact q)) (λq _=>.fn q) (λ_=>.nil) (λ_ _ a b e=>by rw[D.unds,bA1]at e;exact .cons (a e.1) (b e.2))
theorem dI.cut{n:Nat}(h:∀k,k<n->mu[k]?=mu'[k]?):∀{ds:List D} {vs:List V},dI K H mu ds vs->D.unds n ds=M->dI K H mu' ds vs:=λa=>a.ind (P:=λds vs _=>D.unds n ds=M->dI K H mu' ds vs) (λ_=>.nil) λr _ b e=>by rw[D.unds,bA1]at e;exact .cons (eP.cut h r e.1) (b e.2)
end
def Ob.und(n:Nat):Ob->Bool
 | .lst xs=>D.unds n xs
 | .dct kvs=>D.unds n (kvs.map (·.2))
 | .dcT kvs=>D.unds n (kvs.map (·.2))
 | .iset _=>M
 | .dcF kvs=>D.unds n (kvs.map (·.2))
 | .tst _=>M
theorem KR.cut{κ:Type}{K:Fg1}{H:Hp}{mu mu':List c4}{n:Nat}(h:∀k,k<n->mu[k]?=mu'[k]?):∀{ks:List (κ×D)} {ws:List (κ×V)},KR K H mu ks ws->D.unds n (ks.map (·.2))=M->KR K H mu' ks ws:=by
 intro ks ws a e
 induction a with
 |nil=>exact .nil
 |cons r t ih=>
  rw[mP1,D.unds,bA1]at e;exact .cons ⟨r.1,r.2.cut h e.1⟩ (ih e.2)
mutual
theorem AV(n:Nat):∀k:TK,(tkD k).und n=M
 | .non=>rfl
 | .int _=>rfl
 | .tup xs=>by rw[tkD,D.und];exact xL n xs
theorem xL(n:Nat):∀ks:List TK,D.unds n (lN ks)=M
 |[]=>rfl
 |x::xs=>by rw[lN,D.unds,AV n x,xL n xs];rfl
end
theorem KT.cut{K:Fg1}{H:Hp}{mu mu':List c4}{n:Nat}(h:∀k,k<n->mu[k]?=mu'[k]?):∀{ks:List (TK×D)} {ws:List (TK×c4×cZ)},KT K H mu ks ws->D.unds n (ks.map (·.2))=M->KT K H mu' ks ws:=by
 intro ks ws a e
 induction a with
 |nil=>exact .nil
 |cons r t ih=>
  rw[mP1,D.unds,bA1]at e;obtain⟨z,d,k,v,b,r⟩:=r;exact .cons ⟨z,d,k.cut h (AV n _),v,b,r.cut h e.1⟩ (ih e.2)
theorem yb(n:Nat):∀ks:List TK,D.unds n ((ks.map λk=>(k,D.non)).map (·.2))=M
 |[]=>rfl
 |_::ks=>by rw[mP1,mP1,D.unds,yb n ks];rfl
theorem qw.cut{K:Fg1}{H:Hp}{mu mu':List c4}{n:Nat}{a:c4}(h:∀k,k<n->mu[k]?=mu'[k]?):∀{o:Ob},qw K H mu a o->o.und n=M->qw K H mu' a o
 | .lst _,⟨vs,e,r⟩,b=>⟨vs,e,r.cut h b⟩
 | .dct _,⟨ws,e,r⟩,b=>⟨ws,e,KR.cut h r b⟩
 | .dcT _,⟨ws,e,r,l⟩,b=>⟨ws,e,KT.cut h r b,l⟩
 | .iset _,q,_=>q
 | .dcF _,⟨ws,e,r,l⟩,b=>⟨ws,e,KT.cut h r b,l⟩
 | .tst ks,⟨ws,e,r⟩,_=>⟨ws,e,KT.cut h r (yb n ks)⟩
def gc(n:Nat)(p:D×dr):D×dr:=if p.1.und n&&(p.2.take n).all (Ob.und n)then(p.1,p.2.take n)else p
mutual
def D.sh(n:Nat):D->D
 | .tup xs=>.tup (D.shs n xs)
 | .rol xs=>.rol (D.shs n xs)
 | .ref k=>.ref (n+k)
 | .fn x=>.fn x
 | .non=>.non
 | .bl b=>.bl b
 | .int i=>.int i
 | .str x=>.str x
def D.shs(n:Nat):List D->List D
 |[]=>[]
 |d::ds=>D.sh n d::D.shs n ds
end
def Ob.sh(n:Nat):Ob->Ob
 | .lst xs=>.lst (D.shs n xs)
 | .dct kvs=>.dct (kvs.map λp=>(p.1,p.2.sh n))
 | .dcT kvs=>.dcT (kvs.map λp=>(p.1,p.2.sh n))
 | .iset xs=>.iset xs
 | .dcF kvs=>.dcF (kvs.map λp=>(p.1,p.2.sh n))
 | .tst ks=>.tst ks
theorem eP.sh{K:Fg1}{H:Hp}{mu mu':List c4}:∀ {d:D} {v:V},eP K H mu' d v->eP K H (mu++mu') (d.sh mu.length) v:=fun c=>c.rec (motive_1:=fun d v _=>eP K H (mu++mu') (d.sh mu.length) v) (motive_2:=fun ds vs _=>dI K H (mu++mu') (D.shs mu.length ds) vs)
  .non .bl .int .str (λh _ ih=>.tup h ih) (λh _ ih=>.rol h ih) (λh=>.ref (by rw[gR1 (bC _ _),Nat.add_sub_cancel_left];exact h)) (λh=>.fn h) .nil (λ_ _ a b=>.cons a b)
theorem dI.sh{K:Fg1}{H:Hp}{mu mu':List c4}:∀{ds:List D} {vs:List V},dI K H mu' ds vs->dI K H (mu++mu') (D.shs mu.length ds) vs:=λh=>h.ind (P:=λds vs _=>dI K H (mu++mu') (D.shs mu.length ds) vs) .nil λr _ ih=>.cons (eP.sh r) ih
theorem KR.sh{κ:Type}{K:Fg1}{H:Hp}{mu mu':List c4}:∀{ks:List (κ×D)} {ws:List (κ×V)},KR K H mu' ks ws->KR K H (mu++mu') (ks.map λp=>(p.1,p.2.sh mu.length)) ws:=by
 intro ks ws h
 induction h with
 |nil=>exact .nil
 |cons r t ih=>exact .cons ⟨r.1,r.2.sh⟩ ih
mutual
theorem Gg(n:Nat):∀k:TK,(tkD k).sh n=tkD k
 | .non=>rfl
 | .int _=>rfl
 | .tup xs=>by rw[tkD,D.sh,AT n xs]
theorem AT(n:Nat):∀ks:List TK,D.shs n (lN ks)=lN ks
 |[]=>rfl
 |x::xs=>by rw[lN,D.shs,Gg n x,AT n xs]
end
theorem KT.sh{K:Fg1}{H:Hp}{mu mu':List c4}:∀{ks:List (TK×D)} {ws:List (TK×c4×cZ)},KT K H mu' ks ws->KT K H (mu++mu') (ks.map λp=>(p.1,p.2.sh mu.length)) ws:=by
 intro ks ws h
 induction h with
 |nil=>exact .nil
 |cons r t ih=>
  obtain⟨z,d,k,v,a,r⟩:=r;exact .cons ⟨z,d,by have:=k.sh (mu:=mu);rw[Gg]at this;exact this,v,a,r.sh⟩ ih
theorem qw.sh{K:Fg1}{H:Hp}{mu mu':List c4}{a:c4}:∀{o:Ob},qw K H mu' a o->qw K H (mu++mu') a (o.sh mu.length)
 | .lst _,⟨vs,e,r⟩=>⟨vs,e,r.sh⟩
 | .dct _,⟨ws,e,r⟩=>⟨ws,e,KR.sh r⟩
 | .dcT _,⟨ws,e,r,l⟩=>⟨ws,e,KT.sh r,l⟩
 | .iset _,q=>q
 | .dcF _,⟨ws,e,r,l⟩=>⟨ws,e,KT.sh r,l⟩
 | .tst ks,⟨ws,e,r⟩=>⟨ws,e,by have:=KT.sh (mu:=mu) r;rw[bD]at this;exact this⟩
theorem eP.mor{K:Fg1}{H:Hp}{mu:List c4}(mu':List c4):∀{d:D} {v:V},eP K H mu d v->eP K H (mu++mu') d v:=λh=>h.exv ⟨bE _ _,λ_ _ h=>h,λ_ _ _ h=>h⟩
theorem dI.mor{K:Fg1}{H:Hp}{mu:List c4}(mu':List c4):∀{ds:List D} {vs:List V},dI K H mu ds vs->dI K H (mu++mu') ds vs:=λh=>h.exv ⟨bE _ _,λ_ _ h=>h,λ_ _ _ h=>h⟩
theorem KR.mor{κ:Type}{K:Fg1}{H:Hp}{mu:List c4}(mu':List c4){ks:List (κ×D)}{ws:List (κ×V)}(h:KR K H mu ks ws):KR K H (mu++mu') ks ws:=Paired.mapP h λ_ _ z=>⟨z.1,z.2.mor mu'⟩
theorem qw.mor{K:Fg1}{H:Hp}{mu:List c4}{a:c4}(mu':List c4):∀{o:Ob},qw K H mu a o->qw K H (mu++mu') a o
 | .lst _,⟨vs,e,r⟩=>⟨vs,e,r.mor mu'⟩
 | .dct _,⟨ws,e,r⟩=>⟨ws,e,KR.mor mu' r⟩
 | .dcT _,⟨ws,e,r,l⟩=>⟨ws,e,Paired.mapP r λ_ _ ⟨z,d,k,v,b,r⟩=>⟨z,d,k.mor mu',v,b,r.mor mu'⟩,l⟩
 | .iset _,q=>q
 | .dcF _,⟨ws,e,r,l⟩=>⟨ws,e,Paired.mapP r λ_ _ ⟨z,d,k,v,b,r⟩=>⟨z,d,k.mor mu',v,b,r.mor mu'⟩,l⟩
 | .tst _,⟨ws,e,r⟩=>⟨ws,e,Paired.mapP r λ_ _ ⟨z,d,k,v,b,r⟩=>⟨z,d,k.mor mu',v,b,r.mor mu'⟩⟩
def ss(f:FN):FN:=λds S=>if D.unds 0 ds=M then(f ds []).map λp=>if p.1.und 0=M then(p.1,S)else(p.1.sh S.length,S++p.2.map (Ob.sh S.length))else(f ds S).map (gc S.length)
theorem qw.keep{K:Fg1}{H H':Hp}{mu:List c4}{a:c4}(e:Ext mu mu H H')(h:∀o,H a=Z o->H' a=Z o):∀{o:Ob},qw K H mu a o->qw K H' mu a o
 | .lst _,⟨vs,q,r⟩=>⟨vs,h _ q,r.ext e⟩
 | .dct _,⟨ws,q,r⟩=>⟨ws,h _ q,KR.ext e r⟩
 | .dcT _,⟨ws,q,r,l⟩=>⟨ws,h _ q,KT.ext e r,l⟩
 | .iset _,q=>⟨h _ q.1,q.2⟩
 | .dcF _,⟨ws,⟨o,u,b,c⟩,r,l⟩=>⟨ws,⟨o,u,h _ b,c⟩,KT.ext e r,l⟩
 | .tst _,⟨ws,q,r⟩=>⟨ws,h _ q,KT.ext e r⟩
theorem Db{K:Fg1}{f:FN}{vs:List V}{H:Hp}{Q:VK}(h:rN K (ss f) vs H Q):rN K f vs H Q:=by
 obtain⟨mu,S,ds,d,L,E,c,g,hc⟩:=h;unfold ss at g;split at g
 ·rename_i j;obtain⟨⟨w,p⟩,u,g⟩:=oM1.mp g;refine⟨[],[],ds,w,p,E.cut (n:=0) (λk i=>absurd i (bF _)) j,.nil,u,λv H' mu' x r s=>?_⟩;have y:Ext mu mu H H':=⟨bv,λa o e _=>x.old a o e (by simp),x.tup,x.frz,λ_ z=>.inl z⟩;dsimp only at g;split at g
  ·rename_i F;cases g;refine hc v H' mu y (r.cut (n:=0) (λk i=>absurd i (bF _)) F) ⟨c.len,c.nd,λn o a h1 h2=>?_⟩;exact(c.ob n o a h1 h2).keep y λo e=>x.old a o e (by simp)
  ·cases g;have D:∀ a∈mu',H a=none:=fun a B=>(x.new a B).resolve_left (by simp);have x2:Ext mu (mu++mu') H H':=⟨bE _ _,fun a o e _=>x.old a o e (by simp),x.tup,x.frz,fun a z=>by
    rcases aF.mp z with z|z
    ·exact .inl z
    ·exact .inr (D a z)⟩
   refine hc v H' (mu++mu') x2 (by rw[<- c.len];exact r.sh) ⟨by rw[lA1,lA1,lM1,c.len,s.len],?_,λn o a h1 h2=>?_⟩
   ·refine bG.mpr ⟨c.nd,s.nd,λa B b j z=>?_⟩;subst z;obtain⟨o,e⟩:=c.here B;rw[D a j]at e;cases e
   ·by_cases l:n<S.length
    ·rw[gL1 l]at h1;rw[gL1 (by rw[c.len];exact l)]at h2;exact((c.ob n o a h1 h2).keep y λo e=>x.old a o e (by simp)).mor mu'
    ·have m:=Nat.le_of_not_lt l;rw[gR1 m]at h1;rw[gR1 (by rw[c.len];exact m)]at h2;rw[gP1]at h1;obtain⟨I,am,G⟩:=oM1.mp h1;subst G;have q:=s.ob (n-S.length) I a am (by rw[c.len]at h2;exact h2);rw[<- c.len];exact q.sh
 ·obtain⟨⟨w,p⟩,u,g⟩:=oM1.mp g;refine⟨mu,S,ds,w,p,E,c,u,λv H' mu' x r s=>?_⟩;unfold gc at g;split at g
  ·rename_i j;cases g;rw [bA1] at j;have i:∀ k,k<S.length->mu'[k]? = mu[k]?:=fun k i=>by
    obtain⟨t,rfl⟩:=x.pre;rw[gL1 (by rw[c.len];exact i)]
   refine hc v H' mu x.back (r.cut i j.1) ⟨?_,c.nd,λn o a h1 h2=>?_⟩
   ·have:=s.len;have C:=x.pre.length_le;rw[aR,<- s.len];rw[c.len]at C ⊢;exact(Nat.min_eq_left C).symm
   ·have l:n<S.length:=by rw[<- c.len];exact(gE1.mp h2).1
    have A:p[n]?=Z o:=by rw[aT l]at h1;exact h1
    refine(s.ob n o a A ((i n l).trans h2)).cut i ?_;exact bH.mp j.2 o (gM1 h1)
  ·cases g;exact hc v H' mu' x r s
def spM(K:Fg1)(n:Nat)(f:FN):Sp:=λvs H Q _=>vs.length=n/\rN K f vs H Q
section
variable{k n:Nat}{f:c4}{fd:dg}{ps:List Str}{x:Str}{p pos:Pos}{e:Expr}{es:List Expr}{m:FN}{a:FA}
noncomputable def dv (n:Nat)(f:FN):FN:=λds S=>if ds.length=n then ss f ds S else none
theorem EN (F:m6 X.prog X.w X.K X.mg X.base vW k f fd ps (spM X.K n m))(hr:ge k X.A)(hg:Gl X x)(hm:X.mg x=some (.ref f))(hk:wK1 X.K (.ref f)=true)(hb:ku X.K fd ps [])
  (ha:MA X (e::es) a) (hdb:autoParam ((x == ("__debug__":Str))=J) bu0) (he:autoParam (c9 (e::es) X.env=(J,eval e X.env)::c9 es X.env) cu0) (hpl:autoParam ((backTo pos (c9 es X.env)).any (·.1)=J) cu0):
  ME X (.Call (.Name x p) (e::es) [] pos) (mN (dv n m) a):=
 eO (El (E:=E0) F hr hg hm hk hb .nil KG ha hdb he hpl) fun σ H Q h=>by
  obtain⟨r,mu,S,ds,s,he,t,hm,hc⟩:=Cg h;refine⟨r,mu,S,ds,s,he,t,hm,λvs H' mu' w u i=>?_⟩;have q:=hc vs H' mu' w u i;show spM X.K n m (vs++[]) H' Q E0;rw[aN];obtain⟨c,l,d,v,g,h1,h2,b,o⟩:=q;unfold dv at b;split at b
  ·rename_i j;exact⟨by rw[<- h1.length];exact j,Db ⟨c,l,d,v,g,h1,h2,b,o⟩⟩
  ·cases b
end
def kJ:FS:=λr S=>Z (.nx,r,S)
noncomputable def dG (a b:FS):FS:=λr S=>(a r S).bind λp=>match p.1 with
 | .nx=>b p.2.1 p.2.2
 |f=>some (f,p.2.1,p.2.2)
noncomputable def ee (m:FE):FS:=λr S=>(m r S).bind λp=>some (.rt p.1,r,p.2)
def NF:FS:=λr S=>Z (.rt .non,r,S)
noncomputable def fj (m:FE):FS:=λr S=>(m r S).bind λp=>some (.nx,r,p.2)
noncomputable def fg (c:FT)(a b:FS):FS:=λr S=>(c r S).bind λp=>if p.1=true then a r p.2 else b r p.2
section
variable{pos:Pos}{e c:Expr}{st:di}{rest as bs:List di}{a b:FS}{m:FE}{t:FT}
theorem EA:Ap X [] kJ:=sS D6 <| by
 rintro E σ H ⟨r,mu,S,f,e,d,b,c,a,hc⟩;cases a;exact hc σ H mu (.refl _ _) b c
theorem B4(h1:MS X st a)(h2:Ap X rest b):Ap X (st::rest) (dG a b):=sS (Bo h1 h2) <| by
 rintro E σ H ⟨r,mu,S,f,t,s,o,q,g,hc⟩;obtain⟨⟨l,m,k⟩,n,g⟩:=oB1.mp g;refine⟨r,mu,S,l,m,k,o,q,n,?_⟩;cases l with
 |nx=>
  intro p H1 mu1 h j i;refine⟨m,mu1,k,f,t,s,j,i,g,?_⟩;cases f with
  |nx=>exact λe H2 c x2=>hc e H2 c (h.trans x2)
  |bk=>exact λe H2 c x2=>hc e H2 c (h.trans x2)
  |ct=>exact λe H2 c x2=>hc e H2 c (h.trans x2)
  |rt d=>exact λv H2 c x2=>hc v H2 c (h.trans x2)
 |bk=>cases g;exact hc
 |ct=>cases g;exact hc
 |rt d=>cases g;exact hc
theorem Ez(h1:MS X st a):Ap X [st] a:=D5 h1
theorem EC(h:ME X e m)(hs:autoParam (swapsWith e Y pos.line X.env=pure J) cu0):MS X (.Expr e pos) (fj m):=iJ (D8 h hs) <| by
 rintro E σ H ⟨r,mu,S,f,l,j,b,hs,a,hc⟩;obtain⟨⟨d,i⟩,c,a⟩:=oB1.mp a;cases a;exact⟨r,mu,S,d,_,b,hs,c,λv H' mu' x k g=>hc σ H' mu' x (b.ext x) g⟩
theorem Im(h:ME X e m):MS X (.Return (Z e) pos) (ee m):=iJ (Ho h) <| by
 rintro E σ H ⟨r,mu,S,f,k,j,c,g,a,hc⟩;obtain⟨⟨d,i⟩,b,a⟩:=oB1.mp a;cases a;exact⟨r,mu,S,d,_,c,g,b,hc⟩
theorem K1(hc:MT X c t)(ha:Ap X as a)(hb:Ap X bs b):MS X (.If c as bs pos) (fg t a b):=iJ (Kx hc ha hb) <| by
 rintro E σ H ⟨r,mu,S,f,o,n,m,s,h,hc⟩;obtain⟨⟨k,j⟩,p,h⟩:=oB1.mp h;refine⟨r,mu,S,k,j,m,s,p,λH1 mu1 i q=>?_⟩;have l:∀c:FS,c r j=Z (f,o,n)->xP X.K c E σ H1:=λc h=>by
  refine⟨r,mu1,j,f,o,n,m.ext i,q,h,?_⟩;cases f with
  |nx=>exact λg H2 e x2=>hc g H2 e (i.trans x2)
  |bk=>exact λg H2 e x2=>hc g H2 e (i.trans x2)
  |ct=>exact λg H2 e x2=>hc g H2 e (i.trans x2)
  |rt d=>exact λv H2 e x2=>hc v H2 e (i.trans x2)
 cases k with
 |true=>exact l a h
 |false=>exact l b h
end
abbrev FG:=D->Ev->dr->Option (Ev×dr)
abbrev Dr:=List D->Ev->dr->Option (Ev×dr)
inductive Kh (K:Fg1)(g:FG)(v:V)(σ:L2.St)(H:Hp)(Q:L2.St->Hp->Prop):Prop
 |mk (r:Ev) (mu:List c4) (S:dr) (d:D) (r':Ev) (S':dr) (he:fG K H mu r σ) (hs:Sim K H mu S) (hr:eP K H mu d v) (hm:g d r S=some (r',S')) (hc:∀ σ' H' mu',Ext mu mu' H H'->fG K H' mu' r' σ'->Sim K H' mu' S'->Q σ' H')
inductive Mx (K:Fg1)(g:Dr)(vs:List V)(σ:L2.St)(H:Hp)(Q:L2.St->Hp->Prop):Prop
 |mk (r:Ev) (mu:List c4) (S:dr) (ds:List D) (r':Ev) (S':dr) (he:fG K H mu r σ) (hs:Sim K H mu S) (hr:dI K H mu ds vs) (hm:g ds r S=some (r',S')) (hc:∀ σ' H' mu',Ext mu mu' H H'->fG K H' mu' r' σ'->Sim K H' mu' S'->Q σ' H')
abbrev MG(X:Cx)(e:Expr)(g:FG):Prop:=PG X e (Kh X.K g)
abbrev LX(X:Cx)(es:List Expr)(g:Dr):Prop:=JJ X es (Mx X.K g)
noncomputable def gN (i:Nat):FG:=λd r S=>some (r.set i (some d),S)
def i8:Dr:=λds r S=>match ds with
 |[]=>Z (r,S)
 |_=>Y
noncomputable def eT (g:FG)(gs:Dr):Dr:=λds r S=>match ds with
 |d::ds=>(g d r S).bind λp=>gs ds p.1 p.2
 |[]=>none
noncomputable def gT (n:Nat)(gs:Dr):FG:=λd r S=>match d with
 | .tup ds=>if ds.length=n then gs ds r S else none
 |_=>none
theorem fG.set{K:Fg1}{H:Hp}{mu:List c4}{r:Ev}{σ:L2.St}{i:Nat}{d:D}{v:V}(h:fG K H mu r σ)(q:eP K H mu d v):fG K H mu (r.set i (Z d)) (σ.set i (Z v)):=by
 refine⟨by rw[aX,aX];exact h.len,λj k e=>?_⟩;by_cases a:i=j
 ·subst a;have b:i<r.length:=by
   have:=(gE1.mp e).1
   rwa [aX]at this
  rw[aH b]at e;cases e;exact⟨v,aH (by rw[<- h.len];exact b),q⟩
 ·rw[gS1 a]at e;obtain⟨f,c,g⟩:=h.val j k e;exact⟨f,by rw[gS1 a];exact c,g⟩
section
variable{pos:Pos}
theorem wC{e:Expr}{t t':TG}(h:PG X e t)(i:∀v σ H Q,t' v σ H Q->t v σ H Q):PG X e t':=λag s σ H v u Q I r q=>h ag s σ H v u Q I r (i v σ H Q q)
theorem xZ{e:List Expr}{t t':GF}(h:JJ X e t)(i:∀v σ H Q,t' v σ H Q->t v σ H Q):JJ X e t':=λag s σ H v u Q I r q=>h ag s σ H v u Q I r (i v σ H Q q)
theorem EL(i:Nat){x:Str}(hN:X.N.Nodup)(hi:X.N[i]?=Z x)(hx:xC X.env.scope x)(hf:autoParam (X.fn x=M\/X.env.scope.names.lookup x=Z .local) au0):MG X (.Name x pos) (gN i):=
 wC (x0 hN hi hx hf) <| by
  rintro v σ H Q ⟨r,mu,S,d,g,f,b,e,c,a,hc⟩;cases a;exact hc _ H mu (.refl _ _) (b.set c) e
theorem EJ:LX X [] i8:=xZ Eg <| by
 rintro vs σ H Q ⟨r,mu,S,ds,f,e,b,d,c,a,hc⟩;unfold i8 at a;split at a
 ·cases a;cases c;exact⟨O,hc σ H mu (.refl _ _) b d⟩
 ·cases a
theorem B6{e:Expr}{es:List Expr}{g:FG}{h:Dr}(h1:MG X e g)(h2:LX X es h)(hs:autoParam ((assignEach (e::es) X.env).map (·.2)=assign e X.env::(assignEach es X.env).map (·.2)) cu0):LX X (e::es) (eT g h):=
 xZ (By h1 h2 hs) <| by
  rintro vs σ H Q ⟨r,mu,S,ds,s,o,m,hs,p,a,hc⟩;unfold eT at a;split at a
  ·obtain⟨⟨i,f⟩,k,a⟩:=oB1.mp a;cases p with
   |cons q t=>
    exact⟨_,_,O,r,mu,S,_,i,f,m,hs,q,k,λn H1 mu1 j d l=>⟨i,mu1,f,_,s,o,d,l,t.ext j,a,λc H2 b x2=>hc c H2 b (j.trans x2)⟩⟩
  ·cases a
theorem Iy{es:List Expr}{k:Nat}{b:Dr}{n:Nat}(hc:X.calm=M)(h:LX X es b)(hn:autoParam ((assignEach es X.env).length=n) cu0)(hst:autoParam ((assignEach es X.env).findIdx? (·.1)=Y) cu0):MG X (.Tuple es k pos) (gT n b):=
 wC (Hx hc h hn hst) <| by
  rintro v σ H Q ⟨r,mu,S,d,j,f,e,i,g,a,hc⟩;cases d with
  |tup ds=>
   rw[gT]at a;split at a
   ·rename_i c;cases g with
    |tup q t=>exact⟨_,_,O,q,by rw[<- t.length];exact c,r,mu,S,ds,j,f,e,i,t,a,hc⟩
   ·cases a
  |_=>cases a
inductive rU (K:Fg1)(f:FN)(o i v:V)(H:Hp)(Q:Hp->Prop):Prop
 |mk (mu:List c4) (S:dr) (ds:List D) (d:D) (S':dr) (hr:dI K H mu ds [o,i,v]) (hs:Sim K H mu S) (hm:f ds S=some (d,S')) (hc:∀H' mu',Ext mu mu' H H'->Sim K H' mu' S'->Q H')
def gS(f:FN)(a b:FE):FG:=λd r S=>(a r S).bind λp=>(b r p.2).bind λq=>(f [p.1,q.1,d] q.2).bind λt=>Z (r,t.2)
theorem Iz{o i:Expr}{a b:FE}{f:FN}(ho:ME X o a)(hi:ME X i b)(hs:xB X (rU X.K f))(ha:autoParam (∀v,assign (.Subscript o i pos) X.env v=(do
   let ov<-holding [v] (eval o X.env)
   let iv<-holding [v,ov] (eval i X.env)
   standAt pos
   holding [v,ov,iv] (setItem ov iv v)
   release [v,ov,iv] [])) du0):MG X (.Subscript o i pos) (gS f a b):=
 wC (Hy ho hi hs ha) <| by
  rintro v σ H Q ⟨r,mu,S,d,E,G,g,hs,A,c,hc⟩;obtain⟨⟨k,n⟩,q,c⟩:=oB1.mp c;obtain⟨⟨l,m⟩,x,c⟩:=oB1.mp c;obtain⟨⟨t,D⟩,B,c⟩:=oB1.mp c;cases c;refine⟨r,mu,S,k,n,g,hs,q,λC H1 mu1 e u z=>?_⟩;refine⟨r,mu1,n,l,m,g.ext e,z,x,λF H2 h x2 r2 s=>?_⟩;exact⟨h,m,[k,l,d],t,_,.cons (u.ext x2) (.cons r2 (.cons ((A.ext e).ext x2) .nil)),s,B,λy j p w=>hc σ y j ((e.trans x2).trans p) (((g.ext e).ext x2).ext p) w⟩
noncomputable def dH (m:FE)(g:FG):FS:=λr S=>(m r S).bind λp=>(g p.1 r p.2).bind λq=>some (.nx,q.1,q.2)
theorem tH{K:Fg1}{m:FE}{g:FG}{E:kq}{σ:L2.St}{H:Hp}(h:xP K (dH m g) E σ H):AZ (tM K m) (Kh K g) E σ H:=by
 obtain⟨r,mu,S,f,u,t,e,p,a,hc⟩:=h;obtain⟨⟨i,d⟩,k,a⟩:=oB1.mp a;obtain⟨⟨r2,s⟩,o,a⟩:=oB1.mp a;cases a;refine⟨r,mu,S,i,d,e,p,k,λq H1 mu1 j l n=>?_⟩;exact⟨r,mu1,d,i,_,_,e.ext j,n,l,o,λb H2 c x2=>hc b H2 c (j.trans x2)⟩
theorem Iq{tg e:Expr}{m:FE}{g:FG}(he:ME X e m)(hg:MG X tg g)(hs:autoParam (swapsWithSole [tg] e pos.line X.env=pure J) cu0)(hw:autoParam (swappedStores [tg] e X.env=pure Y) cu0)(h1:autoParam ((assignEach [tg] X.env).map (·.2)=[assign tg X.env]) cu0):MS X (.Assign [tg] e pos) (dH m g):=iJ (Ht he hg hs hw h1) λ_ _ _=>tH
theorem Il(i:Nat){x:Str}{e:Expr}{m:FE}{pos':Pos}(hN:X.N.Nodup)(hi:X.N[i]? = some x)(hx:xC X.env.scope x)(he:ME X e m)(hs:autoParam (swapsWith e (some (.Name x pos')) pos.line X.env=pure false) cu0)(hf:autoParam (X.fn x=true\/X.env.scope.names.lookup x=some .local) au0):
  MS X (.Assign [.Name x pos'] e pos) (dH m (gN i)):=iJ (Hn hN hi hx he hs hf) λE σ H h=>by
 obtain⟨r,mu,S,d,k,h1,h2,b,j⟩:=tH h;refine⟨r,mu,S,d,k,h1,h2,b,λv H' mu' q n c=>?_⟩;obtain⟨r2,a,u,w,t,s,f,o,g,l,p⟩:=j v H' mu' q n c;cases l;exact p _ H' a (.refl _ _) (f.set g) o
def ES(i:Nat)(f:FN)(m:FE):FS:=λr S=>match r[i]? with
 |some (Z d)=>(m r S).bind λp=>(f [d,p.1] p.2).bind λq=>Z (.nx,r.set i (Z q.1),q.2)
 |_=>Y
theorem Ip(i:Nat){x:Str}{e:Expr}{m:FE}{op:Operator}{f:FN}{pos':Pos}(hN:X.N.Nodup)(hi:X.N[i]? = some x)(hx:xC X.env.scope x)(he:ME X e m)(ho:Ml X op (r2 X.K f))(hf:autoParam (X.fn x=true\/X.env.scope.names.lookup x=some .local) au0):
  MS X (.AugAssign (.Name x pos') op e pos) (ES i f m):=iJ (Hs hN hi hx he ho hf) <| by
 rintro E σ H ⟨r,mu,S,A,C,F,he,y,a,hc⟩;unfold ES at a;split at a
 ·rename_i d e;obtain⟨⟨g,h⟩,k,a⟩:=oB1.mp a;obtain⟨⟨o,B⟩,q,a⟩:=oB1.mp a;cases a;obtain⟨v,w,s⟩:=he.val i d e;refine⟨v,w,r,mu,S,g,h,he,y,k,λz H1 mu1 b n u=>?_⟩;exact⟨mu1,h,[d,g],o,_,.cons (s.ext b) (.cons n .nil),u,q,λD t c j l p=>hc _ t c (b.trans j) (((he.ext b).ext j).set l) p⟩
 ·cases a
end
noncomputable def ui (c:FT)(b:FS):Nat->FS
 |0=>λ_ _=>none
 | n+1=>fun r S=>(c r S).bind fun p=>if p.1=true then (b r p.2).bind fun q=>match q.1 with
   | .nx=>ui c b n q.2.1 q.2.2
   | .ct=>ui c b n q.2.1 q.2.2
   | .bk=>some (.nx,q.2.1,q.2.2)
   | .rt d=>some (.rt d,q.2.1,q.2.2)
  else some (.nx,r,p.2)
theorem GN{K:Fg1}{c:FT}{b:FS}{n:Nat}{E:kq}{σ:L2.St}{H:Hp}(h:xP K (ui c b n) E σ H):AW (DM K c) (xP K b) E σ H:=by
 refine⟨λm a H'=>xP K (ui c b m) E a H',⟨n,h⟩,λm t H1 q=>?_⟩;obtain⟨r,mu,S,f,A,C,s,F,i,hc⟩:=q;cases m with
 |zero=>cases i
 |succ m=>
  obtain⟨⟨k,B⟩,D,i⟩:=oB1.mp i;refine⟨r,mu,S,k,B,s,F,D,λH2 e x2 u=>?_⟩;cases k with
  |false=>
   cases i;exact hc t H2 e x2 (s.ext x2) u
  |true=>
   obtain⟨⟨w,o,p⟩,G,i⟩:=oB1.mp i;have z:∀{a H' mu'},Ext e mu' H2 H'->fG K H' mu' o a->Sim K H' mu' p->ui c b m o p=Z (f,A,C)->xP K (ui c b m) E a H':=λ{a H' mu'} x g l i=>by
    refine⟨o,mu',p,f,A,C,g,l,i,?_⟩;cases f with
    |nx=>exact λj H2 e y=>hc j H2 e ((x2.trans x).trans y)
    |bk=>exact λj H2 e y=>hc j H2 e ((x2.trans x).trans y)
    |ct=>exact λj H2 e y=>hc j H2 e ((x2.trans x).trans y)
    |rt d=>exact λv H2 e y=>hc v H2 e ((x2.trans x).trans y)
   refine⟨λa H'=>xP K (ui c b m) E a H',λa H' q=>⟨m,bI _,q⟩,r,e,B,w,o,p,s.ext x2,u,G,?_⟩;cases w with
   |nx=>exact λa H' mu' x g l=>z x g l i
   |ct=>exact λa H' mu' x g l=>z x g l i
   |bk=>cases i;exact λa H' mu' x g l=>hc a H' mu' (x2.trans x) g l
   |rt d=>cases i;exact λv H' mu' x o l=>hc v H' mu' (x2.trans x) o l
theorem B5{X:Cx}{pos:Pos}(n:Nat){c:Expr}{a:List di}{t:FT}{b:FS}(hp:PassesOwn (model X.prog X.w) X.A X.env X.xe)(hc:MT X c t)(hb:Ap X a b):MS X (.While c a [] pos) (ui t b n):=
 iJ (Bp hp hc hb) λ_ _ _=>GN
structure Aq where
 items:List D
 chk:List (Nat×List D)
noncomputable def qC (S:dr):List (Nat×List D)->Bool
 |[]=>true
 | (n,xs)::c=>(match S[n]? with
   |some (.lst ys)=>D.sames ys xs
   |_=>false)&&qC S c
def Nv(K:Fg1)(j:It)(am:Aq)(mu:List c4)(H:Hp):Prop:=∀i H1 mu1 S1,ul mu mu1 H H1->Sim K H1 mu1 S1->qC S1 am.chk=M ->
 (∀d,am.items[i]?=Z d->j.go i H1 /\ ∀x H2,j.yld i H1 x H2->Ext mu1 mu1 H1 H2/\Sim K H2 mu1 S1/\eP K H2 mu1 d x)/\(am.items.length<=i->j.stop i H1)
abbrev FI:=Ev->dr->Option (Aq×dr)
inductive Mw (K:Fg1)(m:FI)(σ:L2.St)(H:Hp)(R:It->Hp->Prop):Prop
 |mk (r:Ev) (mu:List c4) (S:dr) (am:Aq) (S':dr) (he:fG K H mu r σ) (hs:Sim K H mu S) (hm:m r S=some (am,S')) (hc:∀j H' mu',Ext mu mu' H H'->Nv K j am mu' H'->Sim K H' mu' S'->R j H')
abbrev MI(X:Cx)(tg iter:Expr)(m:FI):Prop:=PI X tg iter (Mw X.K m)
theorem pd{X:Cx}{tg e:Expr}{t t':TI}(h:PI X tg e t)(i:∀ σ H R,t' σ H R->t σ H R):PI X tg e t':=λag s σ H R I q=>h ag s σ H R I (i σ H R q)
theorem KA{X:Cx}{tg e:Expr}{t t':TI}(h:PI X tg e t)(h':PI X tg e t'):PI X tg e (fun σ H R=>t σ H R\/t' σ H R):=λag s σ H R I q=>q.elim (h ag s σ H R I) (h' ag s σ H R I)
noncomputable def jQ (c:List (Nat×List D))(g:FG)(b:FS):List D->FS
 |[]=>λr S=>if qC S c=true then some (.nx,r,S)else none
 | d::ds=>fun r S=>if qC S c=true then (g d r S).bind fun p=>(b p.1 p.2).bind fun q=>match q.1 with
   | .nx=>jQ c g b ds q.2.1 q.2.2
   | .ct=>jQ c g b ds q.2.1 q.2.2
   | .bk=>some (.nx,q.2.1,q.2.2)
   | .rt v=>some (.rt v,q.2.1,q.2.2)
  else none
noncomputable def fC (m:FI)(g:FG)(b:FS):FS:=λr S=>(m r S).bind λp=>jQ p.1.chk g b p.1.items r p.2
theorem nz{α:Type}{l:List α}{i:Nat}{d:α}{ds:List α}(h:l.drop i=d::ds):l[i]?=Z d/\l.drop (i+1)=ds:=by
 have h1:l[i]?=Z d:=by
  have:=congrArg (·[0]?) h;simpa using this
 refine⟨h1,?_⟩;rw[<- List.drop_drop,h];rfl
inductive Nr (K:Fg1)(mu1:List c4)(H1:Hp)(c:List (Nat×List D))(g:FG)(b:FS)(f:Fl)(r':Ev)(S':dr)(L:List D)(σ':L2.St)(H':Hp):Prop
 |mk (r2:Ev) (mu2:List c4) (S2:dr):Ext mu1 mu2 H1 H'->fG K H' mu2 r2 σ'->Sim K H' mu2 S2->jQ c g b L r2 S2=some (f,r',S')->Nr K mu1 H1 c g b f r' S' L σ' H'
theorem EQ{K:Fg1}{m:FI}{g:FG}{b:FS}{E:kq}{σ:L2.St}{H:Hp}(h:xP K (fC m g b) E σ H):Ki (Mw K m) (Kh K g) (xP K b) E σ H:=by
 obtain⟨r,mu,S,f,R,U,Q,hs,G,hc⟩:=h;obtain⟨⟨am,T⟩,V,G⟩:=oB1.mp G;refine⟨r,mu,S,am,T,Q,hs,V,λj H1 mu1 w P s1=>?_⟩;refine⟨λi k s H'=>k=(am.items.drop i).length/\Nr K mu1 H1 am.chk g b f R U (am.items.drop i) s H',⟨_,O,r,mu1,T,.refl _ _,Q.ext w,s1,G⟩,?_⟩;rintro i k C H2 ⟨rfl,r2,l,S2,x2,q,A,a⟩;cases hl:am.items.drop i with
 |nil=>
  left;rw[hl]at a;rw[jQ]at a;dsimp only at a;split at a
  ·rename_i ok;cases a;refine⟨(P i H2 l _ x2.w A ok).2 (List.drop_eq_nil_iff.mp hl),?_⟩;exact hc C H2 l (w.trans x2) q A
  ·cases a
 |cons d ds=>
  right;rw[hl]at a;obtain⟨hi,ao⟩:=nz hl;rw[jQ]at a;dsimp only at a;split at a
  ·rename_i ok;obtain⟨⟨L,au⟩,aq,a⟩:=oB1.mp a;obtain⟨⟨N,B,D⟩,X,a⟩:=oB1.mp a;obtain⟨wq,yl⟩:=(P i H2 l _ x2.w A ok).1 d hi;refine⟨wq,Nr K mu1 H1 am.chk g b f R U ds,?_,λx H3 y=>?_⟩
   ·intro s H' h5;exact⟨ds.length,bI _,(congrArg List.length ao).symm,ao.symm ▸ h5⟩
   ·obtain⟨u,s3,W⟩:=yl x H3 y;refine⟨r2,l,S2,d,L,au,q.ext u,s3,W,aq,fun σ4 H4 F z I s4=>?_⟩;refine⟨L,F,au,N,B,D,I,s4,X,?_⟩;cases N with
    |nx=>exact λp t c n e o=>⟨B,c,D,(x2.trans u).trans (z.trans n),e,o,a⟩
    |ct=>exact λp t c n e o=>⟨B,c,D,(x2.trans u).trans (z.trans n),e,o,a⟩
    |bk=>cases a;exact λp t c n e o=>hc p t c ((w.trans x2).trans (u.trans (z.trans n))) e o
    |rt v=>cases a;exact λv5 t c n r5 o=>hc v5 t c ((w.trans x2).trans (u.trans (z.trans n))) r5 o
  ·cases a
theorem Io{X:Cx}{pos:Pos}{tg iter:Expr}{a:List di}{m:FI}{g:FG}{b:FS}(hp:PassesOwn (model X.prog X.w) X.A X.env X.xe)(hc:X.calm=M)(hi:MI X tg iter m)(hg:MG X tg g)(hb:Ap X a b)(hs:autoParam (∀x,foldedSetIterable iter X.env x=pure x) du0):MS X (.For tg iter a [] pos) (fC m g b):=iJ (Hr hp hc hi hg hb hs) λ_ _ _=>EQ
def fH(n:Nat)(ds:List D):Ev:=ds.map Z++aP (n-ds.length) Y
noncomputable def gH (n:Nat)(b:FS):FN:=λds S=>(b (fH n ds) S).bind λp=>match p.1 with
 | .rt d=>some (d,p.2.2)
 | .nx=>some (.non,p.2.2)
 |_=>none
theorem zi{K:Fg1}{H:Hp}{mu:List c4}{ds:List D}{vs:List V}(N:List Str)(h:dI K H mu ds vs):fG K H mu (fH N.length ds) (L2.start N vs):=by
 refine⟨?_,λi d e=>?_⟩
 ·unfold fH L2.start;rw[lA1,lA1,lM1,lM1,lR1,lR1,h.length]
 ·unfold fH at e;unfold L2.start;by_cases hi:i<ds.length
  ·rw[gL1 (by rw[lM1];exact hi),gP1]at e;obtain⟨f,a,b⟩:=oM1.mp e;cases b;obtain⟨v,c,r⟩:=h.get a;refine⟨v,?_,r⟩;rw[gL1 (by rw[lM1,<- h.length];exact hi),gP1,c];rfl
  ·rw[gR1 (by rw[lM1];lia)]at e;have:=gM1 e;rw[List.mem_replicate]at this;cases this.2
theorem Ln{P:c5}{w:c7}{K:Fg1}{mg:Str->Option cZ}{base:df}{x c:Str}{st:di}{f:c4}{fd:dg}{N ps:List Str}{k:Nat}{b:FS}(F:yY K x c st f fd)(S:hC N ps (dX st))(i:∀(e:cZ) (A:c6) (a:List Env) (s:c3) (H:Hp) (E:XK),ge k (A.deeper (envOfC c (dX st) s.heap.objs.size f e)) ->
   Ap (nV vW P w K mg base N c (dX st) f e A a s H E).nox (fA st) b):m6 P w K mg base vW (k+1) f fd ps (spM K ps.length (gH N.length b)):=by
 refine yY.ok F S (λvs H Q E h=>h.1) λe A a s H vs Q E p j=>⟨_,i e A a s H E p,?_⟩;obtain⟨_,mu,St,ds,d,u,h1,h2,g,m⟩:=j;unfold gH at g;obtain⟨⟨l,q,o⟩,n,g⟩:=oB1.mp g;refine⟨_,mu,St,l,q,o,zi N h1,h2,n,?_⟩;cases l with
 |nx=>cases g;exact λr H' mu' x t s=>m .non H' mu' x .non s
 |rt d=>cases g;exact m
 |bk=>cases g
 |ct=>cases g
def kZ(cells:List (Str×c4)):List (Str×NameKind)->List (Str×c4)->Option (List (Str×c4))
 |[],acc=>Z acc
 |(n,k)::r,acc=>if k == .free then(cells.lookup n).bind λc=>kZ cells r ((n,c)::acc)else kZ cells r acc
theorem xk{env:Env}(f:Str×NameKind->List (Str×c4)->Sem (ForInStep (List (Str×c4))))(hf:∀n k cs,f (n,k) cs=if k == .free then(do let c<-cellOf env n;pure (.yield ((n,c)::cs)))else pure (.yield cs)):
  ∀(a:List (Str×NameKind)) (acc b:List (Str×c4)),kZ env.cells a acc=Z b->forIn a acc f=(pure b:Sem (List (Str×c4)))
 |[],acc,b,h=>by cases h;rfl
 |(n,k)::r,acc,b,h=>by
  rw[List.forIn_cons,hf];unfold kZ at h;split at h
  ·rename_i d;rw[ak d];obtain⟨c,e,h⟩:=oB1.mp h;have:cellOf env n=pure c:=by unfold cellOf;rw[e]
   rw[this,pure_bind,pure_bind];exact xk f hf r _ b h
  ·rename_i d;rw[aj d,pure_bind];exact xk f hf r _ b h
theorem C5{scope:dj}{env:Env}{cl:List (Str×c4)}(h:kZ env.cells scope.names []=Z cl):closureFor scope env=pure cl:=by
 simp only[closureFor];rw[xk (env:=env) _ (λn k cs=>by cases hk:k == NameKind.free<;>simp[hk]) scope.names [] cl h];rfl
theorem xj{a:List (Str×c4)}:∀{b:List (Str×NameKind)} {acc d:List (Str×c4)},kZ a b acc=Z d->(∀x c,acc.lookup x=Z c->a.lookup x=Z c) -> ∀x c,d.lookup x=Z c->a.lookup x=Z c
 |[],acc,d,h,ha=>by cases h;exact ha
 |(n,k)::r,acc,d,h,ha=>by
  unfold kZ at h;split at h
  ·obtain⟨c,e,h⟩:=oB1.mp h;refine xj h λx g q=>?_;rw[bJ]at q;split at q
   ·rename_i f;cases q;rw[beq_iff_eq.mp f];exact e
   ·exact ha x g q
  ·exact xj h ha
theorem ox{b:List (Str×c4)}{x:Str}:∀{a:List (Str×NameKind)} {acc d:List (Str×c4)},kZ b a acc=Z d->(a.lookup x=Z .free\/(acc.lookup x).isSome=M)->(d.lookup x).isSome=M
 |[],acc,d,h,ha=>by
  cases h;rcases ha with q|q
  ·cases q
  ·exact q
 |(n,k)::r,acc,d,h,ha=>by
  unfold kZ at h;split at h
  ·obtain⟨c,e,h⟩:=oB1.mp h;refine ox h ?_;rcases ha with q|q
   ·rw[bJ]at q;split at q
    ·rename_i f;right;rw[bJ,f];rfl
    ·exact .inl q
   ·right;rw[bJ];split
    ·rfl
    ·exact q
  ·rename_i g;refine ox h ?_;rcases ha with q|q
   ·rw[bJ]at q;split at q
    ·cases q;exact absurd O g
    ·exact .inl q
   ·exact .inr q
theorem g9{x:Str}{c:c4}:∀{a:List (Str×NameKind)} {n:Nat} {acc:List (Str×c4)},(cellsFrom n a acc).lookup x=Z c->(n<=c/\(x,c)∈cellsFrom n a [])\/acc.lookup x=Z c
 |[],_,_,h=>.inr h
 |(y,k)::r,n,acc,h=>by
  unfold cellsFrom at h ⊢;split at h
  ·rename_i b;rw [if_pos b];have app:∀ (a:List (Str×NameKind)) (m:Nat) (acc:List (Str×c4)),cellsFrom m a acc=cellsFrom m a []++acc:=by
    intro a
    induction a with
    |nil=>intro m acc;rfl
    |cons p r ih=>
     obtain⟨z,q⟩:=p;intro m acc;unfold cellsFrom;split
     ·rw[ih _ ((z,m)::acc),ih _ [(z,m)],bf];rfl
     ·exact ih m acc
   rcases g9 h with⟨h1,h2⟩|h1
   ·refine .inl ⟨by lia,?_⟩;rw[app];exact aG _ h2
   ·rw[bJ]at h1;split at h1
    ·rename_i d;cases h1;refine .inl ⟨nR1 _,?_⟩;rw[app,beq_iff_eq.mp d];exact mA1 _ mS1
    ·exact .inr h1
  ·rename_i b;rw[aj b];exact g9 h
theorem qS{x:Str}{c:c4}{n:Nat}{acc:List (Str×c4)}{a:List (Str×NameKind)}(hx:a.lookup x=Z .cell)(h:(cellsFrom n a acc).lookup x=Z c):n<=c:=by
 have app:∀(a:List (Str×NameKind)) (m:Nat) (acc:List (Str×c4)),cellsFrom m a acc=cellsFrom m a []++acc:=by
  intro a
  induction a with
  |nil=>intro m acc;rfl
  |cons p r ih=>
   obtain⟨z,q⟩:=p;intro m acc;unfold cellsFrom;split
   ·rw[ih _ ((z,m)::acc),ih _ [(z,m)],bf];rfl
   ·exact ih m acc
 rw[app,List.lookup_append]at h;have q:=PySem.W.cellsFrom_some a n [] (.inl hx);obtain⟨b,e⟩:=aQ.mp q;rw[e]at h;cases h;rcases g9 e with⟨h1,_⟩|h1
 ·exact h1
 ·cases h1
theorem lh {ao:Model}{A:c6}{E:cZ->c3->Prop}{s:c3}{scope:dj}{globals:c4}{c:List (Str×c4)}{qual:Str}{func:Option c4}{code:cZ}{env:Env}{b:c4}{Q:Env->c3->Prop}
  (d:Q {scope,locals:=s.heap.objs.size,globals,cells:=cellsFrom (s.heap.objs.size+1) scope.names c,qual,func,code:=env.code,frame:=env.frame,builtins:=env.builtins}
   {s with heap:=pushCells (s.heap.push {cls:=.type "dict",data:=.dict #[]}) scope.names}):
  db ao A (newFunctionEnv scope globals c [] qual func code (Z env) b) Q E s:=by
 simp only[newFunctionEnv,Option.isSome_some,if_true];refine wB1 (wpAny_alloc ?_);refine wB1 (wpAny_layCells _ (λname a cells=>by cases hkc:a == NameKind.cell<;>simp[hkc]) _ _ _ _ ?_);rw[show({s with heap:=s.heap.push {cls:=.type "dict",data:=.dict #[]}}:c3).heap.objs.size=s.heap.objs.size+1 from hZ1 ..];refine wB1 ?_;rw[List.forIn_nil];exact wP1 (wP1 d)
def cxC(X:Cx)(scope:dj)(cl:List (Str×c4))(T:List Str)(keep:List Nat)(s:c3)(H:Hp)(fp:List c4):Cx where
 prog:=X.prog
 w:=X.w
 K:=X.K
 mg:=X.mg
 base:=X.base
 A:=X.A
 N:=T++keep.map λi=>X.N.getD i (Str.ofString "")
 s₀:=s
 H₀:=H
 env:=compEnvC scope (cellsFrom (s.heap.objs.size+1) scope.names cl) s.heap.objs.size X.env
 outer:=X.stack
 stack:=X.stack
 ex:=fp
 fn:=λx=>scope.names.lookup x == Z .cell
 calm:=X.calm
 pn:=[]
 xe:=λ_ _=>False
def tK(k:Nat)(keep:List Nat)(σ:L2.St):L2.St:=aP k Y++keep.map λi=>(σ[i]?).join
theorem j6{env:Env}{x:Str}:∀ {a:List (Str×NameKind)},
  (a.map λ(n,k)=>if(k == NameKind.free&&env.scope.kind == .function&&env.kindOf n == Z .cell)then(n,NameKind.cell)else(n,k)).lookup x =
   (a.lookup x).map λk=>if(k == NameKind.free&&env.scope.kind == .function&&env.kindOf x == Z .cell)then NameKind.cell else k
 |[]=>rfl
 |(n,k)::r=>by
  show List.lookup x ((if(k == NameKind.free&&env.scope.kind == .function&&env.kindOf n == Z .cell)=M then(n,NameKind.cell)else(n,k))::_)=_;cases hx:x == n with
  |true=>
   have e:=beq_iff_eq.mp hx;subst e;by_cases hc:(k == NameKind.free&&env.scope.kind == .function&&env.kindOf x == Z .cell)=M
   ·rw[ak hc,bJ,hx,bJ,hx];simp only[oP1,ak hc]
   ·rw[aj hc,bJ,hx,bJ,hx];simp only[oP1,aj hc]
  |false=>
   have ih:=@j6 env x r;by_cases hc:(k == NameKind.free&&env.scope.kind == .function&&env.kindOf n == Z .cell)=M
   ·rw[ak hc,bJ,hx,bJ,hx];exact ih
   ·rw[aj hc,bJ,hx,bJ,hx];exact ih
structure L0 (X:Cx)(scope:dj)(T:List Str)(keep:List Nat):Prop where
 kind:scope.kind = .function
 names:∀x∈scope.names,x.2 = .local->scope.names.lookup x.1=some .local
 free:∀i∈keep,∃x,X.N[i]?=some x/\scope.names.lookup x=some .free/\(X.env.kindOf x=some .cell\/X.env.kindOf x=some .free)/\(x,NameKind.cell)∉scope.names
theorem vm{X:Cx}{ag:List (c4×Obj)}{σ:L2.St}{H:Hp}{s:c3}{scope:dj}{t:List (Str×c4)}{T:List Str}{keep:List Nat}{D:List c4}(I:Inv X ag σ H s)(C:L0 X scope T keep)(B:kZ X.env.cells scope.names []=some t)(hf:∀b∈D,k4 X ag H b)(L:∀b∈D,∃o,s.heap.get? b=some o):
  Inv (cxC X scope t T keep s H D) [] (tK T.length keep σ) H {s with heap:=pushCells (s.heap.push {cls:=.type "dict",data:=.dict #[]}) scope.names}:=by
 have kept:∀b o,s.heap.get? b=Z o->(pushCells (s.heap.push {cls:=.type "dict",data:=.dict #[]}) scope.names).get? b=Z o:=λb o e=>pushCells_keeps _ _ b o (hP1 _ e);have A:=cellsFrom_ok scope.names (s.heap.push {cls:=.type "dict",data:=.dict #[]}) (s.heap.objs.size+1) [] ⟨λ_ _ wq=>(nomatch wq),List.Pairwise.nil⟩ (by rw[hZ1];exact nR1 _);rw[hZ1]at A;have ao:=xj B (λx c q=>by cases q)
 -- a cell of the block: its own or an elder one
 have d:∀x c,(cellsFrom (s.heap.objs.size+1) scope.names t).lookup x=Z c->(s.heap.objs.size+1<=c/\(x,c)∈cellsFrom (s.heap.objs.size+1) scope.names [])\/X.env.cells.lookup x=Z c:=λx c h=>by
  rcases g9 h with h1|h1
  ·exact .inl h1
  ·exact .inr (ao x c h1)
 have g:∀x c,X.env.cells.lookup x=Z c->c<s.heap.objs.size:=λx c e=>by
  obtain⟨v,z⟩:=I.cell x c e;exact z.lt
 have w:∀b∈D,b<s.heap.objs.size:=λb l=>by
  obtain⟨o,e⟩:=L b l;exact hL1 e
 have fst:∀b∈D,b∉frs X.stack:=λb l z=>by
  rcases aE.mp (I.stkSub b z)with q|q
  ·exact(hf b l).2.1 q
  ·exact(hf b l).2.2.1 q
 have kindOf:∀x,(cxC X scope t T keep s H D).env.kindOf x=(scope.names.lookup x).map λk=>if(k == NameKind.free&&X.env.scope.kind == .function&&X.env.kindOf x == Z .cell)then NameKind.cell else k:=λx=>j6
 refine⟨⟨I.ok.mod,C.kind,I.ok.glob,I.ok.blt,nR1 _,λx y c h1 h2=>?_,λx E=>?_,λx c h1 h2=>?_,I.ok.hd,I.ok.frames,.inl O,λb l=>⟨nN1 (w b l),λx c h z=>?_⟩,λb o e=>I.bs b o e,aC I.ok.bsz I.sz,λb o e l=>?_,fst,I.stack,I.stkFree⟩,
  rfl,I.bare,Un.kept kept,⟨λ_=>Y,(Heap.Ns.new s.heap (.type "dict")).keeps (pushCells_keeps _ _),λi x v h1 h2 h3=>?_⟩,λx c h=>?_,I.hok.fresh (nR1 _),λx c h=>?_,λp R=>absurd (show p∈([]:List (c4×Obj))from R) (by simp),I.hok.kept kept,?_⟩
 ·rcases d x c h1 with⟨a1,a2⟩|a1<;>rcases d y c h2 with⟨b1,b2⟩|b1
  ·exact name_of_addr A.apart a2 b2
  ·exact absurd (bK (bL a1) (g y c b1)) (az _)
  ·exact absurd (bK (bL b1) (g x c a1)) (az _)
  ·exact I.ok.inj x y c a1 b1
 ·have G:scope.names.lookup x=some .cell\/scope.names.lookup x=some .free:=by
   rw[kindOf x]at E;cases e:scope.names.lookup x with
   |none=>rw[e]at E;rcases E with z|z<;>cases z
   |some k=>
    rw[e]at E;simp only[oP1]at E;cases k<;>simp_all
  have:((cellsFrom (s.heap.objs.size+1) scope.names t).lookup x).isSome=M:=by
   rcases G with z|z
   ·exact PySem.W.cellsFrom_some _ _ _ (.inl z)
   ·exact PySem.W.cellsFrom_some _ _ _ (.inr (ox B (.inl z)))
  exact aQ.mp this
 ·have f:scope.names.lookup x=Z .cell:=by simpa[cxC]using h1
  have:=qS f h2;exact aC (bc _) this
 ·subst z;rcases d x c h with⟨a1,_⟩|a1
  ·exact absurd (bK (bL a1) (w c l)) (az _)
  ·exact(hf c l).2.2.2.2.1 x c a1 O
 ·rcases(hf b l).2.2.2.1 with z|z
  ·exact I.ok.noex b o e z
  ·exact absurd (nL1 (hL1 e) (aC I.ok.bsz z)) (az _)
 ·-- a name of the block that has a value:one of the outer text's
  have hi:T.length<=i:=by
   refine Nat.le_of_not_lt λhi=>?_;unfold tK at h2;rw[gL1 (by rw[lR1];exact hi),aS]at h2;split at h2<;>cases h2
  unfold tK at h2;rw[gR1 (by rw[lR1];exact hi),lR1,gP1]at h2;obtain⟨j,P,h2⟩:=oM1.mp h2;have f:X.N.getD j (Str.ofString "")=x:=by
   have f:(T++keep.map λi=>X.N.getD i (Str.ofString ""))[i]?=Z x:=h1;rw[gR1 hi,gP1,P]at f;exact Option.some.inj f
  obtain⟨y,N,Q,ky,V⟩:=C.free j (gM1 P);have K:y=x:=by rw[<- f,bM,N];rfl
  subst K;have am:σ[j]?=Z (Z v):=by
   cases e:σ[j]? with
   |none=>rw[e]at h2;cases h2
   |some o=>rw[e]at h2;cases h2;rfl
  obtain⟨m,hn,hl⟩:=I.loc;obtain⟨u,ru,aq⟩:=hl j y v N am (by
   rcases ky with z|z
   ·exact .inr (.inl z)
   ·exact .inr (.inr z))
  refine⟨u,ru,?_⟩;rcases aq with⟨z,_⟩|⟨_,c,U,S⟩
  ·rcases ky with q|q<;>(rw[z]at q;cases q)
  ·right;refine⟨?_,c,?_,S.keeps kept⟩
   ·rw[kindOf,Q];simp only[oP1];split
    ·exact .inl O
    ·exact .inr O
   ·obtain⟨c',W⟩:=aQ.mp (PySem.W.cellsFrom_some scope.names (s.heap.objs.size+1) t (.inr (ox B (.inl Q))):((cellsFrom (s.heap.objs.size+1) scope.names t).lookup y).isSome=M);have au:(cellsFrom (s.heap.objs.size+1) scope.names t).lookup y=Z c':=W;rcases d y c' au with⟨a1,a2⟩|a1
    ·-- an own cell of that name:its kind would be cell
     exfalso;have:∀(names:List (Str×NameKind)) (n:Nat),(y,c')∈cellsFrom n names []->(y,NameKind.cell)∈names:=by
      have app:∀(names:List (Str×NameKind)) (m:Nat) (acc:List (Str×c4)),cellsFrom m names acc=cellsFrom m names []++acc:=by
       intro names
       induction names with
       |nil=>intro m acc;rfl
       |cons p r ih=>
        obtain⟨z,q⟩:=p;intro m acc;unfold cellsFrom;split
        ·rw[ih _ ((z,m)::acc),ih _ [(z,m)],bf];rfl
        ·exact ih m acc
      intro names
      induction names with
      |nil=>intro n h;cases h
      |cons p r ih=>
       obtain⟨z,q⟩:=p;intro n h;unfold cellsFrom at h;split at h
       ·rename_i hq;rw[app]at h;rcases aF.mp h with h|h
        ·exact mC1 _ (ih _ h)
        ·have:(y,c')=(z,n):=by simpa using h
         cases this;have F:q=NameKind.cell:=by simpa using hq
         subst F;exact mS1
       ·exact mC1 _ (ih _ h)
     exact V (this _ _ a2)
    ·rw[U]at a1;cases a1;exact au
 ·rcases d x c h with⟨a1,a2⟩|a1
  ·exact⟨_,(A.empty x c a2).1⟩
  ·obtain⟨v,z⟩:=I.cell x c a1;exact⟨v,z.keeps kept⟩
 ·rcases d x c h with⟨a1,a2⟩|a1
  ·exact I.hok.fresh (bL a1)
  ·exact I.freeC x c a1
 ·show(tK T.length keep σ).length=(T++keep.map λi=>X.N.getD i (Str.ofString "")).length;unfold tK;rw[lA1,lA1,lR1,lM1,lM1]
def uv(p:Pos)(tg:Expr)(ifs:List Expr)(it:cZ)(env:Env)(emit:Sem Unit)(c:Code):Sem PySem.Fin:=do
 standAt p
 match<-pyNext it with
 |none=>pure (.done .next)
 |some v=>
  letOwnedTupleGo tg it v
  assign tg env v
  let mut ok:=M
  for c in ifs do
   if ok then ok<-isTrue c env (eval c env)
  if ok then emit
  again c
def vD(elt:Expr)(acc:cZ)(env:Env):Sem Unit:=do let _<-call (.builtin "list.append") [acc,<- eval elt env]
theorem AO(elt tg iter:Expr)(ifs:List Expr)(scope:dj)(pos:Pos)(it acc:cZ)(env:Env):
  compTurn (.ListComp elt [⟨tg,iter,ifs,0⟩] scope pos) 0 it acc env=uv iter.pos tg ifs it env (vD elt acc env) (.compLoop (.ListComp elt [⟨tg,iter,ifs,0⟩] scope pos) 0 it acc env):=by rfl
def re(X:Cx)(ifs:List Expr)(t:TT):Prop:=
 ∀(ag:List (c4×Obj)) (s:c3) (σ:L2.St) (H:Hp) (Q:Bool->Hp->Prop),Inv X ag σ H s->t σ H Q ->
  db (model X.prog X.w) X.A (forIn ifs M λc r=>if r=M then do let ok<-isTrue c X.env (eval c X.env);pure (ForInStep.yield ok)else pure (ForInStep.yield r)) (TP X ag σ Q) X.xe s
theorem Bv{X:Cx}:re X [] (fun σ H Q=>Q M H):=λag s σ H Q I h=>wpAny_tests_nil ⟨H,I,h⟩
theorem Bu{X:Cx}{c:Expr}{t:TT}(h:PT X c t):re X [c] t:=λag s σ H Q I q=>wpAny_tests_one (h ag s σ H Q I q)
def PU(X:Cx)(m:Sem Unit)(t:TS):Prop:=
 ∀(ag:List (c4×Obj)) (s:c3) (σ:L2.St) (H:Hp) (E:kq),Inv X ag σ H s->t E σ H->db (model X.prog X.w) X.A m (λ_ s'=>∃ σ' H',Inv X ag σ' H' s'/\E.nx σ' H') X.xe s
theorem sj{X:Cx}(hx:X.xe=fun _ _=>False)(hc:X.calm=true){elt:Expr}{c:List Comprehension}{scope:dj}{pos p:Pos}{d:Nat}{tg:Expr}{ifs:List Expr}{acc:cZ}{emit:Sem Unit}{am:It}{z:List c4}{it:c4}{au:Nat->df->Prop}{g:TG}{ti:TT}{tb:TS}(eq:compTurn (.ListComp elt c scope pos) d (.ref it) acc X.env=uv p tg ifs (.ref it) X.env emit (.compLoop (.ListComp elt c scope pos) d (.ref it) acc X.env))(T:xy X.prog X.w X.K tg am z it au)(hg:PG X tg g)(hi:re X ifs ti)(he:PU X emit tb){ag:List (c4×Obj)}{s:c3}{σ:L2.St}{H:Hp}{D:kq}(I:Inv X ag σ H s)(st:au 0 s.heap)(wq:∀b∈z,k4 X ag H b)(h:∃W:Nat->Nat->L2.St->Hp->Prop,(∃m,W 0 m σ H) /\ ∀i m σ H,W i m σ H ->
   (am.stop i H/\D.nx σ H)\/(am.go i H /\ ∃N:L2.St->Hp->Prop,(∀a H',N a H' -> ∃P,P<m/\W (i+1) P a H') /\ ∀x H',am.yld i H x H'->g x σ H' λt H2=>ti t H2 λb v=>if b=M then tb {D with nx:=N} t v else N t v)):
  de (model X.prog X.w) X.A (.compLoop (.ListComp elt c scope pos) d (.ref it) acc X.env) (λr s'=>match r with | .ok _=>∃a H',Inv X ag a H' s'/\D.nx a H' | .error _=>False) s:=by
 obtain⟨W,⟨m0,w0⟩,G⟩:=h;have k:∀{H':Hp},(∀b∈z,H' b=Y) -> ∀b∈z,k4 X ag H' b:=λhn b l=>⟨hn b l,(wq b l).2⟩;refine codeAny_loop O (λn s'=>∃i a H',Inv X ag a H' s'/\au i s'.heap/\(∀b∈z,H' b=Y)/\W i n a H') ?_ m0 ⟨0,σ,H,I,st,λb l=>(wq b l).1,w0⟩;rintro n R ⟨i,f,v,I3,ao,L,w3⟩;show db _ _ ((compTurn (.ListComp elt c scope pos) d (.ref it) acc X.env).onRaise (λx=>do noteFrame x X.env;theTreesLotGoes x)) _ _ R;refine wpAny_noted ?_;rw[eq];have A:∀{α:Type} {m:Sem α} {Q:α->c3->Prop} {s:c3} {E:cZ->c3->Prop},db (model X.prog X.w) X.A m Q X.xe s->db (model X.prog X.w) X.A m Q E s:=λh=>by
  rw[hx]at h;exact wpAny_mono h (λ_ _ q=>q) λ_ _ q=>q.elim
 unfold uv;refine wB1 (wpAny_standAt (wB1 ?_));rcases G i n f v w3 with⟨F,qn⟩|⟨go,N,hN,step⟩
 ·refine A (fe (T.done X O O O hc i ag R f v X.xe I3 (k L) ao F) λr s4 ⟨V,I4⟩=>?_);subst V;exact wP1 ⟨f,v,I4,qn⟩
 ·refine A (fe (T.item X rfl rfl rfl hc i ag R f v X.xe I3 (k L) ao go) fun r s4 ⟨u,V,h4⟩=>?_);subst V;refine wB1 (A (fe h4 fun _ s5 ⟨x,H5,I5,r5,y5,y,S⟩=>?_));have U:=I5.pinned (k S) (T.obj _ _ y);refine wB1 (A (fe (hg _ s5 f H5 x u _ U r5 (step x H5 y5)) fun _ s6 ⟨K,H6,I6,q6⟩=>?_));refine wB1 (A (fe (hi _ s6 K H6 _ I6 q6) fun ok B ⟨w,C,aq⟩=>?_));have again':∀ {j:L2.St} {w:Hp} {B:c3},Inv X (ag++pc z s5.heap) j w B->N j w -> ∃ m,m<n /\ ∃ i a H',Inv X ag a H' B/\au i B.heap/\(∀ b∈z,H' b=none)/\W i m a H':=fun {j w B} C n7=>by
   obtain⟨P,hm,w7⟩:=hN j w n7;refine⟨P,hm,i+1,j,w,C.unpinned,T.keep _ _ _ y λb l o e=>(C.pin (b,o) (mA1 _ (mA1 _ (jI l e)))).1,λb l=>?_,w7⟩;obtain⟨o,e,d⟩:=T.obj _ _ y b l;exact(C.pin (b,o) (mA1 _ (mA1 _ (jI l e)))).2.1
  cases ok with
  |false=>exact wP1 ⟨O,again' C aq⟩
  |true=>exact wB1 (A (fe (he _ B K w _ C aq) λ_ s8 ⟨σ8,H8,I8,q8⟩=>wP1 ⟨O,again' I8 q8⟩))
def xQ(p:c4)(te:TE):TS:=λD σ H=>te σ H λx H1=>∃xs,H1 p=Z (.lst xs)/\xs.length<da/\D.nx σ (upd H1 p (.lst (xs++[x])))
theorem xY{X:Cx}{elt:Expr}{te:TE}(h:PE X elt te)(p:c4):PU X (vD elt (.ref p) X.env) (xQ p te):=by
 intro ag s σ H E I q;unfold vD;refine wB1 (fe (h ag s σ H _ I q) λu c ⟨x,H1,a,g,xs,b,e,d⟩=>?_);refine wB1 (fe (rL ag c σ H1 (.ref p) [x] (.ref p) [u] (λ_ H'=>E.nx σ H') a O (.cons g .nil) ⟨p,xs,x,O,O,b,e,d⟩) λ_ j ⟨_,H2,f,_,i⟩=>?_);exact wP1 ⟨σ,H2,f,i⟩
def Gh(am:It)(g:TG)(ti:TT)(tb:TS):TS:=λD σ H=>∃W:Nat->Nat->L2.St->Hp->Prop,(∃m,W 0 m σ H) /\ ∀i m σ H,W i m σ H ->
 (am.stop i H/\D.nx σ H)\/(am.go i H /\ ∃N:L2.St->Hp->Prop,(∀ σ' H',N σ' H' -> ∃m',m'<m/\W (i+1) m' σ' H') /\ ∀x H',am.yld i H x H'->g x σ H' fun σ2 H2=>ti σ2 H2 λb H3=>if b=M then tb {D with nx:=N} σ2 H3 else N σ2 H3)
theorem Un.sameBut{fs ex:List c4}{H H':Hp}{h h1 h2:df}{c:c4}(u:Un fs ex H H' h h1)(hs:Heap.SameBut c h1 h2)(hc:h.get? c=Y):Un fs ex H H' h h2:=by
 have ne:∀{b o},h.get? b=Z o->b≠c:=λe z=>by rw[z,hc]at e;cases e
 refine⟨λb o e n d a=>(hs.2 b (ne e)).trans (u.keep b o e n d a),λb o e n d a=>?_,u.free,λb o e a=>?_,u.tups,u.frzs,u.tbls⟩
 ·obtain⟨f,q⟩:=u.slot b o e n d a;exact⟨f,(hs.2 b (ne e)).trans q⟩
 ·obtain⟨o',q⟩:=u.there b o e a;exact⟨o',(hs.2 b (ne e)).trans q⟩
def AX(k:Nat)(keep:List Nat)(wi:TI)(g:TG)(ti:TT)(tb:c4->TS):TE:=fun σ H Q=>wi σ H λam H1=>∀p,H1 p=Y ->
 Gh am g ti (tb p) {nx:=λ_ H'=>Q (.ref p) H',rt:=λ_ _=>False} (tK k keep σ) (upd H1 p (.lst []))
theorem Ej{X:Cx}(hc:X.calm=true){elt tg iter:Expr}{ifs:List Expr}{rest:List Comprehension}{scope:dj}{pos:Pos}{T:List Str}{keep:List Nat}{k:List (Str×c4)}{L:TI}{g:TG}{G:TT}{tb:c4->TS}{emit:cZ->Env->Sem Unit}(eq:∀it l i,compTurn (.ListComp elt (⟨tg,iter,ifs,0⟩::rest) scope pos) 0 it l i=uv iter.pos tg ifs it i (emit l i) (.compLoop (.ListComp elt (⟨tg,iter,ifs,0⟩::rest) scope pos) 0 it l i))(C:L0 X scope T keep)(w:kZ X.env.cells scope.names []=some k)(hi:PI X tg iter L)(hb:∀s H d p,PG (cxC X scope k T keep s H d) tg g/\re (cxC X scope k T keep s H d) ifs G/\PU (cxC X scope k T keep s H d) (emit (.ref p) (cxC X scope k T keep s H d).env) (tb p))(hs:autoParam (∀x,foldedSetIterable iter X.env x=pure x) du0):
  PE X (.ListComp elt (⟨tg,iter,ifs,0⟩::rest) scope pos) (AX T.length keep L g G tb):=by
 intro ag s σ H Q I h;rw[eval_ListComp];refine wpAny_comprehension_free (use:=Y) O hs (C5 w) C.kind C.names ?_;refine fe (hi ag s σ H _ I h) λv s1 h1=>fe h1 λitv a h2=>?_;obtain⟨it,d,U,am,H2,rfl,N,TT,y,F,q2⟩:=h2;refine wO1 ?_;have K:Inv X ag σ (upd H2 a.heap.objs.size (.lst [])) {a with heap:=a.heap.push {cls:=.type "list",data:=.seq ([]:List cZ).toArray}}:=N.lnew (t':=a.toks) .nil (br _);have old:∀b∈d,∃o,a.heap.get? b=Z o:=λb hb=>by
  obtain⟨o,e,_⟩:=TT.obj 0 a.heap y b hb;exact⟨o,e⟩
 have D:∀b∈d,b≠a.heap.objs.size:=λb hb z=>by
  obtain⟨o,e⟩:=old b hb;have:=hL1 e;rw[z]at this;exact az _ this
 have A:∀b∈d,k4 X ag (upd H2 a.heap.objs.size (.lst [])) b:=λb hb=>⟨by rw[d0 (D b hb)];exact(F b hb).1,(F b hb).2⟩;have au:∀b∈d,∃o,({a with heap:=a.heap.push {cls:=.type "list",data:=.seq ([]:List cZ).toArray}}:c3).heap.get? b=Z o:=λb hb=>by
  obtain⟨o,e⟩:=old b hb;exact⟨o,hP1 _ e⟩
 have B:=vm K C w A au;obtain⟨hg,aq,W⟩:=hb {a with heap:=a.heap.push {cls:=.type "list",data:=.seq ([]:List cZ).toArray}} (upd H2 a.heap.objs.size (.lst [])) d a.heap.objs.size;refine lh ?_;have R:∀b∈d,k4 (cxC X scope k T keep {a with heap:=a.heap.push {cls:=.type "list",data:=.seq ([]:List cZ).toArray}} (upd H2 a.heap.objs.size (.lst [])) d) [] (upd H2 a.heap.objs.size (.lst [])) b:=λb hb=>
  ⟨(A b hb).1,(B.ok.exf b hb).1,B.ok.exfs b hb,.inl hb,(B.ok.exf b hb).2,λp P=>absurd (show p∈([]:List (c4×Obj))from P) (by simp)⟩
 have t:U 0 (pushCells ((a.heap.push {cls:=.type "list",data:=.seq ([]:List cZ).toArray}).push {cls:=.type "dict",data:=.dict #[]}) scope.names):=
  TT.keep 0 a.heap _ y λb hb o e=>pushCells_keeps scope.names _ b o (hP1 _ (hP1 _ e))
 have j:=sj (X:=cxC X scope k T keep {a with heap:=a.heap.push {cls:=.type "list",data:=.seq ([]:List cZ).toArray}} (upd H2 a.heap.objs.size (.lst [])) d) O hc (eq (.ref it) (.ref a.heap.objs.size) _) TT hg aq W B t R
  (q2 a.heap.objs.size (N.hok.fresh (nR1 _)))
 refine codeAny_mono (codeAny_compStart_list j (TT.self X.A 0 _ _ _ t j)) λr s' ao=>?_;cases r with
 |error e=>exact ao.elim
 |ok f=>
  obtain⟨wq,H',n,S⟩:=ao;obtain⟨m,V,_⟩:=id n.loc;refine⟨m,V,λh' u=>⟨.ref a.heap.objs.size,H',?_,O,S⟩⟩;refine K.call' (s':={s' with heap:=h'}) (ch:=d) n.os (Un.sameBut n.base u (Heap.get?_none_of_le (nR1 _))) (λb ob e=>?_) n.bare λb hb=>(A b hb).2.2.2 |> λz=>⟨z.1,(A b hb).2.1,z.2.1,z.2.2⟩
  refine(n.hok b ob e).stay (λc w' hc q=>(u.2 c ?_).trans q) (λ_ q=>q) λ_ _ q=>q;rintro rfl;have E:=n.free;rcases hc with rfl|hc
  ·exact nomatch E.symm.trans e
  ·exact nomatch E.symm.trans hc
section
variable{K:Fg1}{H:Hp}{mu:List c4}{S:dr}{p:c4}{u:HO}{o:Ob}{n:Nat}
theorem Rd.ne{a:c4}{x:HO}(h:H p=Y)(q:Rd H a x):a≠p:=by
 rintro rfl;rcases q with q|⟨_,q⟩<;>(rw[h]at q;cases q)
theorem Ext.fresh(hp:H p=Y):Ext mu mu H (upd H p u) where
 pre:=bv
 old:=λa o h _=>by rw[d0 (ev h hp)];exact h
 tup:=λa xs h=>by
  have ne:=Rd.ne hp h;rcases h with h|⟨b,h⟩
  ·exact .inl (by rw[d0 ne];exact h)
  ·exact .inr ⟨b,by rw[d0 ne];exact h⟩
 frz:=λa o x h=>by rw[d0 (ev h hp)];exact h
 new:=λ_ h=>.inl h
theorem Ext.new_(hp:H p=Y):Ext mu (mu++[p]) H (upd H p u) where
 pre:=bE _ _
 old:=(Ext.fresh (mu:=mu) hp).old
 tup:=(Ext.fresh (mu:=mu) hp).tup
 frz:=(Ext.fresh (mu:=mu) hp).frz
 new:=λa h=>by
  rcases aF.mp h with h|h
  ·exact .inl h
  ·have:a=p:=by simpa using h
   subst this;exact .inr hp
theorem Sim.fresh(s:Sim K H mu S)(hp:H p=Y):Sim K (upd H p u) mu S:=
 ⟨s.len,s.nd,λk o a h1 h2=>(s.ob k o a h1 h2).keep (Ext.fresh hp) λb e=>by rw[d0 (ev e hp)];exact e⟩
theorem Sim.notin(s:Sim K H mu S)(hp:H p=Y):p∉mu:=λh=>by
 obtain⟨o,e⟩:=s.here h;rw[hp]at e;cases e
theorem qw.more{a:c4}{mu':List c4}{H':Hp}(e:Ext mu mu' H H')(h:∀o,H a=Z o->H' a=Z o):∀{o:Ob},qw K H mu a o->qw K H' mu' a o
 | .lst _,⟨vs,q,r⟩=>⟨vs,h _ q,r.ext e⟩
 | .dct _,⟨ws,q,r⟩=>⟨ws,h _ q,KR.ext e r⟩
 | .dcT _,⟨ws,q,r,l⟩=>⟨ws,h _ q,KT.ext e r,l⟩
 | .iset _,q=>⟨h _ q.1,q.2⟩
 | .dcF _,⟨ws,⟨o,u,b,c⟩,r,l⟩=>⟨ws,⟨o,u,h _ b,c⟩,KT.ext e r,l⟩
 | .tst _,⟨ws,q,r⟩=>⟨ws,h _ q,KT.ext e r⟩
theorem Sim.new(s:Sim K H mu S)(hp:H p=Y)(ho:qw K (upd H p u) (mu++[p]) p o):Sim K (upd H p u) (mu++[p]) (S++[o]):=by
 refine⟨by rw[lA1,lA1,s.len];rfl,?_,λk o' a h1 h2=>?_⟩
 ·rw[bG];refine⟨s.nd,by simp,λa g b f e=>?_⟩;have:b=p:=by simpa using f
  subst this;subst e;exact s.notin hp g
 ·by_cases d:k<S.length
  ·rw[gL1 d]at h1;rw[gL1 (by rw[s.len];exact d)]at h2;exact(s.ob k o' a h1 h2).more (Ext.new_ hp) λh e=>by rw[d0 (ev e hp)];exact e
  ·have c:k=S.length:=by
    have:=(gE1.mp h1).1;rw[lA1]at this;simp at this;lia
   subst c;rw[gR1 (nR1 _)]at h1;rw[<- s.len,gR1 (nR1 _)]at h2;simp at h1 h2;subst h1;subst h2;exact ho
theorem Ext.put{x:HO}(hp:H p=Z x)(hm:JL (Z x))(b:p∈mu):Ext mu mu H (upd H p u) where
 pre:=bv
 old:=λa o h n=>by rw[d0 (λe=>n (by rw[e];exact b))];exact h
 tup:=λa xs h=>by
  have ne:a≠p:=by
   rintro rfl;rcases h with h|⟨_,h⟩<;>(rw[hp]at h;cases h;exact hm)
  rcases h with h|⟨c,h⟩
  ·exact .inl (by rw[d0 ne];exact h)
  ·exact .inr ⟨c,by rw[d0 ne];exact h⟩
 frz:=λa o y h=>by
  rw[d0 (λe=>?_)]
  ·exact h
  ·subst e;rw[hp]at h;cases h;exact hm
 new:=λ_ h=>.inl h
theorem Sim.put(s:Sim K H mu S){x:HO}(hn:mu[n]?=Z p)(hp:H p=Z x)(hm:JL (Z x))(ho:qw K (upd H p u) mu p o):Sim K (upd H p u) mu (S.set n o):=by
 refine⟨by rw[aX];exact s.len,s.nd,λk o' a h1 h2=>?_⟩;by_cases b:n=k
 ·subst b;have d:n<S.length:=by
   have:=(gE1.mp h1).1
   rwa [aX]at this
  rw[aH d]at h1;cases h1;rw[hn]at h2;cases h2;exact ho
 ·rw [gS1 b] at h1;have ne:a≠p:=fun e=>by
   subst e;obtain⟨g,c⟩:=gE1.mp hn;obtain⟨i,f⟩:=gE1.mp h2;exact b ((List.getElem_inj s.nd).mp (c.trans f.symm))
  exact(s.ob k o' a h1 h2).keep (Ext.put hp hm (gM1 hn)) λh e=>by rw[d0 ne];exact e
theorem Sim.lst(s:Sim K H mu S){ds:List D}{a:c4}(h:S[n]?=Z (.lst ds))(hn:mu[n]?=Z a):∃vs,H a=Z (.lst vs)/\dI K H mu ds vs:=s.ob n _ a h hn
theorem Sim.dcT(s:Sim K H mu S){ks:List (TK×D)}{a:c4}(h:S[n]?=Z (.dcT ks))(hn:mu[n]?=Z a):∃ws,H a=Z (.ext (iX a ws))/\KT K H mu ks ws/\ws.length<=da:=s.ob n _ a h hn
theorem Sim.dct(s:Sim K H mu S){ks:List (Key×D)}{a:c4}(h:S[n]?=Z (.dct ks))(hn:mu[n]?=Z a):∃ws,H a=Z (.dK ws)/\KR K H mu ks ws:=s.ob n _ a h hn
theorem Sim.newL(s:Sim K H mu S){ds:List D}{vs:List V}(r:dI K H mu ds vs)(hp:H p=Y):Sim K (upd H p (.lst vs)) (mu++[p]) (S++[.lst ds]):=s.new hp ⟨vs,d8,r.ext (Ext.new_ hp)⟩
theorem Sim.putL(s:Sim K H mu S){ds:List D}{vs ws:List V}(r:dI K H mu ds vs)(hn:mu[n]?=Z p)(hp:H p=Z (.lst ws)):Sim K (upd H p (.lst vs)) mu (S.set n (.lst ds)):=
 s.put hn hp trivial ⟨vs,d8,r.ext (Ext.put hp trivial (gM1 hn))⟩
end
theorem gh{mu:List c4}{S:dr}(h:mu.length=S.length)(p:c4):(mu++[p])[S.length]?=Z p:=by
 rw[<- h,gR1 (nR1 _)];simp
noncomputable def d7 (a:FA):FE:=λr S=>(a r S).bind λp=>if p.1.length<=da then some (.tup p.1,p.2)else none
noncomputable def eY (a:FA):FE:=λr S=>(a r S).bind λp=>if p.1.length<=da then some (.ref p.2.length,p.2++[.lst p.1])else none
section
variable{es:List Expr}{pos:Pos}{a:FA}
theorem IC{x1}(h:MA X es a):ME X (.Tuple es x1 pos) (d7 a):=eO (HA h) <| by
 rintro σ H Q ⟨r,mu,S,d,m,j,k,b,hc⟩;obtain⟨⟨ds,l⟩,f,b⟩:=oB1.mp b;dsimp only at b;split at b
 ·rename_i i;cases b;refine⟨r,mu,S,ds,_,j,k,f,λvs H1 mu1 x1 e g=>⟨by rw[<- e.length];exact i,λp c=>?_⟩⟩;exact hc _ _ mu1 (x1.trans (Ext.fresh c)) (.tup (kS.of d8) (e.ext (Ext.fresh c))) (g.fresh c)
 ·cases b
theorem II(h:MA X es a):ME X (.List es pos) (eY a):=eO (HF h) <| by
 rintro σ H Q ⟨r,mu,S,d,n,j,k,b,hc⟩;obtain⟨⟨ds,m⟩,g,b⟩:=oB1.mp b;dsimp only at b;split at b
 ·rename_i i;cases b;refine⟨r,mu,S,ds,_,j,k,g,λvs H1 mu1 l c f=>⟨by rw[<- c.length];exact i,λp e=>?_⟩⟩;exact hc _ _ (mu1++[p]) (l.trans (Ext.new_ e)) (.ref (gh f.len p)) (f.newL c e)
 ·cases b
end
def jv(k:Nat)(keep:List Nat)(r:Ev):Ev:=aP k Y++keep.map λi=>(r[i]?).join
def d9:FT:=λ_ S=>Z (M,S)
theorem Ld{K:Fg1}{H:Hp}{mu:List c4}{r:Ev}{σ:L2.St}(k:Nat)(keep:List Nat)(h:fG K H mu r σ):fG K H mu (jv k keep r) (tK k keep σ):=by
 refine⟨by unfold jv tK;rw[lA1,lA1,lM1,lM1,lR1,lR1],λi d e=>?_⟩;unfold jv at e;unfold tK;by_cases hi:i<k
 ·rw[gL1 (by rw[lR1];exact hi),aS]at e;split at e<;>cases e
 ·rw [gR1 (by rw [lR1];lia),lR1,gP1] at e;rw [gR1 (by rw [lR1];lia),lR1,gP1];obtain ⟨j,b,e⟩:=oM1.mp e;rw [b];have c:r[j]? = some (some d):=by
   cases q:r[j]? with
   |none=>rw[q]at e;cases e
   |some o=>rw[q]at e;cases e;rfl
  obtain⟨v,a,f⟩:=h.val j d c;exact⟨v,by rw[oP1,a];rfl,f⟩
theorem Bw{ifs:List Expr}{t t':L2.TT}(h:re X ifs t)(i:∀ σ H Q,t' σ H Q->t σ H Q):re X ifs t':=λag s σ H Q I q=>h ag s σ H Q I (i σ H Q q)
theorem EH:re X [] (DM X.K d9):=Bw Bv fun σ H Q ⟨r,mu,S,b,d,e,a,c,hc⟩=>by cases c;exact hc H mu (.refl _ _) a
theorem EG{c:Expr}{t:FT}(h:MT X c t):re X [c] (DM X.K t):=Bu h
open PySem.AutoSeq1 (wpAny_loadPart')
def SIt(b:Bool)(h:df)(it a:c4)(i:Nat):Prop:=match b with
 |true=>h.IsListIter it a i
 |false=>h.IsTupleIter it a i
def SCo(b:Bool)(h:df)(a:c4)(xs:Array cZ):Prop:=match b with
 |true=>h.IsList a xs
 |false=>h.IsTuple a xs
theorem SIt.to{b:Bool}{h h':df}{it a:c4}{i:Nat}(x:SIt b h it a i)(k:∀o,h.get? it=Z o->h'.get? it=Z o):SIt b h' it a i:=by
 cases b<;>(obtain⟨o,e,r⟩:=x;exact⟨o,k o e,r⟩)
theorem SIt.rec_{b:Bool}{h:df}{it a:c4}{i:Nat}(x:SIt b h it a i):∃o,h.get? it=Z o /\ ∀v,o.data ≠ .cell v:=by
 cases b<;>(obtain⟨o,e,c,d⟩:=x;exact⟨o,e,λv z=>by rw[d]at z;cases z⟩)
theorem SCo.to{b:Bool}{h h':df}{a:c4}{xs:Array cZ}(x:SCo b h a xs)(k:∀o,h.get? a=Z o->h'.get? a=Z o):SCo b h' a xs:=by
 cases b<;>(obtain⟨o,e,r⟩:=x;exact⟨o,k o e,r⟩)
def fN(b:Bool)(a:c4):Obj:=match b with
 |true=>{cls:=.type "list_iterator",data:=.fields #[.ref a,.int 0 0]}
 |false=>{cls:=.type "tuple_iterator",data:=.fields #[.ref a,.int 0 0]}
section
variable{prog:c5}{w:c7}{A:c6}{E:cZ->c3->Prop}{s:c3}
theorem sP{b:Bool}{h:df}{it a:c4}(e:h.get? it=Z (fN b a)):SIt b h it a 0:=by
 cases b<;>exact⟨_,e,O,O⟩
theorem jk{b:Bool}{a:c4}{xs:Array cZ}{Q:cZ->c3->Prop}(x:SCo b s.heap a xs)(h:Q (.ref s.heap.objs.size) {s with heap:=s.heap.push (fN b a)}):db (model prog w) A (pyIter (.ref a)) Q E s:=by
 cases b
 ·exact wpAny_pyIter_tuple x h
 ·exact wpAny_pyIter_list x h
theorem BZ{it l:c4}{i:Nat}{xs:Array cZ}{x:cZ}{Q:cZ->c3->Prop}(e:s.heap.IsTupleIter it l i)(tl:s.heap.IsTuple l xs)(hx:xs[i]? = Z x)(f:∀h',h'.IsTupleIter it l (i+1)->Heap.SameBut it s.heap h'->Q x {s with heap:=h'}):db (model prog w) A (Builtin.SmallTypes.nextOf (.ref it)) Q E s:=by
 obtain⟨o,b,hc,a⟩:=id e;obtain⟨g,d,_,h,c⟩:=tl;unfold Builtin.SmallTypes.nextOf;refine wB1 (wpAny_callSpecial?_slot (name:=Str.ofString "__next__") e.typeIs F.slot_tuple_iterator_next (wE1 F.slot_tuple_iterator_next e.typeIs F.entry_tuple_iterator_next ?_ (F.args_tuple_iterator_next_1 _)));show db _ _ (field (.ref it) 0 >>= _) _ _ s;refine wB1 (wpAny_field b a (x:=.ref l) O ?_);show db _ _ (if(Value.ref l == Value.none)=M then _ else _) _ _ s;rw[aj (show¬ ((Value.ref l == Value.none)=M)from aK)];show db _ _ (field (.ref it) 1 >>= _) _ _ s;refine wB1 (wpAny_field b a (x:=.int i 0) O ?_);show db _ _ (seqItems? (.ref l) >>= _) _ _ s;refine wB1 (wpAny_seqItems d c ?_);simp only[Int.toNat_natCast,hx];refine wB1 (wpAny_setField b a (by simp) (wP1 ⟨x,O,wP1 (f _ ⟨_,hW1 _ b (Obj.isFreed_of_fields (Obj.data_mapFields a _)),(Obj.cls_mapFields ..).trans hc,by rw[Obj.data_mapFields a];simp[rawInt]⟩ (Heap.SameBut.update ..))⟩))
theorem tF {it l:c4}{i:Nat}{xs:Array cZ}{Q:cZ->c3->Prop}(h:A.handled=none)(g:s.heap.IsTupleIter it l i)(tl:s.heap.IsTuple l xs)(hx:xs[i]? = none)
  (j:∀h' e,Heap.ExtBut it s.heap h'->(∃o,h'.get? e=Z o/\o.cls = .type "StopIteration")->E (.ref e) {s with heap:=h'}):db (model prog w) A (Builtin.SmallTypes.nextOf (.ref it)) Q E s:=by
 obtain⟨o,c,hc,d⟩:=id g;obtain⟨k,f,_,n,b⟩:=tl;unfold Builtin.SmallTypes.nextOf;refine wB1 (wpAny_callSpecial?_slot (name:=Str.ofString "__next__") g.typeIs F.slot_tuple_iterator_next (wE1 F.slot_tuple_iterator_next g.typeIs F.entry_tuple_iterator_next ?_ (F.args_tuple_iterator_next_1 _)));show db _ _ (field (.ref it) 0 >>= _) _ _ s;refine wB1 (wpAny_field c d (x:=.ref l) O ?_);show db _ _ (if(Value.ref l == Value.none)=M then _ else _) _ _ s;rw[aj (show¬ ((Value.ref l == Value.none)=M)from aK)];show db _ _ (field (.ref it) 1 >>= _) _ _ s;refine wB1 (wpAny_field c d (x:=.int i 0) O ?_);show db _ _ (seqItems? (.ref l) >>= _) _ _ s;refine wB1 (wpAny_seqItems f b ?_);simp only[Int.toNat_natCast,hx];refine wB1 (wpAny_rule (wB1 (wpAny_setField c d (by simp) ?_)));show db _ _ (newExc (.type "StopIteration") [] >>= _) _ _ _;refine wB1 ?_;simp only[newExc,newTuple];refine wB1 (wO1 ?_ (by size_fits));refine wB1 (m:=firstArgMember _ _) (wpAny_of_eq (a:=Value.none) (by first|rfl|(simp only[firstArgMember];rfl)) ?_);refine wO1 ?_ (by size_fits);simp only[raiseNew];refine wB1 (wpAny_handled ?_)
 first|rw[show A.in1.handled=Y from h] | rw[h]
 refine wB1 (wP1 (wpAny_throw ?_));exact j _ _ (((Heap.SameBut.update ..).extBut.push _).push _) ⟨_,hS1 _ O,O⟩
theorem lX{b:Bool}{it l:c4}{i:Nat}{xs:Array cZ}{x:cZ}{Q:cZ->c3->Prop}(a:SIt b s.heap it l i)(tl:SCo b s.heap l xs)(hx:xs[i]? = Z x)(c:∀h',SIt b h' it l (i+1)->Heap.SameBut it s.heap h'->Q x {s with heap:=h'}):db (model prog w) A (Builtin.SmallTypes.nextOf (.ref it)) Q E s:=by
 cases b
 ·exact BZ a tl hx c
 ·exact wpAny_nextOf_list_item a tl hx c
theorem jG {b:Bool}{it l:c4}{i:Nat}{xs:Array cZ}{Q:cZ->c3->Prop}(a:A.handled=none)(c:SIt b s.heap it l i)(tl:SCo b s.heap l xs)(hx:xs[i]? = none)
  (d:∀h' e,Heap.ExtBut it s.heap h'->(∃o,h'.get? e=Z o/\o.cls = .type "StopIteration")->E (.ref e) {s with heap:=h'}):db (model prog w) A (Builtin.SmallTypes.nextOf (.ref it)) Q E s:=by
 cases b
 ·exact tF a c tl hx d
 ·exact wpAny_nextOf_list_end a c tl hx d
theorem CZ{b:Bool}(l:c4)(xs:Array cZ):
  Meets (Builtin.«enumerate.__new__» ⟨[.type "enumerate",.ref l],[]⟩) (λ_ R s=>SCo b s.heap l xs /\
   R (.ok (.ret (.ref (s.heap.push (fN b l)).objs.size))) {s with heap:=(s.heap.push (fN b l)).push {cls:=.type "enumerate",data:=.fields #[.none,.bool J,.ref s.heap.objs.size,rawInt 0,.none,.none]}}):=
 .of_wp λprog w A R s h=>by
  obtain⟨a,g,d,tk,k⟩:=s;obtain⟨f,h⟩:=h;have i:=sub_enumerate
  have j:SCo b (Shared.heap ⟨a,g,d,tk,k⟩) l xs:=f;obtain⟨m,el⟩:∃o,a.get? l=some o:=by cases b<;>(obtain⟨o,e,_⟩:=f;exact⟨o,e⟩)
  wp_walk using wpAny_loadPart' el
  refine wpAny_stack_any λst=>wP1 ?_;split
  ·rename_i c _ _ _ _ _;cases(c == Value.type "enumerate")<;>(wp_walk using wpAny_loadPart' el,jk j;exact⟨_,O,h⟩)
  ·wp_walk using wpAny_loadPart' el,jk j
   exact⟨_,O,h⟩
theorem zW{b:Bool}{l:c4}{xs:Array cZ}{Q:cZ->c3->Prop}(f:SCo b s.heap l xs)(h:∀h',IsEnum h' (s.heap.objs.size+1) s.heap.objs.size 0 .none->SIt b h' s.heap.objs.size l 0->h'.objs.size=s.heap.objs.size+2->(∀b o,s.heap.get? b=some o->h'.get? b=some o)->Q (.ref (s.heap.objs.size+1)) {s with heap:=h'}):
  db (model prog w) A (call (.type "enumerate") [.ref l]) Q E s:=by
 refine callType_new F.called_enumerate (by decide) (F.typeCall_enumerate_1 _) (F.newCall_enumerate_1 _) (λd=>F.args_object_init_2 d _) F.entry_enumerate_new (CZ (b:=b) l xs) ⟨f,?_⟩;have a:(s.heap.push (fN b l)).objs.size=s.heap.objs.size+1:=hZ1 ..
 show _/\_;rw[a];have e:IsEnum ((s.heap.push (fN b l)).push {cls:=.type "enumerate",data:=.fields #[.none,.bool J,.ref s.heap.objs.size,rawInt 0,.none,.none]}) (s.heap.objs.size+1) s.heap.objs.size 0 .none:=by
  have q:=hS1 (s.heap.push (fN b l)) (o:={cls:=.type "enumerate",data:=.fields #[.none,.bool J,.ref s.heap.objs.size,rawInt 0,.none,.none]}) O;rw[a]at q;exact q
 have hi:(s.heap.push (fN b l)).get? s.heap.objs.size=Z (fN b l):=hS1 _ (by cases b<;>rfl);refine⟨⟨_,e,O⟩,h _ e (sP (hP1 _ hi)) (by rw[hZ1,a]) λc o x=>hP1 _ (hP1 _ x)⟩
theorem zV {b:Bool}{e it l:c4}{i:Nat}{xs:Array cZ}{x old:cZ}{Q:Option cZ->c3->Prop}(he:IsEnum s.heap e it i old)(U:SIt b s.heap it l i)(tl:SCo b s.heap l xs)(hx:xs[i]? = some x)(n:e≠it)
  (V:∀h',IsEnumOut h' e it ((i:Int)+1) x s.heap.objs.size->SIt b h' it l (i+1)->h'.get? s.heap.objs.size=Z {cls:=.type "tuple",data:=.seq #[.int i s.toks,x]}->h'.objs.size=s.heap.objs.size+1 ->
   (∀b o,b≠e->b≠it->s.heap.get? b=Z o->h'.get? b=Z o)->Q (Z (.ref s.heap.objs.size)) {s with heap:=h',toks:=s.toks+1}):db (model prog w) A (pyNext (.ref e)) Q E s:=by
 have T:s.TypeIs (.ref e) "enumerate":=⟨_,he,O⟩;unfold pyNext;refine wB1 (wpAny_attempt (wpAny_callSpecial?_slot (name:=Str.ofString "__next__") T F.slot_enumerate_next (wE1 F.slot_enumerate_next T F.entry_enumerate_next ?_ (F.args_enumerate_next_1 _))));obtain⟨h,g,d,tk,t⟩:=s;show db _ _ (field (.ref e) 2 >>= _) _ _ _;refine wB1 (wpAny_field he O (x:=.ref it) O ?_);refine wB1 (lX U tl hx λh1 H G=>?_);replace G:Heap.SameBut it h h1:=G;have k:IsEnum h1 e it i old:=(G.2 e n).trans he;show db _ _ (field (.ref e) 3 >>= _) _ _ ⟨h1,g,d,tk,t⟩;refine wB1 (wpAny_field k O (x:=rawInt i) O ?_);show db _ _ (field (.ref e) 4 >>= _) _ _ ⟨h1,g,d,tk,t⟩;refine wB1 (wpAny_field k O (x:=.none) O ?_);show db _ _ (mkInt i >>= _) _ _ ⟨h1,g,d,tk,t⟩;refine wB1 (wpAny_mkInt ?_);show db _ _ (setField (.ref e) 3 (rawInt ((i:Int)+1)) >>= _) _ _ ⟨h1,g,d,tk+1,t⟩;refine wB1 (wS1 k (by simp) λh2 j C=>?_);replace C:Heap.SameBut e h1 h2:=C;replace j:IsEnum h2 e it ((i:Int)+1) old:=j;show db _ _ (setField (.ref e) 4 .none >>= _) _ _ ⟨h2,g,d,tk+1,t⟩;refine wB1 (wS1 j (by simp) λh3 p D=>?_);replace D:Heap.SameBut e h2 h3:=D;replace p:IsEnum h3 e it ((i:Int)+1) old:=p;show db _ _ (newTuple [.int i tk,x] >>= _) _ _ ⟨h3,g,d,tk+1,t⟩;refine wB1 (wpAny_newTuple ?_);have r:IsEnum (h3.push {cls:=.type "tuple",data:=.seq #[.int i tk,x]}) e it ((i:Int)+1) old:=hP1 _ p;generalize a:h3.push {cls:=.type "tuple",data:=.seq #[.int i tk,x]}=h4 at r;have m:h3.objs.size=h.objs.size:=by rw[D.1,C.1,G.1]
 have L:e<h.objs.size:=hL1 he;have ao:h4.get? h.objs.size=Z {cls:=.type "tuple",data:=.seq #[.int i tk,x]}:=by rw[<- a,<- m];exact hS1 _ O
 have P:h4.objs.size=h.objs.size+1:=by rw[<- a,hZ1,m]
 have S:∀b o,b≠e->b≠it->h.get? b=Z o->h4.get? b=Z o:=λb o f u R=>by
  rw[<- a];exact hP1 _ (D.extBut b o f (C.extBut b o f (G.extBut b o u R)))
 have N:SIt b h4 it l (i+1):=H.to λo q=>by rw[<- a];exact hP1 _ (D.extBut _ _ (Ne.symm n) (C.extBut _ _ (Ne.symm n) q))
 show db _ _ (Builtin.SmallTypes.ownedTupleIsFree (.ref e) >>= _) _ _ ⟨h4,g,d,tk+1,t⟩;rw[m];clear a p D j C k G H m h3 h2 h1;refine wB1 ?_;unfold Builtin.SmallTypes.ownedTupleIsFree;refine wB1 (wpAny_field r O (x:=.none) O (wP1 ?_));simp only[if_true];refine wB1 (wpAny_rule ?_);refine wB1 (wpAny_field r O (x:=old) O ?_);refine wB1 (wS1 r (by simp) λh5 B I=>?_);replace I:Heap.SameBut e h4 h5:=I;replace B:IsEnum h5 e it ((i:Int)+1) x:=B;show db _ _ (Builtin.SmallTypes.ownedTupleHandOut (.ref e) (.ref h.objs.size) >>= _) _ _ ⟨h5,g,d,tk+1,t⟩;refine wB1 ?_;unfold Builtin.SmallTypes.ownedTupleHandOut;refine wB1 (wS1 B (by simp) λh6 y am=>?_);replace am:Heap.SameBut e h5 h6:=am;replace y:IsEnumOut h6 e it ((i:Int)+1) x h.objs.size:=y;refine wS1 y (by simp) λh7 v K=>?_;replace K:Heap.SameBut e h6 h7:=K;replace v:IsEnumOut h7 e it ((i:Int)+1) x h.objs.size:=v;have au:∀c o,c≠e->h4.get? c=Z o->h7.get? c=Z o:=λc o z q=>K.extBut _ _ z (am.extBut _ _ z (I.extBut _ _ z q));refine wB1 (wpAny_letGo (wP1 ⟨_,O,wP1 (V h7 v (N.to λo q=>au _ o (Ne.symm n) q) (au _ _ (nG1 L) ao) (by rw[K.1,am.1,I.1,P]) λc o f u R=>au c o f (S c o f u R))⟩))
theorem C0{b:Bool}{e it l:c4}{i:Nat}{xs:Array cZ}{old:cZ}{Q:Option cZ->c3->Prop}(g:A.handled=Y)(he:IsEnum s.heap e it i old)(j:SIt b s.heap it l i)(tl:SCo b s.heap l xs)(hx:xs[i]? = Y)(h:∀h',Heap.ExtBut it s.heap h'->Q Y {s with heap:=h'}):db (model prog w) A (pyNext (.ref e)) Q E s:=by
 have d:s.TypeIs (.ref e) "enumerate":=⟨_,he,O⟩;unfold pyNext;refine wB1 (wpAny_attempt (wpAny_callSpecial?_slot (name:=Str.ofString "__next__") d F.slot_enumerate_next (wE1 F.slot_enumerate_next d F.entry_enumerate_next ?_ (F.args_enumerate_next_1 _))));show db _ _ (field (.ref e) 2 >>= _) _ _ _;refine wB1 (wpAny_field he O (x:=.ref it) O ?_);refine wB1 (jG g j tl hx λh' x a c=>?_);obtain⟨o,f,hc⟩:=c;refine wB1 (wpAny_isInstance (T:="StopIteration") (b:=M) ⟨o,f,hc⟩ isSubtype_stop ?_);exact wP1 (h _ a)
theorem se{e it:c4}{i:Int}{old:cZ}{Q:cZ->c3->Prop}(he:IsEnum s.heap e it i old)(h:Q (.ref e) s):db (model prog w) A (pyIter (.ref e)) Q E s:=by
 have a:s.TypeIs (.ref e) "enumerate":=⟨_,he,O⟩;refine wpAny_pyIter_slot a F.slot_enumerate_iter (wE1 F.slot_enumerate_iter a F.entry_enumerate_iter ?_ (F.args_enumerate_iter_1 _));show db _ _ (ret (.ref e)) _ _ s;exact wP1 ⟨_,O,"enumerate",_,a,F.slot_enumerate_next.lookup,h⟩
end
open PySem.AutoSeq1 (wpAny_loadPart')
structure Nm (z ti to i1 i2:c4):Prop where
 a1:ti≠z
 a2:to≠z
 a3:i1≠z
 a4:i2≠z
 a5:ti≠to
 a6:ti≠i1
 a7:ti≠i2
 a8:to≠i1
 a9:to≠i2
 a10:i1≠i2
section
variable{prog:c5}{w:c7}{A:c6}{E:cZ->c3->Prop}{s:c3}{b1 b2:Bool}
theorem SCo.ne{b:Bool}{h:df}{a c:c4}{xs:Array cZ}{o:Obj}(x:SCo b h a xs)(e:h.get? c=Z o)(n:∀ys k,o.data ≠ .seq ys k):a≠c:=by
 rintro rfl;cases b<;>(obtain⟨o',f,g,k,d⟩:=x;rw[e]at f;cases f;exact n _ _ d)
theorem SCo.ne_it{b f:Bool}{h:df}{a it l:c4}{xs:Array cZ}{i:Nat}(x:SCo b h a xs)(y:SIt f h it l i):a≠it:=by
 cases f<;>(obtain⟨o,e,c,d⟩:=y;exact x.ne e λys k z=>by rw[d]at z;cases z)
theorem Az{z g to i1 i B r:c4}{N P:Nat}{xs ys:Array cZ}{x y a b:cZ}{Q:Option cZ->c3->Prop}(D:Nm z g to i1 i)(hz:IsZip s.heap z g to .none)(hti:IsPair s.heap g (.ref i1) (.ref i))(hto:IsPair s.heap to a b)(n1:B≠to)(n2:r≠to)(h1:SIt b1 s.heap i1 B N)(h2:SIt b2 s.heap i r P)(c1:SCo b1 s.heap B xs)(c2:SCo b2 s.heap r ys)(hx:xs[N]?=some x)(hy:ys[P]?=some y)(hQ:∀h',IsZip h' z g to (rawInt s.heap.objs.size)->IsPair h' to x y->SIt b1 h' i1 B (N+1)->SIt b2 h' i r (P+1)->IsPair h' s.heap.objs.size x y->h'.objs.size=s.heap.objs.size+1 ->
   (∀c o,c≠z->c≠to->c≠i1->c≠i->s.heap.get? c=Z o->h'.get? c=Z o)->Q (Z (.ref s.heap.objs.size)) {s with heap:=h'}):db (model prog w) A (pyNext (.ref z)) Q E s:=by
 have hT:s.TypeIs (.ref z) "zip":=⟨_,hz,O⟩;have W:B≠z:=c1.ne hz λ_ _ q=>by cases q
 have l2z:r≠z:=c2.ne hz λ_ _ q=>by cases q
 have L:r≠i1:=c2.ne_it h1;unfold pyNext;refine wB1 (wpAny_attempt (wpAny_callSpecial?_slot (name:=Str.ofString "__next__") hT F.slot_zip_next (wE1 F.slot_zip_next hT F.entry_zip_next ?_ (F.args_zip_next_1 _))));show db _ _ (field (.ref z) 2 >>= _) _ _ _;refine wB1 (wpAny_field hz O (x:=.bool J) O ?_);show db _ _ (field (.ref z) 3 >>= _) _ _ _;refine wB1 (wpAny_field hz O (x:=.ref g) O ?_);refine wB1 (wpAny_seqItems hti O ?_);show db _ _ (Builtin.SmallTypes.ownedTupleIsFree (.ref z) >>= _) _ _ _;refine wB1 ?_;unfold Builtin.SmallTypes.ownedTupleIsFree;refine wB1 (wpAny_field hz O (x:=.none) O (wP1 ?_));simp only[if_true];refine wB1 (wpAny_rule ?_);refine wB1 (wpAny_field hz O (x:=.ref to) O ?_);refine wB1 (wS1 hz (by simp) λg1 m n=>?_);replace m:IsZip g1 z g to .ellipsis:=m;refine wB1 ?_;simp only[bN,List.zipIdx_nil,List.forIn_cons,List.forIn_nil];refine wB1 (wB1 (wpAny_onRaise ?_));show db _ _ (Builtin.SmallTypes.nextOf (.ref i1) >>= _) _ _ _
 refine wB1 (lX (h1.to λo q=>n.extBut _ _ D.a3 q) (c1.to λo q=>n.extBut _ _ W q) hx λg2 X u=>wP1 ?_);have j:IsPair g2 to a b:=u.extBut _ _ D.a8 (n.extBut _ _ D.a2 hto);refine wB1 (wpAny_seqItems j O ?_);refine wB1 (wpAny_updateSeq_pair j λg3 f v=>?_);replace f:IsPair g3 to x b:=f;refine wB1 (wpAny_letGo (wP1 ?_));refine wB1 (wB1 (wpAny_onRaise ?_));show db _ _ (Builtin.SmallTypes.nextOf (.ref i) >>= _) _ _ _
 refine wB1 (lX (h2.to λo q=>v.extBut _ _ D.a9.symm (u.extBut _ _ D.a10.symm (n.extBut _ _ D.a4 q))) (c2.to λo q=>v.extBut _ _ n2 (u.extBut _ _ L (n.extBut _ _ l2z q))) hy λg4 U K=>wP1 ?_);have k:IsPair g4 to x b:=K.extBut _ _ D.a9 f;refine wB1 (wpAny_seqItems k O ?_);refine wB1 (wpAny_updateSeq_pair k λd e I=>?_);replace e:IsPair d to x y:=e;refine wB1 (wpAny_letGo (wP1 (wP1 ?_)));refine wB1 (wpAny_seqItems e O ?_);refine wB1 (wpAny_newTuple ?_);have H:d.objs.size=s.heap.objs.size:=by rw[I.1,K.1,v.1,u.1,n.1]
 have ao:IsZip d z g to .ellipsis:=I.extBut _ _ D.a2.symm (K.extBut _ _ D.a4.symm (v.extBut _ _ D.a2.symm (u.extBut _ _ D.a3.symm m)));have V:∀c o,c≠z->c≠to->c≠i1->c≠i->s.heap.get? c=Z o->d.get? c=Z o:=λc o p R S q4 q=>I.extBut _ _ R (K.extBut _ _ q4 (v.extBut _ _ R (u.extBut _ _ S (n.extBut _ _ p q))));have T:SIt b1 d i1 B (N+1):=X.to λo q=>I.extBut _ _ D.a8.symm (K.extBut _ _ D.a10 (v.extBut _ _ D.a8.symm q));have h25:SIt b2 d i r (P+1):=U.to λo q=>I.extBut _ _ D.a9.symm q;have l:z<d.objs.size:=hL1 ao;show db _ _ (Builtin.SmallTypes.ownedTupleHandOut (.ref z) (.ref d.objs.size) >>= _) _ _ _;refine wB1 ?_;unfold Builtin.SmallTypes.ownedTupleHandOut;have wq:IsZip (d.push {cls:=.type "tuple",data:=.seq #[x,y]}) z g to .ellipsis:=hP1 _ ao;refine wB1 (wS1 wq (by simp) λg7 t s7=>?_);replace t:IsZip g7 z g to (rawInt d.objs.size):=t;refine wS1 t (by simp) λam h aq=>?_;replace h:IsZip am z g to (rawInt d.objs.size):=h;have au:∀c o,c≠z->d.get? c=Z o->am.get? c=Z o:=λc o p q=>aq.extBut _ _ p (s7.extBut _ _ p (hP1 _ q));have G:IsPair am d.objs.size x y:=aq.extBut _ _ (nG1 l) (s7.extBut _ _ (nG1 l) (hS1 _ O));have C:am.objs.size=d.objs.size+1:=by rw[aq.1,s7.1,hZ1]
 rw[H]at h G C;refine wP1 ⟨_,O,wP1 ?_⟩;show Q (Z (.ref d.objs.size)) _;rw[H]
 exact hQ am h (au _ _ D.a2 e) (T.to λo q=>au _ o D.a3 q) (h25.to λo q=>au _ o D.a4 q) G C λc o p R S q4 q=>au c o p (V c o p R S q4 q)
theorem Dw{z n to i1 r G B:c4}{H ao:Nat}{xs ys:Array cZ}{a b:cZ}{Q:Option cZ->c3->Prop}(R:A.handled=Y)(D:Nm z n to i1 r)(hz:IsZip s.heap z n to .none)(N:IsPair s.heap n (.ref i1) (.ref r))(au:IsPair s.heap to a b)(n1:G≠to)(n2:B≠to)(h1:SIt b1 s.heap i1 G H)(h2:SIt b2 s.heap r B ao)(c1:SCo b1 s.heap G xs)(c2:SCo b2 s.heap B ys)(u:xs[H]?=Y\/ys[ao]?=Y)(aq:∀h',(∀c o,c≠z->c≠to->c≠i1->c≠r->s.heap.get? c=Z o->h'.get? c=Z o)->Q Y {s with heap:=h'}):db (model prog w) A (pyNext (.ref z)) Q E s:=by
 have X:s.TypeIs (.ref z) "zip":=⟨_,hz,O⟩;have t:G≠z:=c1.ne hz λ_ _ q=>by cases q
 have P:B≠z:=c2.ne hz λ_ _ q=>by cases q
 have C:B≠i1:=c2.ne_it h1;unfold pyNext;refine wB1 (wpAny_attempt (wpAny_callSpecial?_slot (name:=Str.ofString "__next__") X F.slot_zip_next (wE1 F.slot_zip_next X F.entry_zip_next ?_ (F.args_zip_next_1 _))));show db _ _ (field (.ref z) 2 >>= _) _ _ _;refine wB1 (wpAny_field hz O (x:=.bool J) O ?_);show db _ _ (field (.ref z) 3 >>= _) _ _ _;refine wB1 (wpAny_field hz O (x:=.ref n) O ?_);refine wB1 (wpAny_seqItems N O ?_);show db _ _ (Builtin.SmallTypes.ownedTupleIsFree (.ref z) >>= _) _ _ _;refine wB1 ?_;unfold Builtin.SmallTypes.ownedTupleIsFree;refine wB1 (wpAny_field hz O (x:=.none) O (wP1 ?_));simp only[if_true];refine wB1 (wpAny_rule ?_);refine wB1 (wpAny_field hz O (x:=.ref to) O ?_);refine wB1 (wS1 hz (by simp) λg1 g i=>?_);replace g:IsZip g1 z n to .ellipsis:=g;refine wB1 ?_;simp only[bN,List.zipIdx_nil,List.forIn_cons,List.forIn_nil];refine wB1 (wB1 (wpAny_onRaise ?_));show db _ _ (Builtin.SmallTypes.nextOf (.ref i1) >>= _) _ _ _
 cases hx:xs[H]? with
 |none=>
  refine wB1 (jG R (h1.to λo q=>i.extBut _ _ D.a3 q) (c1.to λo q=>i.extBut _ _ t q) hx λK e j L=>?_);obtain⟨I,d,f⟩:=L;have p:IsZip K z n to .ellipsis:=j _ _ D.a3.symm g;have m:e≠z:=λq=>by subst q;rw[p]at d;cases d;simp at f
  refine wS1 p (by simp) λS _ l=>?_;refine wB1 (wpAny_isInstance (T:="StopIteration") (b:=M) ⟨I,l.extBut _ _ m d,f⟩ isSubtype_stop ?_);exact wP1 (aq S λc o v _ am _ q=>l.extBut _ _ v (j _ _ am (i.extBut _ _ v q)))
 |some x=>
  have hy:ys[ao]?=Y:=by rcases u with h|h;rw[hx]at h;cases h;exact h
  refine wB1 (lX (h1.to λo q=>i.extBut _ _ D.a3 q) (c1.to λo q=>i.extBut _ _ t q) hx λK h12 j=>wP1 ?_);have k:IsPair K to a b:=j.extBut _ _ D.a8 (i.extBut _ _ D.a2 au);refine wB1 (wpAny_seqItems k O ?_);refine wB1 (wpAny_updateSeq_pair k λS V l=>?_);refine wB1 (wpAny_letGo (wP1 ?_));refine wB1 (wB1 (wpAny_onRaise ?_));show db _ _ (Builtin.SmallTypes.nextOf (.ref r) >>= _) _ _ _
  refine wB1 (jG R (h2.to λo q=>l.extBut _ _ D.a9.symm (j.extBut _ _ D.a10.symm (i.extBut _ _ D.a4 q))) (c2.to λo q=>l.extBut _ _ n2 (j.extBut _ _ C (i.extBut _ _ P q))) hy λg4 e W L=>?_);obtain⟨I,d,f⟩:=L;have y:IsZip g4 z n to .ellipsis:=W _ _ D.a4.symm (l.extBut _ _ D.a2.symm (j.extBut _ _ D.a3.symm g));have m:e≠z:=λq=>by subst q;rw[y]at d;cases d;simp at f
  refine wS1 y (by simp) λwq _ U=>?_;refine wB1 (wpAny_isInstance (T:="StopIteration") (b:=M) ⟨I,U.extBut _ _ m d,f⟩ isSubtype_stop ?_);exact wP1 (aq wq λc o v q2 am q4 q=>U.extBut _ _ v (W _ _ q4 (l.extBut _ _ q2 (j.extBut _ _ am (i.extBut _ _ v q)))))
def zH(b1 b2:Bool)(h:df)(l1 l2:c4):df:=((((h.push (fN b1 l1)).push (fN b2 l2)).push {cls:=.type "tuple",data:=.seq #[.ref h.objs.size,.ref (h.objs.size+1)]}).push {cls:=.type "tuple",data:=.seq #[.none,.none]}).push
 {cls:=.type "zip",data:=.fields #[.none,.bool J,.bool J,.ref (h.objs.size+2),.ref (h.objs.size+3)]}
theorem Dv(a c:c4)(xs ys:Array cZ):Meets (Builtin.«zip.__new__» ⟨[.type "zip",.ref a,.ref c],[]⟩) (λ_ R s=>SCo b1 s.heap a xs/\SCo b2 s.heap c ys/\R (.ok (.ret (.ref (s.heap.objs.size+4)))) {s with heap:=zH b1 b2 s.heap a c}):=
 .of_wp λprog w A R s h=>by
  obtain⟨b,g,d,tk,e⟩:=s;obtain⟨c1,c2,h⟩:=h;have f:=sub_zip
  have i:SCo b1 (Shared.heap ⟨b,g,d,tk,e⟩) a xs:=c1;have j:SCo b2 (Shared.heap ⟨b.push (fN b1 a),g,d,tk,e⟩) c ys:=c2.to λo q=>hP1 _ q
  wp_walk using jk i,jk j
  refine⟨_,O,?_⟩;have k:(b.push (fN b1 a)).objs.size=b.objs.size+1:=hZ1 ..
  simp only[hZ1,zH]at h ⊢;exact h
theorem AA{g b:c4}{xs ys:Array cZ}{Q:cZ->c3->Prop}(c1:SCo b1 s.heap g xs)(c2:SCo b2 s.heap b ys)(h:∀h',IsZip h' (s.heap.objs.size+4) (s.heap.objs.size+2) (s.heap.objs.size+3) .none->IsPair h' (s.heap.objs.size+2) (.ref s.heap.objs.size) (.ref (s.heap.objs.size+1))->IsPair h' (s.heap.objs.size+3) .none .none ->
   SIt b1 h' s.heap.objs.size g 0->SIt b2 h' (s.heap.objs.size+1) b 0->h'.objs.size=s.heap.objs.size+5->(∀c o,s.heap.get? c=Z o->h'.get? c=Z o)->Q (.ref (s.heap.objs.size+4)) {s with heap:=h'}):
  db (model prog w) A (call (.type "zip") [.ref g,.ref b]) Q E s:=by
 refine callType_new F.called_zip (by decide) (F.typeCall_zip_2 _ _) (F.newCall_zip_2 _ _) (λi=>F.args_object_init_3 i _ _) F.entry_zip_new (Dv (b1:=b1) (b2:=b2) g b xs ys) ⟨c1,c2,?_⟩;have a:∀{h:df} {o:Obj} {c:c4} {u:Obj},h.get? c=Z u->(h.push o).get? c=Z u:=λq=>hP1 _ q;have d:∀{h:df} {o:Obj} {n:Nat},h.objs.size=n->o.isFreed=J->(h.push o).get? n=Z o:=λe f=>by rw[<- e];exact hS1 _ f
 have m:(fN b1 g).isFreed=J:=by cases b1<;>rfl
 have k:(fN b2 b).isFreed=J:=by cases b2<;>rfl
 have p:(zH b1 b2 s.heap g b).get? s.heap.objs.size=Z (fN b1 g):=a (a (a (a (d O m))));have l:(zH b1 b2 s.heap g b).get? (s.heap.objs.size+1)=Z (fN b2 b):=a (a (a (d (by simp only[hZ1]) k)));have r:IsPair (zH b1 b2 s.heap g b) (s.heap.objs.size+2) (.ref s.heap.objs.size) (.ref (s.heap.objs.size+1)):=a (a (d (by simp only[hZ1]) O));have t:IsPair (zH b1 b2 s.heap g b) (s.heap.objs.size+3) .none .none:=a (d (by simp only[hZ1]) O);have j:IsZip (zH b1 b2 s.heap g b) (s.heap.objs.size+4) (s.heap.objs.size+2) (s.heap.objs.size+3) .none:=d (by simp only[hZ1]) O;exact⟨⟨_,j,O⟩,h _ j r t (sP p) (sP l) (by simp only[zH,hZ1]) λc o q=>a (a (a (a (a q))))⟩
end
def uf(K:Fg1)(b:Bool)(H:Hp)(a:c4)(xs:List V):Prop:=match b with
 |true=>m4 K H a xs
 |false=>kS K H a xs
section
variable{ag:List (c4×Obj)}{σ:L2.St}{H:Hp}{s:c3}
theorem eQ{b:Bool}{a:c4}{xs:List V}(I:Inv X ag σ H s)(h:uf X.K b H a xs):∃c:List cZ,d4 xs c/\SCo b s.heap a c.toArray/\xs.length<=da:=by
 cases b
 ·obtain⟨c,r,p,z⟩:=I.tuple h;exact⟨c,r,p,z⟩
 ·obtain⟨c,r,p,z⟩:=I.list h;exact⟨c,r,p.isList,z⟩
theorem n9{b:Bool}{a:c4}{xs ys:List V}(I:Inv X ag σ H s)(h:uf X.K b H a xs)(h':uf X.K b H a ys):xs=ys:=by
 cases b
 ·exact I.tuple_inj h h'
 ·exact I.list_inj h h'
theorem sN{b:Bool}{a c:c4}{xs:List V}(I:Inv X ag σ H s)(h:uf X.K b H a xs)(f:k4 X ag H c):a≠c:=by
 rintro rfl;have d:∀{o},X.K.lookup a=Z o->False:=λ{o} e=>by
  have g:=I.ok.mod.kin _ _ e;rcases f.2.2.2.1 with z|z
  ·exact I.ok.noex _ _ g z
  ·exact absurd (nL1 (hL1 g) (aC I.ok.bsz z)) (az _)
 cases b
 ·rcases h with(h|⟨_,h⟩)|⟨_,_,_,h,_⟩
  ·rw[f.1]at h;cases h
  ·rw[f.1]at h;cases h
  ·exact d h
 ·rcases h with(h|⟨_,h⟩)|⟨_,_,_,h,_⟩
  ·rw[f.1]at h;cases h
  ·rw[f.1]at h;cases h
  ·exact d h
theorem vk(I:Inv X ag σ H s){fp:List c4}(hf:∀ b∈fp,k4 X ag H b){h':df}{p:c4}{xs:List V}{its:List cZ}{t':Nat}(hp:s.heap.objs.size<=p)(f:∀ b o,b∉fp->s.heap.get? b=Z o->h'.get? b=Z o)(j:IsTup h' p its.toArray)(l:d4 xs its)(hz:xs.length<=da):Inv X ag σ (upd H p (.tup xs)) {s with heap:=h',toks:=t'}:=by
 have d:H p=Y:=I.hok.fresh hp;have g:∀{b o},s.heap.get? b=Z o->b≠p:=λe=>nN1 (nL1 (hL1 e) hp);have h:∀{b u},H b=Z u->b∉fp:=λe z=>by rw[(hf _ z).1]at e;cases e
 refine I.step (g':=s.gens) (d':=s.drawn) (ch:=fp) (λb a=>⟨(hf b a).2.2.2.1,(hf b a).2.1,(hf b a).2.2.2.2.1,(hf b a).2.2.2.2.2⟩) (λb o _ _ hc e _=>f b o hc e) (λb o _ _ hc e _=>⟨o.slots,f b o hc e⟩) (λb o _ e n=>?_)
  (λb o hc e=>⟨o,f b o hc e⟩) (λb ys e=>?_) (λb o u e=>?_) (λb ps e=>⟨#[],?_⟩) (λm k=>?_) (λb u e=>?_) I.bare
 ·rw[d0 (g e)];exact n
 ·rw[d0 (ev e d)];exact e
 ·rw[d0 (ev e d)];exact e
 ·rw[d0 (ev e d),e];simp
 ·obtain⟨o,es,ep,i,r⟩:=k;exact⟨o,es,ep,f _ o (λz=>(hf _ z).2.1 O) i,r⟩
 ·by_cases a:b=p
  ·subst a;rw[d8]at e;cases e;exact⟨hz,its,l,j⟩
  ·rw[d0 a]at e;refine(I.hok b u e).stay (λc v hc q=>f c v ?_ q) (λc q=>by rw[d0 (ev q d)];exact q) λc ys q=>by rw[d0 (ev q d)];exact q
   rcases hc with z|z
   ·rw[z];exact h e
   ·exact h z
theorem pH(I:Inv X ag σ H s){fp:List c4}(hf:∀b∈fp,k4 X ag H b){h':df}{t':Nat}(a:∀b o,b∉fp->s.heap.get? b=Z o->h'.get? b=Z o):Inv X ag σ H {s with heap:=h',toks:=t'}:=by
 have f:∀{b u},H b=Z u->b∉fp:=λe z=>by rw[(hf _ z).1]at e;cases e
 refine I.step (g':=s.gens) (d':=s.drawn) (ch:=fp) (λb d=>⟨(hf b d).2.2.2.1,(hf b d).2.1,(hf b d).2.2.2.2.1,(hf b d).2.2.2.2.2⟩) (λb o _ _ hc e _=>a b o hc e) (λb o _ _ hc e _=>⟨o.slots,a b o hc e⟩) (λb o _ e n=>n)
  (λb o hc e=>⟨o,a b o hc e⟩) (λb ys e=>e) (λb o u e=>e) (λb ps e=>⟨#[],by rw[e];simp⟩) (λm h=>?_) (λb u e=>?_) I.bare
 ·obtain⟨o,es,ep,g,r⟩:=h;exact⟨o,es,ep,a _ o (λz=>(hf _ z).2.1 O) g,r⟩
 ·refine(I.hok b u e).stay (λc v hc q=>a c v ?_ q) (λc q=>q) λc ys q=>q;rcases hc with z|z
  ·rw[z];exact f e
  ·exact f z
end
theorem uu:(2:Nat)<=da:=by decide
def NX(K:Fg1)(b:Bool)(a:c4):It:=
 ⟨λi H=>∃xs x,uf K b H a xs/\xs[i]?=Z x,λi H x H'=>∃p v,H p=Y/\x = .ref p/\H'=upd H p (.tup [.int i,v]) /\ ∀xs,uf K b H a xs->xs[i]?=Z v,λi H=>∃xs,uf K b H a xs/\xs.length<=i⟩
theorem zd{P:c5}{w:c7}{K:Fg1}{elts:List Expr}{k:Nat}{pos:Pos}(b:Bool)(a e it:c4)(ne:e≠it):xy P w K (.Tuple elts k pos) (NX K b a) [e,it] e (λi h=>(∃old,IsEnum h e it (i:Nat) old)/\SIt b h it a i) where
 mem:=by simp
 obj:=by
  rintro i h ⟨⟨old,st⟩,C⟩ c hc;rcases aE.mp hc with z|z
  ·subst z;exact⟨_,st,λv q=>by cases q⟩
  ·have wq:c=it:=by simpa using z
   subst wq;exact C.rec_
 keep:=λi h h' ⟨⟨old,st⟩,C⟩ Q=>⟨⟨old,Q e (by simp) _ st⟩,C.to λo q=>Q it (by simp) o q⟩
 item:=by
  intro X L m r hc i ag s σ H E I g st D;subst L m r;obtain⟨⟨old,f⟩,j⟩:=st;obtain⟨xs,x,l,p⟩:=D;obtain⟨F,y,G,R⟩:=eQ I l;obtain⟨u,S,ru⟩:=y.get p;refine zV f j G (x:=u) (by simpa using S) ne λh1 am B t W ao=>?_;refine⟨.ref s.heap.objs.size,O,?_⟩;refine wpAny_letOwnedTupleGo_enum am λh2 A d=>?_;have au:s.heap.objs.size≠e:=nG1 (hL1 f);have n:∀c o,c∉[e,it]->s.heap.get? c=Z o->h2.get? c=Z o:=λc o hc q=>by
   have c1:c≠e:=λz=>hc (by simp[z]);have c2:c≠it:=λz=>hc (by simp[z]);exact d.extBut _ _ c1 (ao c o c1 c2 q)
  have tp:IsTup h2 s.heap.objs.size [.int (i:Nat) s.toks,u].toArray:=⟨_,d.extBut _ _ au t,O,_,O⟩;have I2:=vk I g (t':=s.toks+1) (nR1 _) n tp (xs:=[.int i,x]) (.cons ⟨_,O⟩ (.cons ru .nil)) uu;have V:H s.heap.objs.size=Y:=I.hok.fresh (nR1 _);refine⟨.ref s.heap.objs.size,_,I2,O,⟨_,x,V,O,O,λys aq=>by rw[n9 I aq l];exact p⟩,⟨⟨u,?_⟩,B.to λo q=>d.extBut _ _ (Ne.symm ne) q⟩,λc hc=>?_⟩
  ·have:((i+1:Nat):Int)=(i:Int)+1:=by push_cast;rfl
   rw[this];exact A
  ·have c1:c≠s.heap.objs.size:=fun z=>by
    rcases aE.mp hc with q|q
    ·exact au (z.symm.trans q)
    ·have T:c=it:=by simpa using q
     obtain⟨o,N,_⟩:=j.rec_;rw[<- T,z]at N;exact az _ (hL1 N)
   rw[d0 c1];exact(g c hc).1
 done:=by
  intro X L m r hc i ag s σ H E I g st D;subst L m r;obtain⟨⟨old,f⟩,j⟩:=st;obtain⟨xs,l,p⟩:=D;obtain⟨F,y,G,R⟩:=eQ I l;have hl:=y.length;refine C0 (I.ok.hd hc) f j G (by simp;lia) λh' U=>⟨O,pH I (t':=s.toks) g λc o hc q=>U c o (λz=>hc (by simp[z])) q⟩
 self:=λ_ _ _ _ _ ⟨⟨_,st⟩,_⟩ h=>se st h
def NU(K:Fg1)(b1 b2:Bool)(a1 a2:c4):It:=
 ⟨λi H=>∃xs ys x y,uf K b1 H a1 xs/\uf K b2 H a2 ys/\xs[i]?=Z x/\ys[i]?=Z y,λi H x H'=>∃p v u,H p=Y/\x = .ref p/\H'=upd H p (.tup [v,u])/\(∀xs,uf K b1 H a1 xs->xs[i]?=Z v) /\ ∀ys,uf K b2 H a2 ys->ys[i]?=Z u,
  λi H=>∃xs ys,uf K b1 H a1 xs/\uf K b2 H a2 ys/\(xs.length<=i\/ys.length<=i)⟩
theorem AN{P:c5}{w:c7}{K:Fg1}{elts:List Expr}{k:Nat}{pos:Pos}(b1 b2:Bool)(a1 a2 z A to t m:c4)(D:Nm z A to t m):xy P w K (.Tuple elts k pos) (NU K b1 b2 a1 a2) [z,A,to,t,m] z
  (λi h=>IsZip h z A to .none/\IsPair h A (.ref t) (.ref m)/\(∃u v,IsPair h to u v)/\SIt b1 h t a1 i/\SIt b2 h m a2 i) where
 mem:=by simp
 obj:=by
  rintro i h ⟨g,b,⟨u,v,d⟩,j,l⟩ c hc;simp only[aE,bO,or_false]at hc;rcases hc with rfl|rfl|rfl|rfl|rfl
  ·exact⟨_,g,λv q=>by cases q⟩
  ·exact⟨_,b,λv q=>by cases q⟩
  ·exact⟨_,d,λv q=>by cases q⟩
  ·exact j.rec_
  ·exact l.rec_
 keep:=λi h h' ⟨g,b,⟨u,v,d⟩,j,l⟩ G=>⟨G z (by simp) _ g,G A (by simp) _ b,⟨u,v,G to (by simp) _ d⟩,j.to λo q=>G t (by simp) o q,l.to λo q=>G m (by simp) o q⟩
 item:=by
  intro X W ao R hc i ag s σ H E I f st T;subst W ao R;obtain⟨g,b,⟨u0,v0,d⟩,j,l⟩:=st;obtain⟨xs,ys,x,y,B,C,ex,ey⟩:=T;obtain⟨U,S,V,hz⟩:=eQ I B;obtain⟨F,p,n,N⟩:=eQ I C;obtain⟨u,hu,ru⟩:=S.get ex;obtain⟨wq,aq,L⟩:=p.get ey;refine Az D g b d (sN I B (f to (by simp))) (sN I C (f to (by simp))) j l V n (x:=u) (y:=wq) (by simpa using hu) (by simpa using aq) λh1 p1 p2 p3 p4 p5 p6 am=>?_;refine⟨.ref s.heap.objs.size,O,?_⟩;refine wpAny_letOwnedTupleGo_zip p1 λh2 z2 a=>?_;have lt:∀c∈[z,A,to,t,m],c≠s.heap.objs.size:=λc hc e=>by
   obtain⟨o,eo⟩:∃o,s.heap.get? c=some o:=by
    simp only[aE,bO,or_false]at hc;rcases hc with rfl|rfl|rfl|rfl|rfl
    ·exact⟨_,g⟩
    ·exact⟨_,b⟩
    ·exact⟨_,d⟩
    ·obtain⟨o,e,_⟩:=j.rec_;exact⟨o,e⟩
    ·obtain⟨o,e,_⟩:=l.rec_;exact⟨o,e⟩
   rw[e]at eo;exact az _ (hL1 eo)
  have au:∀c o,c∉[z,A,to,t,m]->s.heap.get? c=Z o->h2.get? c=Z o:=λc o hc q=>by
   simp only[aE,bO,or_false,not_or]at hc;exact a.extBut _ _ hc.1 (am c o hc.1 hc.2.2.1 hc.2.2.2.1 hc.2.2.2.2 q)
  have tp:IsTup h2 s.heap.objs.size [u,wq].toArray:=⟨_,a.extBut _ _ (Ne.symm (lt z (by simp))) p5,O,_,O⟩;have I2:=vk I f (t':=s.toks) (nR1 _) au tp (xs:=[x,y]) (.cons ru (.cons L .nil)) uu;have hn:H s.heap.objs.size=Y:=I.hok.fresh (nR1 _);refine⟨.ref s.heap.objs.size,_,I2,O,⟨_,x,y,hn,O,O,λQ r=>by rw[n9 I r B];exact ex,λQ r=>by rw[n9 I r C];exact ey⟩,
   ⟨z2,a.extBut _ _ D.a1 (am _ _ D.a1 D.a5 D.a6 D.a7 b),⟨u,wq,a.extBut _ _ D.a2 p2⟩,p3.to λo q=>a.extBut _ _ D.a3 q,p4.to λo q=>a.extBut _ _ D.a4 q⟩,λc hc=>?_⟩
  rw[d0 (lt c hc)];exact(f c hc).1
 done:=by
  intro X W ao R hc i ag s σ H E I f st T;subst W ao R;obtain⟨g,b,⟨u0,v0,d⟩,j,l⟩:=st;obtain⟨xs,ys,B,C,hl⟩:=T;obtain⟨U,S,V,hz⟩:=eQ I B;obtain⟨F,p,n,N⟩:=eQ I C;have l1:=S.length;have l2:=p.length;refine Dw (I.ok.hd hc) D g b d (sN I B (f to (by simp))) (sN I C (f to (by simp))) j l V n (by simp;lia) λh' eb=>⟨O,pH I (t':=s.toks) f λc o hc q=>?_⟩;simp only[aE,bO,or_false,not_or]at hc;exact eb c o hc.1 hc.2.2.1 hc.2.2.2.1 hc.2.2.2.2 q
 self:=λ_ _ _ _ _ ⟨st,_⟩ h=>wpAny_pyIter_zip st h
section
variable{elts:List Expr}{k:Nat}{tpos:Pos}
def Li(K:Fg1)(ta:TA):TI:=fun σ H R=>ta σ H λvs H1=>∃a b,vs=[.ref a]/\(∃xs,uf K b H1 a xs)/\R (NX K b a) H1
theorem Ef {a:Expr}{ta:TA}{p pos:Pos}(hg:Gl X "enumerate")(hm:X.mg "enumerate"=Y)(ha:PA X [a] ta)(hs:autoParam (c9 [a] X.env=[(J,eval a X.env)]) cu0):PI X (.Tuple elts k tpos) (.Call (.Name "enumerate" p) [a] [] pos) (Li X.K ta):=by
 intro ag s σ H R I h;refine Call_ (j8 I hg hm boot_enumerate (PyProof.Rows.callWith_type1 (fe (ha pos ag s σ H _ I h) λD g ⟨vs,H1,f,x,n⟩=>?_) hs O));obtain⟨c,b,e,⟨xs,m⟩,q⟩:=n;subst e;cases x with
 |cons r v=>
  cases v;cases r;obtain⟨o,C,t,B⟩:=eQ f m;refine zW t λh' i A j y=>se i ?_;have w:Inv X ag σ H1 {g with heap:=h'}:=f.kept (t':=g.toks) y;refine⟨g.heap.objs.size+1,[g.heap.objs.size+1,g.heap.objs.size],_,_,H1,O,w,zd b c _ _ (Nat.succ_ne_self _),⟨⟨.none,i⟩,A⟩,λd u=>?_,q⟩;rcases aE.mp u with z|z
  ·subst z;exact f.fpOk (bc _) (f.hok.fresh (bc _))
  ·have l:d=g.heap.objs.size:=by simpa using z
   subst l;exact f.fpOk (nR1 _) (f.hok.fresh (nR1 _))
def M7(K:Fg1)(ta:TA):TI:=fun σ H R=>ta σ H λvs H1=>∃a1 b1 a2 b2,vs=[.ref a1,.ref a2]/\(∃xs,uf K b1 H1 a1 xs)/\(∃xs,uf K b2 H1 a2 xs)/\R (NU K b1 b2 a1 a2) H1
theorem Hv {a b:Expr}{ta:TA}{p pos:Pos}(hg:Gl X "zip")(hm:X.mg "zip"=none)(ha:PA X [a,b] ta)(hs:autoParam (c9 [a,b] X.env=[(false,eval a X.env),(false,eval b X.env)]) cu0)(hs2:autoParam (c9 [b] X.env=[(false,eval b X.env)]) cu0):
  PI X (.Tuple elts k tpos) (.Call (.Name "zip" p) [a,b] [] pos) (M7 X.K ta):=by
 intro ag s σ H R I h;refine Call_ (j8 I hg hm boot_zip (PyProof.Rows.callWith_type1 (fe (ha pos ag s σ H _ I h) λau c ⟨vs,H1,f,u,B⟩=>?_) (by rw[hs,hs2]) (by rw[hs2];rfl)));obtain⟨c1,b1,c2,b2,e,⟨xs,v⟩,⟨ys,A⟩,q⟩:=B;subst e;cases u with
 |cons r j=>
  cases j with
  |cons E j=>
   cases j;cases r;cases E;obtain⟨C,ao,D,K⟩:=eQ f v;obtain⟨m,w,i,o⟩:=eQ f A;refine AA D i λh' l x F y t L am=>wpAny_pyIter_zip l ?_;have G:Inv X ag σ H1 {c with heap:=h'}:=f.kept (t':=c.toks) am;refine⟨c.heap.objs.size+4,[c.heap.objs.size+4,c.heap.objs.size+2,c.heap.objs.size+3,c.heap.objs.size,c.heap.objs.size+1],_,_,H1,O,G,AN b1 b2 c1 c2 _ _ _ _ _ ?_,⟨l,x,⟨_,_,F⟩,y,t⟩,λd n=>?_,q⟩
   ·constructor<;>(intro z;have N:((_:Nat)=_):=z;lia)
   ·have g:c.heap.objs.size<=d:=by
     simp only[aE,bO,or_false]at n;rcases n with rfl|rfl|rfl|rfl|rfl
     ·exact bC _ _
     ·exact bC _ _
     ·exact bC _ _
     ·exact nR1 _
     ·exact bC _ _
    exact f.fpOk g (f.hok.fresh g)
end
noncomputable def dQ (S:dr):D->Option (Bool×List D)
 | .tup xs=>some (false,xs)
 | .rol xs=>some (true,xs)
 | .ref n=>match S[n]? with
  |some (.lst xs)=>some (true,xs)
  |_=>none
 |_=>none
def kg(S:dr):D->List (Nat×List D)
 | .ref n=>match S[n]? with
  |some (.lst xs)=>[(n,xs)]
  |_=>[]
 |_=>[]
section
variable{K:Fg1}{H:Hp}{mu:List c4}{S:dr}
theorem dJ{d:D}{v:V}{b:Bool}{xs:List D}(r:eP K H mu d v)(s:Sim K H mu S)(h:dQ S d=Z (b,xs)):∃a vs,v = .ref a/\uf K b H a vs/\dI K H mu xs vs:=by
 cases d with
 |tup ys=>cases h;cases r with|tup q t=>exact⟨_,_,rfl,q,t⟩
 |rol ys=>cases h;cases r with|rol q t=>exact⟨_,_,rfl,q.sq,t⟩
 |ref n=>
  rw[dQ]at h;split at h
  ·rename_i ys e;cases h;cases r with
   |ref q=>
    obtain⟨vs,c,f⟩:=s.lst e q;exact⟨_,vs,O,m4.of c,f⟩
  ·cases h
 |_=>cases h
theorem jl{d:D}{a:c4}{b:Bool}{xs:List D}(r:eP K H mu d (.ref a))(s:Sim K H mu S)(h:dQ S d=some (b,xs)){H1:Hp}{mu1:List c4}{S1:dr}(x:ul mu mu1 H H1)(f:Sim K H1 mu1 S1)(ok:qC S1 (kg S d)=true):
  ∃vs,uf K b H1 a vs/\dI K H1 mu1 xs vs:=by
 have c:=r.exw x;have h1:dQ S1 d=Z (b,xs):=by
  cases d with
  |ref n=>
   rw[dQ]at h;split at h
   ·rename_i ys e;cases h;rw[kg,e]at ok;dsimp only[qC]at ok;rw[bP]at ok;rw[dQ];split at ok
    ·rename_i zs g
     first|rw[g,D.sames_eq ok] | rw[D.sames_eq ok]
    ·cases ok
   ·cases h
  |_=>exact h
 obtain⟨i,vs,e,q,t⟩:=dJ c f h1;cases e;exact⟨vs,q,t⟩
end
noncomputable def eZ (m:FE):FI:=λr S=>(m r S).bind λp=>(dQ p.2 p.1).bind λq=>some (⟨q.2,kg p.2 p.1⟩,p.2)
def zX:Nat->List D->List D
 |_,[]=>[]
 |n,d::ds=>.tup [.int n,d]::zX (n+1) ds
noncomputable def Au (m:FA):FI:=λr S=>(m r S).bind λp=>match p.1 with
 |[d]=>(dQ p.2 d).bind λq=>some (⟨zX 0 q.2,kg p.2 d⟩,p.2)
 |_=>none
def um:List D->List D->List D
 |x::xs,y::ys=>.tup [x,y]::um xs ys
 |_,_=>[]
def CB(m:FA):FI:=λr S=>(m r S).bind λp=>match p.1 with
 |[d,e]=>(dQ p.2 d).bind λq=>(dQ p.2 e).bind λt=>Z (⟨um q.2 t.2,kg p.2 d++kg p.2 e⟩,p.2)
 |_=>Y
def jo(lo:Int):Nat->List D
 |0=>[]
 |n+1=>.int lo::jo (lo+1) n
noncomputable def nS (m:FA):FI:=λr S=>(m r S).bind λp=>match p.1 with
 |[.int j]=>if-(2^62)<=j/\j<2^62 then some (⟨jo 0 j.toNat,[]⟩,p.2)else none
 |_=>none
def JR(m:FA):FI:=λr S=>(m r S).bind λp=>match p.1 with
 |[.int i,.int j]=>if-(2^62)<=i/\i<2^62 /\ -(2^62)<=j/\j<2^62 then Z (⟨jo i (j-i).toNat,[]⟩,p.2)else Y
 |_=>Y
theorem ou:∀(ds:List D) (n i:Nat),(zX n ds)[i]?=(ds[i]?).map λd=>.tup [.int ((n+i:Nat):Int),d]
 |[],n,i=>by simp[zX]
 |d::ds,n,0=>by simp[zX]
 |d::ds,n,i+1=>by
  rw[zX,gC1,ou ds (n+1) i,gC1];rw[show n+1+i=n+(i+1) by lia]
theorem ot:∀(ds:List D) (n:Nat),(zX n ds).length=ds.length
 |[],_=>rfl
 |d::ds,n=>by rw[zX,lC1,ot ds,lC1]
theorem xE:∀(xs ys:List D) (i:Nat) (d:D),(um xs ys)[i]?=Z d -> ∃x y,xs[i]?=Z x/\ys[i]?=Z y/\d = .tup [x,y]
 |[],_,i,d,h=>by simp[um]at h
 |_::_,[],i,d,h=>by simp[um]at h
 |x::xs,y::ys,0,d,h=>by simp[um]at h;exact⟨x,y,O,O,h.symm⟩
 |x::xs,y::ys,i+1,d,h=>by
  rw[um,gC1]at h;obtain⟨c,b,a,e,f⟩:=xE xs ys i d h;exact⟨c,b,by simpa using a,by simpa using e,f⟩
theorem xD:∀(xs ys:List D) (i:Nat),(um xs ys).length<=i->xs.length<=i\/ys.length<=i
 |[],_,i,_=>.inl (br _)
 |_::_,[],i,_=>.inr (br _)
 |x::xs,y::ys,0,h=>by simp[um]at h
 |x::xs,y::ys,i+1,h=>by
  rcases xD xs ys i (by simpa[um]using h)with q|q
  ·exact .inl (by simpa using q)
  ·exact .inr (by simpa using q)
theorem u4:∀(n:Nat) (lo:Int) (i:Nat) (d:D),(jo lo n)[i]?=Z d->i<n/\d = .int (lo+i)
 |0,lo,i,d,h=>by simp[jo]at h
 |n+1,lo,0,d,h=>by simp[jo]at h;exact⟨Nat.succ_pos _,by rw[<- h];simp⟩
 |n+1,lo,i+1,d,h=>by
  rw[jo,gC1]at h;obtain⟨h1,h2⟩:=u4 n (lo+1) i d h;refine⟨Nat.succ_lt_succ h1,?_⟩;rw[h2,show lo+1+(i:Int)=lo+((i+1:Nat):Int) by push_cast;lia]
theorem fK:∀(n:Nat) (lo:Int),(jo lo n).length=n
 |0,_=>rfl
 |n+1,lo=>by rw[jo,lC1,fK n]
theorem ya{S:dr}:∀{c c':List (Nat×List D)},qC S (c++c')=M->qC S c=M/\qC S c'=M
 |[],_,h=>⟨O,h⟩
 |(n,xs)::c,c',h=>by
  rw[bt,qC,bA1]at h;obtain⟨h1,h2⟩:=ya h.2;exact⟨by rw[qC,bA1];exact⟨h.1,h1⟩,h2⟩
section
variable{tg:Expr}
theorem vi(K:Fg1)(lo:Int)(n:Nat)(mu:List c4)(H:Hp):Nv K (LZ lo n) ⟨jo lo n,[]⟩ mu H:=by
 intro i H1 mu1 e x s ok;refine⟨λd b=>?_,λh=>by rw[fK]at h;exact h⟩;obtain⟨h1,h2⟩:=u4 n lo i d b;refine⟨h1,λy H2 ⟨a,c⟩=>?_⟩;subst a;subst c;subst h2;exact⟨.refl _ _,s,.int _⟩
theorem Ix{e:Expr}{m:FE}(h:ME X e m):MI X tg e (eZ m):=pd (KA (Ee h) (Hw h)) <| by
 rintro σ H R ⟨r,mu,S,am,I,C,D,l,hc⟩;obtain⟨⟨d,G⟩,B,l⟩:=oB1.mp l;obtain⟨⟨b,xs⟩,o,l⟩:=oB1.mp l;cases l;cases b with
 |true=>
  left;refine⟨r,mu,S,d,_,C,D,B,λv H1 mu1 s k c=>?_⟩;obtain⟨a,vs,rfl,q,t⟩:=dJ k c o;refine⟨a,O,⟨vs,q⟩,hc _ H1 mu1 s (λi H2 w F x2 g ok=>?_) c⟩;obtain⟨ws,f,j⟩:=jl k c o x2 g ok;refine⟨λd p=>?_,λz=>⟨ws,f,by rw[<- j.length];exact z⟩⟩;obtain⟨v,n,u⟩:=j.get p;refine⟨⟨ws,v,f,n⟩,λy E ⟨x,A⟩=>?_⟩;subst x;have:=A ws f;rw[n]at this;cases this;exact⟨.refl _ _,g,u⟩
 |false=>
  right;refine⟨r,mu,S,d,_,C,D,B,λv H1 mu1 s k c=>?_⟩;obtain⟨a,vs,rfl,q,t⟩:=dJ k c o;refine⟨a,O,⟨vs,q⟩,hc _ H1 mu1 s (λi H2 w F x2 g ok=>?_) c⟩;obtain⟨ws,f,j⟩:=jl k c o x2 g ok;refine⟨λd p=>?_,λz=>⟨ws,f,by rw[<- j.length];exact z⟩⟩;obtain⟨v,n,u⟩:=j.get p;refine⟨⟨ws,v,f,n⟩,λy E ⟨x,A⟩=>?_⟩;subst x;have:=A ws f;rw[n]at this;cases this;exact⟨.refl _ _,g,u⟩
theorem o5{K:Fg1}{H:Hp}{mu:List c4}{d:D}{vs:List V}(r:dI K H mu [d] vs):∃v,vs=[v]/\eP K H mu d v:=by
 cases r with|cons r t=>cases t;exact⟨_,O,r⟩
theorem uJ{K:Fg1}{H:Hp}{mu:List c4}{d e:D}{vs:List V}(r:dI K H mu [d,e] vs):∃v u,vs=[v,u]/\eP K H mu d v/\eP K H mu e u:=by
 cases r with|cons r t=>cases t with|cons q t=>cases t;exact⟨_,_,O,r,q⟩
theorem zx {a:Expr}{m:FA}{p pos:Pos}(hg:Gl X "range")(hm:X.mg "range"=Y)(ha:MA X [a] m)(hs:autoParam (c9 [a] X.env=[(J,eval a X.env)]) cu0):MI X tg (.Call (.Name "range" p) [a] [] pos) (nS m):=
 pd (zp hg hm ha hs) <| by
  rintro σ H R ⟨r,mu,S,am,k,f,hs,hm,hc⟩;obtain⟨⟨ds,i⟩,c,hm⟩:=oB1.mp hm;dsimp only at hm;split at hm
  ·rename_i j;split at hm
   ·rename_i b;cases hm;refine⟨r,mu,S,_,_,f,hs,c,λvs H1 mu1 h d e=>?_⟩;obtain⟨v,rfl,g⟩:=o5 d;cases g;exact⟨j,O,b.1,b.2,hc _ H1 mu1 h (vi _ _ _ _ _) e⟩
   ·cases hm
  ·cases hm
theorem zw {a b:Expr}{m:FA}{p pos:Pos}(hg:Gl X "range")(hm:X.mg "range"=Y)(ha:MA X [a,b] m)(hs:autoParam (c9 [a,b] X.env=[(J,eval a X.env),(J,eval b X.env)]) cu0)(hs2:autoParam (c9 [b] X.env=[(J,eval b X.env)]) cu0):MI X tg (.Call (.Name "range" p) [a,b] [] pos) (JR m):=
 pd (zo hg hm ha hs hs2) <| by
  rintro σ H R ⟨r,mu,S,am,o,f,hs,hm,hc⟩;obtain⟨⟨ds,n⟩,c,hm⟩:=oB1.mp hm;dsimp only at hm;split at hm
  ·rename_i i j;split at hm
   ·rename_i g;cases hm;refine⟨r,mu,S,_,_,f,hs,c,λvs H1 mu1 l d e=>?_⟩;obtain⟨v,u,rfl,k,h⟩:=uJ d;cases k;cases h;exact⟨i,j,O,g,hc _ H1 mu1 l (vi _ _ _ _ _) e⟩
   ·cases hm
  ·cases hm
variable{elts:List Expr}{k:Nat}{tpos:Pos}
theorem EI {a:Expr}{m:FA}{p pos:Pos}(hg:Gl X "enumerate")(hm:X.mg "enumerate"=Y)(ha:MA X [a] m)(hs:autoParam (c9 [a] X.env=[(J,eval a X.env)]) cu0):MI X (.Tuple elts k tpos) (.Call (.Name "enumerate" p) [a] [] pos) (Au m):=
 pd (Ef hg hm ha hs) <| by
  rintro σ H R ⟨r,mu,S,am,ao,A,hs,hm,hc⟩;obtain⟨⟨ds,L⟩,w,hm⟩:=oB1.mp hm;dsimp only at hm;split at hm
  ·rename_i d;obtain⟨⟨b,xs⟩,n,hm⟩:=oB1.mp hm;cases hm;refine⟨r,mu,S,_,_,A,hs,w,λvs H1 mu1 z x f=>?_⟩;obtain⟨v,rfl,o⟩:=o5 x;obtain⟨a,vs,rfl,q,t⟩:=dJ o f n;refine⟨a,b,O,⟨vs,q⟩,hc _ H1 mu1 z (λi H2 D K x2 j ok=>?_) f⟩;obtain⟨ws,g,l⟩:=jl o f n x2 j ok;refine⟨λd c=>?_,λs=>⟨ws,g,by rw[ot]at s;rw[<- l.length];exact s⟩⟩;rw[ou]at c;obtain⟨N,B,c⟩:=oM1.mp c;obtain⟨v,u,h⟩:=l.get B;refine⟨⟨ws,v,g,u⟩,λy G ⟨p,I,e,E,F,C⟩=>?_⟩;have:=C ws g;rw[u]at this;cases this;subst E;subst F;subst c;rw[bQ];exact⟨Ext.fresh e,j.fresh e,.tup (kS.of d8) (.cons (.int _) (.cons (h.ext (Ext.fresh e)) .nil))⟩
  ·cases hm
theorem Iw {a b:Expr}{m:FA}{p pos:Pos}(hg:Gl X "zip")(hm:X.mg "zip"=Y)(ha:MA X [a,b] m)(hs:autoParam (c9 [a,b] X.env=[(J,eval a X.env),(J,eval b X.env)]) cu0)(hs2:autoParam (c9 [b] X.env=[(J,eval b X.env)]) cu0):MI X (.Tuple elts k tpos) (.Call (.Name "zip" p) [a,b] [] pos) (CB m):=
 pd (Hv hg hm ha hs hs2) <| by
  rintro σ H R ⟨r,mu,S,am,S',Q,hs,hm,hc⟩;obtain⟨⟨ds,S1⟩,L,hm⟩:=oB1.mp hm;dsimp only at hm;split at hm
  ·rename_i d e;obtain⟨⟨b1,xs⟩,B,hm⟩:=oB1.mp hm;obtain⟨⟨b2,ys⟩,K,hm⟩:=oB1.mp hm;cases hm;refine⟨r,mu,S,_,_,Q,hs,L,λvs H1 mu1 au N f=>?_⟩;obtain⟨v,u,rfl,C,F⟩:=uJ N;obtain⟨a1,n,rfl,W,t1⟩:=dJ C f B;obtain⟨a2,l,rfl,q2,t2⟩:=dJ F f K;refine⟨a1,b1,a2,b2,O,⟨n,W⟩,⟨l,q2⟩,hc _ H1 mu1 au (λi H2 U S2 x2 h ok=>?_) f⟩;obtain⟨w,q⟩:=ya ok;obtain⟨ws,j,I⟩:=jl C f B x2 h w;obtain⟨c,s,D⟩:=jl F f K x2 h q;refine⟨λd ao=>?_,λaq=>⟨ws,c,j,s,?_⟩⟩
   ·obtain⟨x',y',ex,P,rfl⟩:=xE xs ys i d ao;obtain⟨v,E,t⟩:=I.get ex;obtain⟨u,G,o⟩:=D.get P;refine⟨⟨ws,c,v,u,j,s,E,G⟩,λy H3 ⟨p,v',u',g,V,wq,T,z4⟩=>?_⟩;have x:=T ws j;have A:=z4 c s;rw[E]at x;cases x;rw[G]at A;cases A;subst V;subst wq;exact⟨Ext.fresh g,h.fresh g,.tup (kS.of d8) (.cons (t.ext (Ext.fresh g)) (.cons (o.ext (Ext.fresh g)) .nil))⟩
   ·rcases xD xs ys i aq with z|z
    ·exact .inl (by rw[<- I.length];exact z)
    ·exact .inr (by rw[<- D.length];exact z)
  ·cases hm
end
abbrev G1:=D->dr->Option (D×dr)
abbrev G2:=D->D->dr->Option (D×dr)
abbrev G3:=D->D->D->dr->Option (D×dr)
noncomputable def b1 (f:G1):FN:=λds S=>match ds with
 |[a]=>f a S
 |_=>none
noncomputable def b2 (f:G2):FN:=λds S=>match ds with
 |[a,b]=>f a b S
 |_=>none
noncomputable def b3 (f:G3):FN:=λds S=>match ds with
 |[a,b,c]=>f a b c S
 |_=>none
section
variable{K:Fg1}{H:Hp}{Q:VK}
theorem qu{f:G2}{x y:V}(h:rN K (b2 f) [x,y] H Q):∃mu S d e r a,eP K H mu d x/\eP K H mu e y/\Sim K H mu S/\f d e S=Z (r,a)/\uh K mu H r a Q:=by
 obtain⟨mu,S,ds,r,a,c,g,b,hc⟩:=h;cases c with
 |cons q t=>cases t with
  |cons i t=>cases t;exact⟨mu,S,_,_,r,a,q,i,g,b,hc⟩
theorem zl{f:G1}{xs:List V}(h:rN K (b1 f) xs H Q):∃x mu S d r a,xs=[x]/\eP K H mu d x/\Sim K H mu S/\f d S=Z (r,a)/\uh K mu H r a Q:=by
 obtain⟨mu,S,ds,r,a,c,e,b,hc⟩:=h;cases c with
 |nil=>cases b
 |cons q t=>cases t with
  |nil=>exact⟨_,mu,S,_,r,a,O,q,e,b,hc⟩
  |cons g t=>cases b
theorem Bf{f:G2}{xs:List V}(h:rN K (b2 f) xs H Q):∃x y mu S d e r b,xs=[x,y]/\eP K H mu d x/\eP K H mu e y/\Sim K H mu S/\f d e S=Z (r,b)/\uh K mu H r b Q:=by
 obtain⟨mu,S,ds,r,b,c,g,a,hc⟩:=h;cases c with
 |nil=>cases a
 |cons q t=>cases t with
  |nil=>cases a
  |cons i t=>cases t with
   |nil=>exact⟨_,_,mu,S,_,_,r,b,O,q,i,g,a,hc⟩
   |cons j t=>cases a
theorem uh.now{mu:List c4}{S:dr}{d:D}{v:V}(c:uh K mu H d S Q)(r:eP K H mu d v)(s:Sim K H mu S):Q v H:=c v H mu (.refl _ _) r s
end
def eR(i j:Int):Bool:=(decide (-(2^64)<i)&&decide (i<2^64))||(decide (-(2^64)<j)&&decide (j<2^64))||(decide (i.natAbs<2^1000)&&decide (j.natAbs<2^1000))
def eD:G2:=λd e S=>match d,e with
 | .int i,.int j=>Z (.int (i+j),S)
 | .tup xs,.tup ys=>if xs.length+ys.length<=da then Z (.tup (xs++ys),S)else Y
 | .str x,.str y=>if x.length+y.length<=da then Z (.str (x++y),S)else Y
 | .ref a,.ref b=>match S[a]?,S[b]? with
  |some (.lst xs),Z (.lst ys)=>if xs.length+ys.length<=da then Z (.ref S.length,S++[.lst (xs++ys)])else Y
  |_,_=>Y
 |_,_=>Y
def gSub:G2:=λd e S=>match d,e with
 | .int i,.int j=>Z (.int (i-j),S)
 |_,_=>Y
def kf:G2:=λd e S=>match d,e with
 | .int i,.int j=>if eR i j=M then Z (.int (i*j),S)else Y
 |_,_=>Y
def l9:G2:=λd e S=>match d,e with
 | .int i,.int j=>if 0<j then Z (.int (i%j),S)else Y
 |_,_=>Y
def vq:G2:=λd e S=>match d,e with
 | .int i,.int j=>if 0<j/\j<1073741824 then Z (.int (i/j),S)else Y
 |_,_=>Y
def w5:G2:=λd e S=>match d,e with
 | .int i,.int j=>if 0<=j/\j<=1000000/\i.natAbs<2^64 then Z (.int (i^j.toNat),S)else Y
 |_,_=>Y
def mR:G1:=λd S=>match d with
 | .int i=>Z (.int (-i),S)
 |_=>Y
theorem wQ{i j:Int}(h:eR i j=M):IntMulOk i j:=by
 unfold eR at h;simp only[bR,bA1,al]at h;rcases h with(⟨h1,h2⟩|⟨h1,h2⟩)|⟨h1,h2⟩
 ·exact .of_left (intBits_le_64 h1 h2)
 ·exact .of_right (intBits_le_64 h1 h2)
 ·exact .of_bits (aC (intBits_le h1) (by decide)) (aC (intBits_le h2) (by decide))
theorem jF{f:cZ->cZ->Sem cZ}{g:G2}{c:Int->Int->Prop}{v:Int->Int->D}(hg:∀ d e S r a,g d e S=Z (r,a) -> ∃ i j,d = .int i/\e = .int j/\c i j/\r=v i j/\a=S){b:Int->Int->V}(hv:∀i j K H mu,eP K H mu (v i j) (b i j))(ho:fP X f (rI c b)):fP X f (r2 X.K (b2 g)):=by
 intro ag s σ H x y u w Q I k n h;obtain⟨mu,S,d,e,r,a,p,r2,o,m,hc⟩:=qu h;obtain⟨i,j,rfl,rfl,l,rfl,rfl⟩:=hg d e S r a m;cases p;cases r2;exact ho ag s σ H _ _ u w Q I k n ⟨i,j,O,O,l,hc.now (hv i j _ _ _) o⟩
theorem j2{f:cZ->cZ->Sem cZ}{g:G2}{v:Int->Int->D}(hg:∀ d e S r a,g d e S=Z (r,a) -> ∃ i j,d = .int i/\e = .int j/\r=v i j/\a=S){b:Int->Int->V}(hv:∀i j K H mu,eP K H mu (v i j) (b i j))(ho:fP X f (Ds b)):fP X f (r2 X.K (b2 g)):=by
 intro ag s σ H x y u w Q I c l h;obtain⟨mu,S,d,e,r,a,n,r2,m,k,hc⟩:=qu h;obtain⟨i,j,rfl,rfl,rfl,rfl⟩:=hg d e S r a k;cases n;cases r2;exact ho ag s σ H _ _ u w Q I c l ⟨i,j,O,O,hc.now (hv i j _ _ _) m⟩
theorem nr:fP X (binaryOp .Sub) (r2 X.K (b2 gSub)):=j2 (v:=λi j=>.int (i-j)) (λd e S r a h=>by
 unfold gSub at h;split at h
 ·cases h;exact⟨_,_,O,O,O,O⟩
 ·cases h) (λ_ _ _ _ _=>.int _) HL
theorem lf:fP X (binaryOp .Mult) (r2 X.K (b2 kf)):=jF (c:=λi j=>IntMulOk i j) (v:=λi j=>.int (i*j)) (λd e S r a h=>by
 unfold kf at h;split at h
 ·split at h
  ·rename_i q;cases h;exact⟨_,_,O,O,wQ q,O,O⟩
  ·cases h
 ·cases h) (λ_ _ _ _ _=>.int _) (opI λ_ _ _ _ _ _ _ hc q=>mul_int q hc)
theorem nt:fP X (binaryOp .Mod) (r2 X.K (b2 l9)):=jF (c:=λ_ j=>0<j) (v:=λi j=>.int (i%j)) (λd e S r a h=>by
 unfold l9 at h;split at h
 ·split at h
  ·rename_i q;cases h;exact⟨_,_,O,O,q,O,O⟩
  ·cases h
 ·cases h) (λ_ _ _ _ _=>.int _) HR
theorem Gr:fP X (binaryOp .FloorDiv) (r2 X.K (b2 vq)):=jF (c:=L1) (v:=λi j=>.int (i/j)) (λd e S r a h=>by
 unfold vq at h;split at h
 ·split at h
  ·rename_i q;cases h;exact⟨_,_,O,O,q,O,O⟩
  ·cases h
 ·cases h) (λ_ _ _ _ _=>.int _) Ep
theorem BQ:fP X (binaryOp .Pow) (r2 X.K (b2 w5)):=jF (c:=F9) (v:=λi j=>.int (i^j.toNat)) (λd e S r a h=>by
 unfold w5 at h;split at h
 ·split at h
  ·rename_i q;cases h;exact⟨_,_,O,O,q,O,O⟩
  ·cases h
 ·cases h) (λ_ _ _ _ _=>.int _) HQ
theorem px:JT X (unaryOp .USub) (λx H Q=>rN X.K (b1 mR) [x] H Q):=by
 intro ag s σ H x v Q I b h;obtain⟨g,mu,S,d,r,j,e,f,c,a,hc⟩:=zl h;cases e;cases d with
 |int i=>cases a;cases f;exact GQ ag s σ H _ v Q I b ⟨i,O,hc.now (.int _) c⟩
 |_=>cases a
theorem Ad{s:c3}{prog:c5}{w:c7}{A:c6}{E:cZ->c3->Prop}{t b:c4}{ws:List cZ}{Q:cZ->c3->Prop}(ht:IsTup s.heap t ([]:List cZ).toArray)(hb:IsTup s.heap b ws.toArray)(h:Q (.ref b) s):
  db (model prog w) A (binaryOp .Add (.ref t) (.ref b)) Q E s:=by
 obtain⟨⟨o,m,l,p⟩,j,hc,n,k⟩:=id ht;obtain⟨⟨i,e,g,f⟩,c,d,q,a⟩:=id hb;simp only at hc k d a;subst hc k d a;exact concat_meets ⟨_,j,O⟩ ⟨_,c,O⟩ noFill_tuple_add seq_tuple_add PySem.F.slot_tuple_add PySem.F.entry_tuple_add (PySem.F.args_tuple_add_2 _ _) (tuple_addW0 t b ([]:List cZ).toArray ws.toArray n q m e p f (by simp)) ⟨j,c,h⟩
theorem ek:fP X (binaryOp .Add) (r2 X.K (b2 eD)):=by
 intro ag s σ H x y u w Q I o t h;obtain⟨mu,S,d,e,r,R,v,r2,g,c,hc⟩:=qu h;unfold eD at c;split at c
 ·cases c;cases v;cases r2;exact HX ag s σ H _ _ u w Q I o t ⟨_,_,O,O,hc.now (.int _) g⟩
 ·rename_i xs ys;split at c
  ·rename_i q;cases c;cases v with
   |tup A m=>
    cases r2 with
    |tup C k=>
     rename_i f a1 l a2;by_cases E:f=[]
     ·subst E;have:xs=[]:=by cases m;rfl
      subst this;cases o;cases t;obtain⟨B,N,P,_⟩:=I.tuple A;obtain⟨D,K,p2,_⟩:=I.tuple C;have:B=[]:=N.nil_iff.mpr O;subst this;exact Ad P p2 ⟨.ref a2,H,I,O,hc.now (.tup C k) g⟩
     ·refine Er ag s σ H _ _ u w Q I o t ⟨a1,a2,f,l,O,O,A,C,E,by rw[<- m.length,<- k.length];exact q,λz=>?_,λz p n=>?_⟩
      ·subst z;have:ys=[]:=by cases k;rfl
       subst this;rw[aN]at hc;exact hc.now (.tup A m) g
      ·exact hc _ _ mu (Ext.fresh n) (.tup (kS.of d8) ((m.append k).ext (Ext.fresh n))) (g.fresh n)
  ·cases c
 ·rename_i i j;split at c
  ·rename_i q;cases c;cases v;cases r2;exact wI ag s σ H _ _ u w Q I o t ⟨i,j,O,O,q,hc.now (.str _) g⟩
  ·cases c
 ·rename_i a b;split at c
  ·rename_i xs ys L G;split at c
   ·rename_i q;cases c;cases v with
    |ref au=>
     cases r2 with
     |ref am=>
      obtain⟨f,F,m⟩:=g.lst L au;obtain⟨l,ao,k⟩:=g.lst G am;refine HV ag s σ H _ _ u w Q I o t ⟨_,_,f,l,O,O,F,ao,by rw[<- m.length,<- k.length];exact q,λp n=>?_⟩;exact hc _ _ (mu++[p]) (Ext.new_ n) (.ref (gh g.len p)) (g.newL (m.append k) n)
   ·cases c
  ·cases c
 ·cases c
def gU(p:Int->Int->Bool):G2:=λd e S=>match d,e with
 | .int i,.int j=>Z (.bl (p i j),S)
 |_,_=>Y
theorem tO{p:Int->Int->Bool}(d e:D)(S:dr)(r:D)(S':dr)(h:gU p d e S=Z (r,S')):∃i j,d = .int i/\e = .int j/\r = .bl (p i j)/\S'=S:=by
 unfold gU at h;split at h
 ·cases h;exact⟨_,_,O,O,O,O⟩
 ·cases h
theorem Ib:fP X (compareOp .LtE) (r2 X.K (b2 (gU λi j=>decide (i<=j)))):=j2 tO (λ_ _ _ _ _=>.bl _) KH
theorem BV:fP X (compareOp .Gt) (r2 X.K (b2 (gU λi j=>decide (j<i)))):=j2 tO (λ_ _ _ _ _=>.bl _) KI
theorem Ic:fP X (compareOp .GtE) (r2 X.K (b2 (gU λi j=>decide (j<=i)))):=j2 tO (λ_ _ _ _ _=>.bl _) KJ
def me:D->Bool
 | .non=>M
 | .bl _=>M
 | .int _=>M
 | .str _=>M
 |_=>J
noncomputable def Mh:D->D->Option Bool
 | .non,.non=>some true
 | .bl a,.bl b=>some (a == b)
 | .bl a,.int b=>some ((if a then 1 else 0) == b)
 | .int a,.bl b=>some (a == (if b then 1 else 0))
 | .int a,.int b=>some (a == b)
 | .str a,.str b=>some (a == b)
 |d,e=>if me d&&me e then some false else none
def vY(f:D->D->Option Bool):List D->List D->Option Bool
 |x::xs,y::ys=>(f x y).bind λb=>(vY f xs ys).map λc=>b&&c
 |[],[]=>Z M
 |_,_=>Z J
def lE(S:dr):Nat->D->D->Option Bool
 |0,_,_=>Y
 |n+1,d,e=>match dQ S d,dQ S e with
  |some p,Z q=>if p.1=q.1 then(if p.1=M/\p.2.length≠q.2.length then Z J else vY (lE S n) p.2 q.2)else Z J
  |some _,Y=>if me e=M then Z J else Y
  |none,Z _=>if me d=M then Z J else Y
  |none,Y=>Mh d e
section
variable{ag:List (c4×Obj)}{σ:L2.St}{H:Hp}{s:c3}{mu:List c4}{S:dr}
theorem fO{K:Fg1}{d:D}{v:V}(r:eP K H mu d v)(h:me d=M):ll v=M /\ ∀e w,eP K H mu e w->me e=M->Mh d e=Z (vX v w):=by
 cases d with
 |non=>cases r;refine⟨O,λe w q f=>?_⟩;cases e with
  |non=>cases q;rfl
  |bl _=>cases q;rfl
  |int _=>cases q;rfl
  |str _=>cases q;rfl
  |_=>cases f
 |bl b=>cases r;refine⟨O,λe w q f=>?_⟩;cases e with
  |non=>cases q;rfl
  |bl _=>cases q;rfl
  |int _=>cases q;rfl
  |str _=>cases q;rfl
  |_=>cases f
 |int i=>cases r;refine⟨O,λe w q f=>?_⟩;cases e with
  |non=>cases q;rfl
  |bl _=>cases q;rfl
  |int _=>cases q;rfl
  |str _=>cases q;rfl
  |_=>cases f
 |str x=>cases r;refine⟨O,λe w q f=>?_⟩;cases e with
  |non=>cases q;rfl
  |bl _=>cases q;rfl
  |int _=>cases q;rfl
  |str _=>cases q;rfl
  |_=>cases f
 |_=>cases h
theorem pV{d e:D}{b:Bool}(h:Mh d e=Z b):me d=M/\me e=M:=by
 cases d<;>cases e<;>first|exact⟨rfl,rfl⟩|(cases h;done)|exact nomatch h|(simp[Mh,me]at h)
theorem CW{v:V}(h:ll v=M):vX v v=M:=by
 cases v<;>first|rfl|(cases h;done)|exact beq_self_eq_true _|(simp[vX];done)
theorem vz(I:Inv X ag σ H s)(hs:Sim X.K H mu S):∀(n:Nat) {d e:D} {v:V} {b:Bool},eP X.K H mu d v->eP X.K H mu e v->lE S n d e=Z b->b=M
 |0,_,_,_,_,_,_,h=>by cases h
 |n + 1,d,e,v,b,z,k,h=>by
  rw[lE]at h;have g:∀{xs ys:List D} {vs:List V} {b:Bool},dI X.K H mu xs vs->dI X.K H mu ys vs->vY (lE S n) xs ys=Z b->b=M:=by
   intro xs
   induction xs with
   |nil=>intro ys vs b u w h;cases u;cases w;cases h;rfl
   |cons x xs ih=>
    intro ys vs b u w h;cases u with
    |cons r t=>
     cases w with
     |cons au Q=>
      rw[vY]at h;obtain⟨b1,i,h⟩:=oB1.mp h;obtain⟨b2,c,h⟩:=oM1.mp h;subst h;rw[vz I hs n r au i,ih t Q c];rfl
  cases hd:dQ S d with
  |some p=>
   obtain⟨C,xs⟩:=p;obtain⟨a,vs,rfl,q,t⟩:=dJ z hs hd;cases he:dQ S e with
   |some p2=>
    obtain⟨qb,ys⟩:=p2;obtain⟨a2,m,c,y,l⟩:=dJ k hs he;cases c;rw[hd,he]at h;dsimp only at h;obtain⟨ao,R,B,_⟩:=eQ I q;obtain⟨A,F,j,_⟩:=eQ I y;have N:C=qb:=by
     cases C<;>cases qb
     ·rfl
     ·obtain⟨o,i,c1,_⟩:=B;obtain⟨am,c,c2,_⟩:=j;rw[i]at c;cases c;rw[c1]at c2;exact absurd c2 (by decide)
     ·obtain⟨o,i,c1,_⟩:=B;obtain⟨am,c,c2,_⟩:=j;rw[i]at c;cases c;rw[c1]at c2;exact absurd c2 (by decide)
     ·rfl
    subst N;have P:=n9 I q y;subst P;rw[ak O,aj (by rw[t.length,l.length];simp)]at h;exact g t l h
   |none=>
    rw[hd,he]at h;dsimp only at h;split at h
    ·rename_i f;have:=(fO k f).1;cases this
    ·cases h
  |none=>
   cases he:dQ S e with
   |some p2=>
    obtain⟨qb,ys⟩:=p2;obtain⟨a2,m,c,y,l⟩:=dJ k hs he;subst c;rw[hd,he]at h;dsimp only at h;split at h
    ·rename_i f;have:=(fO z f).1;cases this
    ·cases h
   |none=>
    rw[hd,he]at h;dsimp only at h;obtain⟨G,L⟩:=pV h;obtain⟨K,E⟩:=fO z G;rw[E e v k L]at h;cases h;exact CW K
theorem ft{A:c6}{b:Bool}{a:c4}{its:Array cZ}{v:V}{u:cZ}(c:SCo b s.heap a its)(r:dS v u)(f:ll v=true)(d:A.units<cLine):
   SeqAt.EqAt A s (.ref a) u J/\SeqAt.EqAt A s u (.ref a) J/\SeqAt.RcAt A s (.ref a) u J/\SeqAt.RcAt A s u (.ref a) J:=by
 cases v with
 | non => cases r;cases b
          · exact⟨.tuple_none c d,.none_tuple c d,.tuple_none c d,.none_tuple c d⟩
          · exact⟨.list_none c d,.none_list c d,.list_none c d,.none_list c d⟩
 | bl k => cases r;cases b
           · exact⟨.tuple_bool k c d,.bool_tuple k c d,.tuple_bool k c d,.bool_tuple k c d⟩
           · exact⟨.list_bool k c d,.bool_list k c d,.list_bool k c d,.bool_list k c d⟩
 | int i => obtain ⟨t,rfl⟩:=r;cases b
            · exact⟨.tuple_int i t c d,.int_tuple i t c d,.tuple_int i t c d,.int_tuple i t c d⟩
            · exact⟨.list_int i t c d,.int_list i t c d,.list_int i t c d,.int_list i t c d⟩
 | str x => obtain ⟨t,rfl⟩:=r;cases b
            · exact⟨.tuple_str x t c d,.str_tuple x t c d,.tuple_str x t c d,.str_tuple x t c d⟩
            · exact⟨.list_str x t c d,.str_list x t c d,.list_str x t c d,.str_list x t c d⟩
 |_=>cases f
theorem DY{A:c6}{x y:V}{u w:cZ}(c:dS x u)(a:dS y w)(h:ll x=M)(d:ll y=M):SeqAt.RcAt A s u w (vX x y):=by
 cases x with
 |non=>cases c;cases y with
  |non=>cases a;exact .none_none
  |bl k=>cases a;exact .none_bool k
  |int i=>obtain⟨t,rfl⟩:=a;exact .none_int i t
  |str z=>obtain⟨t,rfl⟩:=a;exact .none_str z t
  |_=>cases d
 |bl g=>cases c;cases y with
  |non=>cases a;exact .bool_none g
  |bl k=>cases a;exact .bool_bool g k
  |int i=>obtain⟨t,rfl⟩:=a;exact .bool_int g i t
  |str z=>obtain⟨t,rfl⟩:=a;exact .bool_str g z t
  |_=>cases d
 |int f=>obtain⟨b,rfl⟩:=c;cases y with
  |non=>cases a;exact .int_none f b
  |bl k=>cases a;exact .int_bool f b k
  |int i=>obtain⟨t,rfl⟩:=a;exact .int_int f b i t
  |str z=>obtain⟨t,rfl⟩:=a;exact .int_str f b z t
  |_=>cases d
 |str e=>obtain⟨b,rfl⟩:=c;cases y with
  |non=>cases a;exact .str_none e b
  |bl k=>cases a;exact .str_bool e b k
  |int i=>obtain⟨t,rfl⟩:=a;exact .str_int e b i t
  |str z=>obtain⟨t,rfl⟩:=a;exact .str_str e b z t
  |_=>cases d
 |_=>cases h
theorem xc(f:D->D->Option Bool):∀{xs ys:List D} {b:Bool},vY f xs ys=Z b -> ∃e:Nat->Bool,(∀j x y,xs[j]?=Z x->ys[j]?=Z y->f x y=Z (e j))/\b=((af (min xs.length ys.length)).all e&&xs.length == ys.length)
 |[],[],b,h=>by cases h;exact⟨λ_=>M,λj x y h=>by simp at h,O⟩
 |[],y::ys,b,h=>by cases h;exact⟨λ_=>M,λj x y h=>by simp at h,by simp⟩
 |x::xs,[],b,h=>by cases h;exact⟨λ_=>M,λj x y h h'=>by simp at h',by simp⟩
 |x::xs,y::ys,b,h=>by
  rw[vY]at h;obtain⟨b1,d,h⟩:=oB1.mp h;obtain⟨b2,m,h⟩:=oM1.mp h;obtain⟨e,k,l⟩:=xc f m;refine⟨λj=>match j with|0=>b1|j+1=>e j,λj i g c a=>?_,?_⟩
  ·cases j with
   |zero=>simp at c a;subst c;subst a;exact d
   |succ j=>exact k j i g (by simpa using c) (by simpa using a)
  ·rw[<- h,l,lC1,lC1,Nat.succ_min_succ,List.range_succ_eq_map,bS,List.all_map];have:((xs.length+1 == ys.length+1):Bool)=(xs.length == ys.length):=by simp
   rw[this,Bool.and_assoc];rfl
theorem pU(I:Inv X ag σ H s)(hs:Sim X.K H mu S):∀(n:Nat) {A:c6} {d e:D} {v w:V} {u z:cZ} {b:Bool},A.units+n<cLine->eP X.K H mu d v->eP X.K H mu e w->dS v u->dS w z->lE S n d e=Z b->SeqAt.EqAt A s u z b/\SeqAt.RcAt A s u z b
 |0,_,_,_,_,_,_,_,_,_,_,_,_,_,h=>by cases h
 |n + 1,A,d,e,v,w,u,z,b,hu,R,r,Q,am,h=>by
  have i:A.units<cLine:=by lia
  have h0:=h;rw[lE]at h;cases hd:dQ S d with
  |some p=>
   obtain⟨pb,xs⟩:=p;obtain⟨a,vs,rfl,q,t⟩:=dJ R hs hd;obtain⟨k,au,o,_⟩:=eQ I q;cases Q;cases he:dQ S e with
   |some p2=>
    obtain⟨qb,ys⟩:=p2;obtain⟨a2,C,rfl,wq,N⟩:=dJ r hs he;obtain⟨c,m,g,_⟩:=eQ I wq;cases am;rw[hd,he]at h;dsimp only at h;have l:SeqAt.RcAt A s (.ref a) (.ref a2) b->SeqAt.EqAt A s (.ref a) (.ref a2) b/\SeqAt.RcAt A s (.ref a) (.ref a2) b:=λrc=>by
     refine⟨?_,rc⟩;by_cases ha:a=a2
     ·subst ha;rw[vz I hs (n+1) R r h0];exact .same _
     ·exact .of_refs ha rc
    split at h
    ·rename_i P;have W:pb=qb:=P;subst W;split at h
     ·rename_i aq;cases h;obtain⟨h1,h2⟩:=aq;subst h1;refine l (.lists_lengths o g ?_ i);have l1:=t.length;have l2:=N.length;have l3:=au.length;have l4:=m.length
      simp only[sT1,bne_iff_ne,ne_eq];lia
     ·rename_i aq;obtain ⟨f,hf,E⟩:=xc _ h;have elts:∀ j (h1:j<k.toArray.size) (h2:j<c.toArray.size),SeqAt.EqAt A.in1 s k.toArray[j] c.toArray[j] (f j):=fun j h1 h2=>by
       have L:j<k.length:=by simpa using h1
       have G:j<c.length:=by simpa using h2
       have k1:j<vs.length:=by rw[au.length];exact L
       have k2:j<C.length:=by rw[m.length];exact G
       obtain⟨x,ex,rx⟩:=t.getV (gG1 k1);obtain⟨y,ey,ry⟩:=N.getV (gG1 k2);obtain⟨u1,K,ru1⟩:=au.get (gG1 k1);obtain⟨u2,ao,T⟩:=m.get (gG1 k2);have B:k.toArray[j]=u1:=by
        rw[gG1 L]at K;simpa using K
       have U:c.toArray[j]=u2:=by
        rw[gG1 G]at ao;simpa using ao
       rw[B,U];exact(pU I hs n (A:=A.in1) (by show A.units+1+n<cLine;lia) rx ry ru1 T (hf j x y ex ey)).1
      have l1:=t.length;have l2:=N.length;have l3:=au.length;have l4:=m.length
      cases pb with
      |false=>
       refine l ?_;have:=SeqAt.RcAt.tuples o g i elts;rw[E];have B:k.toArray.size=xs.length:=by simp;lia
       have U:c.toArray.size=ys.length:=by simp;lia
       rw[B,U]at this;exact this
      |true=>
       refine l ?_;have F:xs.length=ys.length:=by
        by_cases z:xs.length=ys.length
        ·exact z
        ·exact absurd ⟨O,z⟩ aq
       have:=SeqAt.RcAt.lists o g (by simp;lia) i elts;rw[E];have B:k.toArray.size=xs.length:=by simp;lia
       rw[B]at this;rw[F,Nat.min_self,beq_self_eq_true,bP,<- F];exact this
    ·rename_i P;cases h;cases pb with
     |true=>
      cases qb with
      |true=>exact absurd O P
      |false=>exact⟨.list_tuple o g i,.list_tuple o g i⟩
     |false=>
      cases qb with
      |false=>exact absurd O P
      |true=>exact⟨.tuple_list o g i,.tuple_list o g i⟩
   |none=>
    rw[hd,he]at h;dsimp only at h;split at h
    ·rename_i f;cases h;obtain⟨r1,r2,r3,r4⟩:=ft o am (fO r f).1 i;exact⟨r1,r3⟩
    ·cases h
  |none=>
   cases he:dQ S e with
   |some p2=>
    obtain⟨qb,ys⟩:=p2;obtain⟨a2,C,rfl,wq,N⟩:=dJ r hs he;obtain⟨c,m,g,_⟩:=eQ I wq;cases am;rw[hd,he]at h;dsimp only at h;split at h
    ·rename_i f;cases h;obtain⟨r1,r2,r3,r4⟩:=ft g Q (fO R f).1 i;exact⟨r2,r4⟩
    ·cases h
   |none=>
    rw[hd,he]at h;dsimp only at h;obtain⟨f1,f2⟩:=pV h;obtain⟨g1,g2⟩:=fO R f1;have g3:=(fO r f2).1;rw[g2 e w r f2]at h;cases h;exact⟨lF Q am g1 g3,DY Q am g1 g3⟩
end
def fb:Nat:=60
def gEq:G2:=λd e S=>(lE S fb d e).map λb=>(.bl b,S)
theorem jn(l:X.A.units+64<cLine):fP X (compareOp .Eq) (r2 X.K (b2 gEq)):=by
 intro ag s σ H x y u w Q I f i h;obtain⟨mu,S,d,e,r,k,j,r2,c,a,hc⟩:=qu h;obtain⟨b,g,a⟩:=oM1.mp a;cases a;exact(pU I c fb (by show _+60<cLine;lia) j r2 f i g).2 X.prog X.w X.xe _ ⟨.bl b,H,I,O,hc.now (.bl b) c⟩
section
variable{ag:List (c4×Obj)}{σ:L2.St}{H:Hp}{s:c3}{mu:List c4}{S:dr}
theorem Ex{A:c6}{x y:V}{u w:cZ}(c:dS x u)(a:dS y w)(h:ll x=M)(d:ll y=M):SeqAt.RcNeAt A s u w (!vX x y):=by
 cases x with
 |non=>cases c;cases y with
  |non=>cases a;exact .none_none
  |bl k=>cases a;exact .none_bool k
  |int i=>obtain⟨t,rfl⟩:=a;exact .none_int i t
  |str z=>obtain⟨t,rfl⟩:=a;exact .none_str z t
  |_=>cases d
 |bl g=>cases c;cases y with
  |non=>cases a;exact .bool_none g
  |bl k=>cases a;exact .bool_bool g k
  |int i=>obtain⟨t,rfl⟩:=a;exact .bool_int g i t
  |str z=>obtain⟨t,rfl⟩:=a;exact .bool_str g z t
  |_=>cases d
 |int f=>obtain⟨b,rfl⟩:=c;cases y with
  |non=>cases a;exact .int_none f b
  |bl k=>cases a;exact .int_bool f b k
  |int i=>obtain⟨t,rfl⟩:=a;exact .int_int f b i t
  |str z=>obtain⟨t,rfl⟩:=a;exact .int_str f b z t
  |_=>cases d
 |str e=>obtain⟨b,rfl⟩:=c;cases y with
  |non=>cases a;exact .str_none e b
  |bl k=>cases a;exact .str_bool e b k
  |int i=>obtain⟨t,rfl⟩:=a;exact .str_int e b i t
  |str z=>obtain⟨t,rfl⟩:=a;exact .str_str e b z t
  |_=>cases d
 |_=>cases h
theorem nv{A:c6}{b:Bool}{a:c4}{its:Array cZ}{v:V}{u:cZ}(c:SCo b s.heap a its)(r:dS v u)(f:ll v=M)(d:A.units<cLine):SeqAt.RcNeAt A s (.ref a) u M/\SeqAt.RcNeAt A s u (.ref a) M:=by
 cases v with
 | non => cases r;cases b
          · exact⟨.tuple_none c d,.none_tuple c d⟩
          · exact⟨.list_none c d,.none_list c d⟩
 | bl k => cases r;cases b
           · exact⟨.tuple_bool k c d,.bool_tuple k c d⟩
           · exact⟨.list_bool k c d,.bool_list k c d⟩
 | int i => obtain ⟨t,rfl⟩:=r;cases b
            · exact⟨.tuple_int i t c d,.int_tuple i t c d⟩
            · exact⟨.list_int i t c d,.int_list i t c d⟩
 | str x => obtain ⟨t,rfl⟩:=r;cases b
            · exact⟨.tuple_str x t c d,.str_tuple x t c d⟩
            · exact⟨.list_str x t c d,.str_list x t c d⟩
 |_=>cases f
theorem Ig(I:Inv X ag σ H s)(hs:Sim X.K H mu S)(n:Nat){A:c6}{d e:D}{v w:V}{u z:cZ}{b:Bool}(hu:A.units+n<cLine)(aq:eP X.K H mu d v)(am:eP X.K H mu e w)(U:dS v u)(L:dS w z)(h:lE S n d e=Z b):SeqAt.RcNeAt A s u z (!b):=by
 cases n with
 |zero=>cases h
 |succ n=>
  have i:A.units<cLine:=by lia
  rw[lE]at h;cases hd:dQ S d with
  |some p=>
   obtain⟨wq,xs⟩:=p;obtain⟨a,vs,rfl,q,t⟩:=dJ aq hs hd;obtain⟨k,Q,m,_⟩:=eQ I q;cases U;cases he:dQ S e with
   |some p2=>
    obtain⟨qb,ys⟩:=p2;obtain⟨a2,r,rfl,W,au⟩:=dJ am hs he;obtain⟨c,l,g,_⟩:=eQ I W;cases L;rw[hd,he]at h;dsimp only at h;have l1:=t.length;have l2:=au.length;have l3:=Q.length;have l4:=l.length
    split at h
    ·rename_i ao;have R:wq=qb:=ao;subst R;split at h
     ·rename_i T;cases h;obtain⟨h1,h2⟩:=T;subst h1;refine .lists_lengths m g ?_ i;simp only[sT1,bne_iff_ne,ne_eq];lia
     ·rename_i T;obtain ⟨f,hf,B⟩:=xc _ h;have elts:∀ j (h1:j<k.toArray.size) (h2:j<c.toArray.size),SeqAt.EqAt A.in1 s k.toArray[j] c.toArray[j] (f j):=fun j h1 h2=>by
       have G:j<k.length:=by simpa using h1
       have E:j<c.length:=by simpa using h2
       have k1:j<vs.length:=by rw[Q.length];exact G
       have k2:j<r.length:=by rw[l.length];exact E
       obtain⟨x,ex,rx⟩:=t.getV (gG1 k1);obtain⟨y,ey,ry⟩:=au.getV (gG1 k2);obtain⟨u1,F,ru1⟩:=Q.get (gG1 k1);obtain⟨u2,K,N⟩:=l.get (gG1 k2);have o:k.toArray[j]=u1:=by
        rw[gG1 G]at F;simpa using F
       have P:c.toArray[j]=u2:=by
        rw[gG1 E]at K;simpa using K
       rw[o,P];exact(pU I hs n (A:=A.in1) (by show A.units+1+n<cLine;lia) rx ry ru1 N (hf j x y ex ey)).1
      cases wq with
      |false=>
       have:=SeqAt.RcNeAt.tuples m g i elts;rw[B];have o:k.toArray.size=xs.length:=by simp;lia
       have P:c.toArray.size=ys.length:=by simp;lia
       rw[o,P]at this;exact this
      |true=>
       have C:xs.length=ys.length:=by
        by_cases z:xs.length=ys.length
        ·exact z
        ·exact absurd ⟨O,z⟩ T
       have:=SeqAt.RcNeAt.lists m g (by simp;lia) i elts;rw[B];have o:k.toArray.size=xs.length:=by simp;lia
       rw[o]at this;rw[C,Nat.min_self,beq_self_eq_true,bP,<- C];exact this
    ·rename_i ao;cases h;cases wq with
     |true=>
      cases qb with
      |true=>exact absurd O ao
      |false=>exact .list_tuple m g i
     |false=>
      cases qb with
      |false=>exact absurd O ao
      |true=>exact .tuple_list m g i
   |none=>
    rw[hd,he]at h;dsimp only at h;split at h
    ·rename_i f;cases h;exact(nv m L (fO am f).1 i).1
    ·cases h
  |none=>
   cases he:dQ S e with
   |some p2=>
    obtain⟨qb,ys⟩:=p2;obtain⟨a2,r,rfl,W,au⟩:=dJ am hs he;obtain⟨c,l,g,_⟩:=eQ I W;cases L;rw[hd,he]at h;dsimp only at h;split at h
    ·rename_i f;cases h;exact(nv g U (fO aq f).1 i).2
    ·cases h
   |none=>
    rw[hd,he]at h;dsimp only at h;obtain⟨f1,f2⟩:=pV h;obtain⟨g1,g2⟩:=fO aq f1;have g3:=(fO am f2).1;rw[g2 e w am f2]at h;cases h;exact Ex U L g1 g3
end
def zQ:G2:=λd e S=>(lE S fb d e).map λb=>(.bl (!b),S)
def Gw(f:D->D->Option Bool)(x:D):List D->Option Bool
 |[]=>Z J
 |y::ys=>(f y x).bind λb=>(Gw f x ys).map λc=>b||c
def JS:G2:=λd e S=>(dQ S e).bind λp=>(Gw (lE S fb) d p.2).map λb=>(.bl b,S)
def pK:G2:=λd e S=>(dQ S e).bind λp=>(Gw (lE S fb) d p.2).map λb=>(.bl (!b),S)
def rR:D->Bool
 | .non=>M
 |_=>J
def Nb:G2:=λd e S=>match e with
 | .non=>Z (.bl (rR d),S)
 |_=>Y
def Fs:G2:=λd e S=>match e with
 | .non=>Z (.bl (!rR d),S)
 |_=>Y
section
theorem BS(l:X.A.units+64<cLine):fP X (compareOp .NotEq) (r2 X.K (b2 zQ)):=by
 intro ag s σ H x y u w Q I f i h;obtain⟨mu,S,d,e,r,k,j,r2,c,a,hc⟩:=qu h;obtain⟨b,g,a⟩:=oM1.mp a;cases a;exact Ig I c fb (by show _+60<cLine;lia) j r2 f i g X.prog X.w X.xe _ ⟨.bl (!b),H,I,O,hc.now (.bl _) c⟩
theorem CA(f:D->D->Option Bool)(x:D):∀{ys:List D} {b:Bool},Gw f x ys=Z b -> ∃bs:List Bool,bs.length=ys.length/\(∀(j:Nat) (y:D) (k:Bool),ys[j]?=Z y->bs[j]?=Z k->f y x=Z k)/\b=bs.any id
 |[],b,h=>by cases h;exact⟨[],O,λj y k h=>by simp at h,O⟩
 |y::ys,b,h=>by
  rw[Gw]at h;obtain⟨b1,e,h⟩:=oB1.mp h;obtain⟨b2,m,h⟩:=oM1.mp h;obtain⟨bs,i,l,a⟩:=CA f x m;refine⟨b1::bs,by simp[i],λj g k c d=>?_,?_⟩
  ·cases j with
   |zero=>simp at c d;subst c;subst d;exact e
   |succ j=>exact l j g k (by simpa using c) (by simpa using d)
  ·rw[<- h,a];simp
open Classical in
theorem Gv{ag:List (c4×Obj)}{σ:L2.St}{H:Hp}{s:c3}{mu:List c4}{S:dr}(I:Inv X ag σ H s)(hs:Sim X.K H mu S){A:c6}(am:A.units+61<cLine){x:D}{v:V}{u:cZ}(B:eP X.K H mu x v)(F:dS v u){ys:List D}{vs:List V}{a:List cZ}{b:Bool}(r:dI X.K H mu ys vs)(p:d4 vs a)(h:Gw (lE S fb) x ys=Z b):∃e:cZ->Bool,(∀w∈a,SeqAt.EqAt A.in1 s w u (e w))/\a.any e=b:=by
 obtain⟨bs,ao,G,rfl⟩:=CA _ x h;have L:=r.length;have N:=p.length;have l:∀(j:Nat) w k,a[j]?=Z w->bs[j]?=Z k->SeqAt.EqAt A.in1 s w u k:=λj w k g f=>by
  have o:j<a.length:=(gE1.mp g).1;obtain⟨y,C,t⟩:=r.getV (i:=j) (v:=vs[j]'(by lia)) (gG1 (by lia));obtain⟨K,q,r2⟩:=p.get (i:=j) (x:=vs[j]'(by lia)) (gG1 (by lia));rw[g]at q;cases q;exact(pU I hs fb (A:=A.in1) (by show A.units+1+60<cLine;lia) t B r2 F (G j y k C f)).1
 refine⟨λw=>decide (∃j:Nat,a[j]?=Z w/\bs[j]?=Z M),λw g=>?_,?_⟩
 ·by_cases z:∃j:Nat,a[j]?=Z w/\bs[j]?=Z M
  ·dsimp only;rw[ah z];obtain⟨j,n,c⟩:=z;exact l j w M n c
  ·dsimp only;rw[ai z];obtain⟨j,d⟩:=bB g;have o:j<a.length:=(gE1.mp d).1;have m:j<bs.length:=by lia
   have c:=gG1 m;cases f:bs[j]with
   |true=>rw[f]at c;exact absurd ⟨j,d,c⟩ z
   |false=>rw[f]at c;exact l j w J d c
 ·rw[bT,bU,bU];constructor
  ·rintro⟨w,g,z⟩;obtain⟨j,n,c⟩:=of_decide_eq_true z;exact⟨M,gM1 c,O⟩
  ·rintro⟨k,f,z⟩;obtain⟨j,d⟩:=bB f;have o:j<bs.length:=(gE1.mp d).1;have m:j<a.length:=by lia
   have E:k=M:=z;subst E;exact⟨a[j],bV m,ah ⟨j,gG1 m,d⟩⟩
theorem MY(F:X.A.units+64<cLine):fP X (compareOp .In) (r2 X.K (b2 JS)):=by
 intro ag s σ H x y u w Q I n v h;obtain⟨mu,S,d,e,r,E,D,r2,k,i,hc⟩:=qu h;obtain⟨⟨p,ys⟩,o,i⟩:=oB1.mp i;obtain⟨b,B,i⟩:=oM1.mp i;cases i;obtain⟨a,vs,rfl,q,t⟩:=dJ r2 k o;cases v;obtain⟨c,C,m,_⟩:=eQ I q;obtain⟨f,l,z⟩:=Gv I k (A:=X.A) (by lia) D n t C B;have g:EP X ag σ Q (.bool (c.toArray.any f)) s:=⟨.bl b,H,I,by rw[show c.toArray.any f=c.any f by simp,z];rfl,hc.now (.bl b) k⟩;cases p
 ·exact SeqAt.in_tupleAt f m (λy j=>l y (by simpa using j)) g
 ·exact SeqAt.in_listAt f m (λy j=>l y (by simpa using j)) g
theorem Eu(F:X.A.units+64<cLine):fP X (compareOp .NotIn) (r2 X.K (b2 pK)):=by
 intro ag s σ H x y u w Q I n v h;obtain⟨mu,S,d,e,r,E,D,r2,k,i,hc⟩:=qu h;obtain⟨⟨p,ys⟩,o,i⟩:=oB1.mp i;obtain⟨b,B,i⟩:=oM1.mp i;cases i;obtain⟨a,vs,rfl,q,t⟩:=dJ r2 k o;cases v;obtain⟨c,C,m,_⟩:=eQ I q;obtain⟨f,l,z⟩:=Gv I k (A:=X.A) (by lia) D n t C B;have g:EP X ag σ Q (.bool (!c.toArray.any f)) s:=⟨.bl (!b),H,I,by rw[show c.toArray.any f=c.any f by simp,z];rfl,hc.now (.bl _) k⟩;cases p
 ·exact SeqAt.notIn_tupleAt f m (λy j=>l y (by simpa using j)) g
 ·exact SeqAt.notIn_listAt f m (λy j=>l y (by simpa using j)) g
theorem yc{K:Fg1}{H:Hp}{mu:List c4}{d:D}{v:V}(r:eP K H mu d v):rR d=decide (v = .non):=by
 cases r<;>simp[rR]
theorem KQ:fP X (compareOp .Is) (r2 X.K (b2 Nb)):=by
 intro ag s σ H x y u w Q I b c h;obtain⟨mu,S,d,e,r,i,g,r2,f,a,hc⟩:=qu h;cases e with
 |non=>
  cases a;cases r2;refine HU ag s σ H _ _ u w Q I b c ⟨O,?_⟩;rw[<- yc g];exact hc.now (.bl _) f
 |_=>cases a
theorem H9:fP X (compareOp .IsNot) (r2 X.K (b2 Fs)):=by
 intro ag s σ H x y u w Q I b c h;obtain⟨mu,S,d,e,r,i,g,r2,f,a,hc⟩:=qu h;cases e with
 |non=>
  cases a;cases r2;refine Eo ag s σ H _ _ u w Q I b c ⟨O,?_⟩;rw[<- yc g];exact hc.now (.bl _) f
 |_=>cases a
end
def eA:G1:=λd S=>match d with
 | .str x=>if x.length<=da then Z (.int x.length,S)else Y
 |_=>(dQ S d).map λp=>(.int p.2.length,S)
def CL:G2:=λd e S=>match e with
 | .int i=>(dQ S d).bind λp=>(vZ p.2 i).map λx=>(x,S)
 |_=>Y
def gTup:G1:=λd S=>(dQ S d).map λp=>(.tup p.2,S)
def nT:G1:=λd S=>(dQ S d).map λp=>(.ref S.length,S++[.lst p.2])
def ke:G3:=λo i v S=>match o,i with
 | .ref n,.int k=>match S[n]? with
  |some (.lst xs)=>(wX xs.length k).map λj=>(.non,S.set n (.lst (xs.set j v)))
  |_=>Y
 |_,_=>Y
def Dm:List D->Option Bool
 |[]=>Z M
 | .bl b::r=>(Dm r).map λc=>b&&c
 |_=>Y
def Dj:List D->Option Bool
 |[]=>Z J
 | .bl b::r=>(Dj r).map λc=>b||c
 |_=>Y
def lD:G1:=λd S=>(dQ S d).bind λp=>(Dm p.2).map λb=>(.bl b,S)
def nU:G1:=λd S=>(dQ S d).bind λp=>(Dj p.2).map λb=>(.bl b,S)
def ma:G1:=λd S=>match d with
 | .int i=>Z (.int i,S)
 | .bl b=>Z (.int (if b then 1 else 0),S)
 |_=>Y
def Fo:G2:=λd e S=>match d,e with
 | .int i,.int j=>Z (.int (if j>i then j else i),S)
 |_,_=>Y
def w6:G2:=λd e S=>match d,e with
 | .int i,.int j=>Z (.int (if j<i then j else i),S)
 |_,_=>Y
theorem eS:eM X (.builtin "len") (rN X.K (b1 eA)):=by
 intro ag s σ H xs f Q I r h;obtain⟨x,mu,S,d,l,k,rfl,g,e,c,hc⟩:=zl h;unfold eA at c;split at c
 ·split at c
  ·rename_i z j;cases c;cases g;exact t0 ag s σ H _ f Q I r ⟨_,O,j,hc.now (.int _) e⟩
  ·cases c
 ·obtain⟨⟨b,ys⟩,i,c⟩:=oM1.mp c;cases c;obtain⟨a,vs,rfl,q,t⟩:=dJ g e i;refine t5 ag s σ H _ f Q I r ⟨a,vs,O,?_,?_⟩
  ·cases b
   ·exact .inr q
   ·exact .inl q
  ·rw[<- t.length];exact hc.now (.int _) e
theorem FZ{K:Fg1}{H:Hp}{mu:List c4}{ds:List D}{vs:List V}{i:Int}{d:D}(t:dI K H mu ds vs)(h:vZ ds i=Z d):∃v,vZ vs i=Z v/\eP K H mu d v:=by
 unfold vZ at h ⊢;rw[<- t.length];obtain⟨j,b,h⟩:=oB1.mp h;obtain⟨v,a,c⟩:=t.get h;exact⟨v,by rw[b];exact a,c⟩
theorem Mn:GH X (r2 X.K (b2 CL)):=by
 intro value c ag s σ H x y v u Q I k n h g;obtain⟨mu,S,d,e,r,B,A,r2,j,f,hc⟩:=qu h;cases e with
 |int i=>
  obtain⟨⟨b,ys⟩,p,f⟩:=oB1.mp f;obtain⟨z,w,f⟩:=oM1.mp f;cases f;cases r2;obtain⟨a,vs,rfl,q,t⟩:=dJ A j p;obtain⟨l,m,o⟩:=FZ t w;cases b
  ·exact I7 value c ag s σ H _ _ v u Q I k n ⟨a,vs,i,l,O,O,q,m,hc.now o j⟩ g
  ·exact E6 value c ag s σ H _ _ v u Q I k n ⟨a,vs,i,l,O,O,q,m,hc.now o j⟩ g
 |_=>cases f
theorem eK:eM X (.type "tuple") (rN X.K (b1 gTup)):=by
 intro ag s σ H xs i Q I r h;obtain⟨x,mu,S,d,m,k,rfl,j,f,e,hc⟩:=zl h;obtain⟨⟨b,ys⟩,g,e⟩:=oM1.mp e;cases e;obtain⟨a,vs,rfl,q,t⟩:=dJ j f g;refine q3 ag s σ H _ i Q I r ⟨a,vs,O,?_⟩;cases b
 ·exact .inr ⟨q,hc.now (.tup q t) f⟩
 ·exact .inl ⟨q,λl c=>hc _ _ mu (Ext.fresh c) (.tup (kS.of d8) (t.ext (Ext.fresh c))) (f.fresh c)⟩
theorem p9:eM X (.type "list") (rN X.K (b1 nT)):=by
 intro ag s σ H xs i Q I r h;obtain⟨x,mu,S,d,m,k,rfl,j,e,c,hc⟩:=zl h;obtain⟨⟨b,ys⟩,g,c⟩:=oM1.mp c;cases c;obtain⟨a,vs,rfl,q,t⟩:=dJ j e g;refine tZ ag s σ H _ i Q I r ⟨a,vs,O,?_,λl f=>hc _ _ (mu++[l]) (Ext.new_ f) (.ref (gh e.len l)) (e.newL t f)⟩;cases b
 ·exact .inr q
 ·exact .inl q
theorem Kq:xB X (rU X.K (b3 ke)):=by
 intro ag s σ H o i v p A u Q I w q r h;obtain⟨mu,S,ds,d,G,C,f,a,hc⟩:=h;cases C with
 |cons x m=>cases m with
  |cons z g=>cases g with
   |cons l B=>
    cases B;rename_i E F D;dsimp only[b3]at a;unfold ke at a;split at a
    ·rename_i n k;split at a
     ·rename_i xs e;obtain⟨j,y,a⟩:=oM1.mp a;cases a;cases x with
      |ref b=>
       cases z;obtain⟨vs,c,t⟩:=f.lst e b;refine Bb ag s σ H _ _ v p A u Q I w q r ⟨_,vs,k,j,O,O,c,by rw[<- t.length];exact y,?_⟩;exact hc _ mu (Ext.put c trivial (gM1 b)) (f.putL (t.set l j) b c)
     ·cases a
    ·cases a
theorem F3{K:Fg1}{H:Hp}{mu:List c4}:∀{ds:List D} {vs:List V} {a:List cZ} {b:Bool},dI K H mu ds vs->d4 vs a->Dm ds=Z b -> ∃bs:List Bool,a=bs.map Value.bool/\b=bs.all id:=by
 intro ds
 induction ds with
 |nil=>intro vs a b r v h;cases r;cases v;cases h;exact⟨[],O,O⟩
 |cons d ds ih=>
  intro vs a b r v h;cases r with
  |cons j t=>
   cases v with
   |cons r g=>
    cases j
    case bl k=>
     obtain⟨c,e,h⟩:=oM1.mp h;obtain⟨bs,f,i⟩:=ih t g e;cases r;exact⟨k::bs,by rw[f];rfl,by rw[<- h,i];rfl⟩
    all_goals cases h
theorem F0{K:Fg1}{H:Hp}{mu:List c4}:∀{ds:List D} {vs:List V} {a:List cZ} {b:Bool},dI K H mu ds vs->d4 vs a->Dj ds=Z b -> ∃bs:List Bool,a=bs.map Value.bool/\b=bs.any id:=by
 intro ds
 induction ds with
 |nil=>intro vs a b r v h;cases r;cases v;cases h;exact⟨[],O,O⟩
 |cons d ds ih=>
  intro vs a b r v h;cases r with
  |cons j t=>
   cases v with
   |cons r g=>
    cases j
    case bl k=>
     obtain⟨c,e,h⟩:=oM1.mp h;obtain⟨bs,f,i⟩:=ih t g e;cases r;exact⟨k::bs,by rw[f];rfl,by rw[<- h,i];rfl⟩
    all_goals cases h
theorem rA(bs:List Bool):(af bs.length).all (λi=>bs.getD i M)=bs.all id:=by
 rw[bT,bH,bH];constructor
 ·intro h b c;obtain⟨i,hi,rfl⟩:=bW.mp c;have:=h i (aB.mpr hi);simpa[bM,hi]using this
 ·intro h i hi;have a:=aB.mp hi;have:=h _ (bV a);simpa[bM,a]using this
theorem rz(bs:List Bool):(af bs.length).any (λi=>bs.getD i M)=bs.any id:=by
 rw[bT,bU,bU];constructor
 ·rintro⟨i,hi,h⟩;have a:=aB.mp hi;exact⟨bs[i],bV a,by simpa[bM,a]using h⟩
 ·rintro⟨b,c,h⟩;obtain⟨i,hi,rfl⟩:=bW.mp c;exact⟨i,aB.mpr hi,by simpa[bM,hi]using h⟩
theorem wf{s:c3}{b:Bool}{a:c4}{bs:List Bool}(hc:X.A.handled=Y)(g:SCo b s.heap a (bs.map Value.bool).toArray){Q:cZ->c3->Prop}(all:∀h' tk,(∀c o,s.heap.get? c=Z o->h'.get? c=Z o)->Q (.bool (bs.all id)) {s with heap:=h',toks:=tk}):db (model X.prog X.w) X.A (call (.builtin "all") [.ref a]) Q X.xe s:=by
 refine call_all_walk (jk g ?_);have j:a<s.heap.objs.size:=by cases b<;>(obtain⟨o,e,_⟩:=g;exact hL1 e)
 have ne:a≠s.heap.objs.size:=nN1 j;have l:TruthOf X.prog X.w X.A.in1 (λi v=>(bs.map Value.bool).toArray[i]?=Z v) (λi=>bs.getD i M):=λi v s' p q m h=>by
  have d:(bs.map Value.bool)[i]?=Z v:=by simpa using m
  rw[gP1]at d;obtain⟨k,n,rfl⟩:=oM1.mp d;dsimp only at h;rw[bM,n]at h;exact wpAny_truthy_bool h
 have keep:∀(h':df),(∀c o,c∉[s.heap.objs.size]->(s.heap.push (fN b a)).get? c=Z o->h'.get? c=Z o) -> ∀c o,s.heap.get? c=Z o->h'.get? c=Z o:=λh' f c o e=>
  f c o (by simpa using nN1 (hL1 e)) (hP1 _ e)
 have hi:(s.heap.push (fN b a)).get? s.heap.objs.size=Z (fN b a):=hS1 _ (by cases b<;>rfl);cases b with
 |true=>
  refine⟨s.heap.objs.size,_,_,_,_,_,_,O,Walks.list (A:=X.A.in1) hc s.heap.objs.size a ne (bs.map Value.bool).toArray,⟨⟨_,hi,O,O⟩,SCo.to (b:=M) g λo e=>hP1 _ e⟩,l,λh' tk f=>?_⟩;have e:(bs.map Value.bool).toArray.size=bs.length:=by simp
  rw[e,rA];exact all h' tk (keep h' f)
 |false=>
  refine⟨s.heap.objs.size,_,_,_,_,_,_,O,Walks.tuple (A:=X.A.in1) hc s.heap.objs.size a ne (bs.map Value.bool).toArray,⟨⟨_,hi,O,O⟩,SCo.to (b:=J) g λo e=>hP1 _ e⟩,l,λh' tk f=>?_⟩;have e:(bs.map Value.bool).toArray.size=bs.length:=by simp
  rw[e,rA];exact all h' tk (keep h' f)
theorem walk_bools'{s:c3}{b:Bool}{a:c4}{bs:List Bool}(hc:X.A.handled=Y)(g:SCo b s.heap a (bs.map Value.bool).toArray){Q:cZ->c3->Prop}(all:∀h' tk,(∀c o,s.heap.get? c=Z o->h'.get? c=Z o)->Q (.bool (bs.any id)) {s with heap:=h',toks:=tk}):db (model X.prog X.w) X.A (call (.builtin "any") [.ref a]) Q X.xe s:=by
 refine call_any_walk (jk g ?_);have j:a<s.heap.objs.size:=by cases b<;>(obtain⟨o,e,_⟩:=g;exact hL1 e)
 have ne:a≠s.heap.objs.size:=nN1 j;have l:TruthOf X.prog X.w X.A.in1 (λi v=>(bs.map Value.bool).toArray[i]?=Z v) (λi=>bs.getD i M):=λi v s' p q m h=>by
  have d:(bs.map Value.bool)[i]?=Z v:=by simpa using m
  rw[gP1]at d;obtain⟨k,n,rfl⟩:=oM1.mp d;dsimp only at h;rw[bM,n]at h;exact wpAny_truthy_bool h
 have keep:∀(h':df),(∀c o,c∉[s.heap.objs.size]->(s.heap.push (fN b a)).get? c=Z o->h'.get? c=Z o) -> ∀c o,s.heap.get? c=Z o->h'.get? c=Z o:=λh' f c o e=>
  f c o (by simpa using nN1 (hL1 e)) (hP1 _ e)
 have hi:(s.heap.push (fN b a)).get? s.heap.objs.size=Z (fN b a):=hS1 _ (by cases b<;>rfl);cases b with
 |true=>
  refine⟨s.heap.objs.size,_,_,_,_,_,_,O,Walks.list (A:=X.A.in1) hc s.heap.objs.size a ne (bs.map Value.bool).toArray,⟨⟨_,hi,O,O⟩,SCo.to (b:=M) g λo e=>hP1 _ e⟩,l,λh' tk f=>?_⟩;have e:(bs.map Value.bool).toArray.size=bs.length:=by simp
  rw[e,rz];exact all h' tk (keep h' f)
 |false=>
  refine⟨s.heap.objs.size,_,_,_,_,_,_,O,Walks.tuple (A:=X.A.in1) hc s.heap.objs.size a ne (bs.map Value.bool).toArray,⟨⟨_,hi,O,O⟩,SCo.to (b:=J) g λo e=>hP1 _ e⟩,l,λh' tk f=>?_⟩;have e:(bs.map Value.bool).toArray.size=bs.length:=by simp
  rw[e,rz];exact all h' tk (keep h' f)
theorem qa(hc:X.calm=M):eM X (.builtin "all") (rN X.K (b1 lD)):=by
 intro ag s σ H xs v Q I r h;obtain⟨x,mu,S,d,y,w,rfl,p,f,c,e⟩:=zl h;obtain⟨⟨b,ys⟩,g,c⟩:=oB1.mp c;obtain⟨k,m,c⟩:=oM1.mp c;cases c;obtain⟨a,vs,rfl,q,t⟩:=dJ p f g;obtain⟨u,rfl,l⟩:=io r;cases l;obtain⟨i,n,j,_⟩:=eQ I q;obtain⟨bs,rfl,rfl⟩:=F3 t n m;exact wf (I.ok.hd hc) j λh' tk o=>⟨.bl _,H,I.kept o,O,e.now (.bl _) f⟩
theorem yM(hc:X.calm=M):eM X (.builtin "any") (rN X.K (b1 nU)):=by
 intro ag s σ H xs v Q I r h;obtain⟨x,mu,S,d,y,w,rfl,p,f,c,e⟩:=zl h;obtain⟨⟨b,ys⟩,g,c⟩:=oB1.mp c;obtain⟨k,m,c⟩:=oM1.mp c;cases c;obtain⟨a,vs,rfl,q,t⟩:=dJ p f g;obtain⟨u,rfl,l⟩:=io r;cases l;obtain⟨i,n,j,_⟩:=eQ I q;obtain⟨bs,rfl,rfl⟩:=F0 t n m;exact walk_bools' (I.ok.hd hc) j λh' tk o=>⟨.bl _,H,I.kept o,O,e.now (.bl _) f⟩
theorem su:eM X (.type "int") (rN X.K (b1 ma)):=by
 intro ag s σ H xs e Q I r h;obtain⟨x,mu,S,d,j,g,rfl,f,c,a,hc⟩:=zl h;cases d with
 |int i=>cases a;cases f;exact sn ag s σ H _ e Q I r (.inl ⟨i,O,hc.now (.int _) c⟩)
 |bl b=>cases a;cases f;exact sn ag s σ H _ e Q I r (.inr ⟨b,O,hc.now (.int _) c⟩)
 |_=>cases a
theorem LJ(hc:X.calm=M):eM X (.builtin "max") (rN X.K (b2 Fo)):=by
 intro ag s σ H xs f Q I r h;obtain⟨x,y,mu,S,d,e,j,i,rfl,g,r2,c,a,b⟩:=Bf h;unfold Fo at a;split at a
 ·cases a;cases g;cases r2;exact Aj hc ag s σ H _ f Q I r ⟨_,_,O,b.now (.int _) c⟩
 ·cases a
theorem GB(hc:X.calm=M):eM X (.builtin "min") (rN X.K (b2 w6)):=by
 intro ag s σ H xs f Q I r h;obtain⟨x,y,mu,S,d,e,j,i,rfl,g,r2,c,a,b⟩:=Bf h;unfold w6 at a;split at a
 ·cases a;cases g;cases r2;exact Ai hc ag s σ H _ f Q I r ⟨_,_,O,b.now (.int _) c⟩
 ·cases a
open PySem.SeqAt
open PySem.AutoSeq1 (wpAny_loadPart')
open PySem.MeetsSeq PySem.MeetsSeq2 PySem.MeetsSeq3
def F5(A:c6)(s:c3)(y x:cZ)(b:Bool):Prop:=∀(prog:c5) (w:c7) (E:cZ->c3->Prop) (Q:cZ->c3->Prop),Q (.bool b) s->db (model prog w) A (richCompare .Lt y x) Q E s
inductive Ax (A:c6)(s:c3):List cZ->List cZ->Bool->Prop
 |nn:Ax A s [] [] false
 |nc (y:cZ) (ys:List cZ):Ax A s [] (y::ys) true
 |cn (x:cZ) (xs:List cZ):Ax A s (x::xs) [] false
 |eq {x y:cZ} {xs ys:List cZ} {k:Bool} (e:EqAt A.in1 s x y true) (t:Ax A s xs ys k):Ax A s (x::xs) (y::ys) k
 |lt {x y:cZ} {xs ys:List cZ} {k:Bool} (e:EqAt A.in1 s x y false) (t:F5 A.in1 s x y k):Ax A s (x::xs) (y::ys) k
theorem GS(l b:c4)(items items2:Array cZ)(n D:Nat)(dd q:Option c4)(sl o:Array (Option cZ))(c:Bool):
  Meets (Builtin.«tuple.__lt__» ⟨[.ref l,.ref b],[]⟩) (fun A R s=>s.heap.get? l=some {cls:=.type "tuple",dict:=dd,data:=.seq items n,slots:=sl}/\s.heap.get? b=some {cls:=.type "tuple",dict:=q,data:=.seq items2 D,slots:=o} /\
    Ax A s items.toList items2.toList c/\R (.ok (.ret (.bool c))) s):=
 .of_wp λprog w A R s h=>by
  obtain⟨u,g,d,tk,v⟩:=s;obtain⟨z,B,C,h⟩:=h;have G:=AutoSeq1.sub_tuple_tuple
  wp_walk using wpAny_loadPart' z,wpAny_loadPart' B,wpAny_forIn_list _ (λrest b s'=>b.1=Y/\s'=⟨u,g,d,tk,v⟩ /\ ∃vs ws:List cZ,rest=vs.zip ws/\Ax A ⟨u,g,d,tk,v⟩ vs ws c/\vs.length+items2.size=ws.length+items.size) _
  case turn=>
   rintro⟨y,x⟩ rest b s' ⟨k,rfl,vs,ws,f,r,a⟩;cases r with
   |nn=>cases f
   |nc _ _=>cases f
   |cn _ _=>cases f
   |eq e t=>
    rw[bX]at f;injection f with j i;injection j with p m;subst p m
    simp only[lC1]at a;refine wB1 (e prog w _ _ ?_)
    wp_walk
    exact⟨O,O,_,_,i,t,by lia⟩
   |lt e t=>
    rw[bX]at f;injection f with j i;injection j with p m;subst p m
    refine wB1 (e prog w _ _ ?_);have F:=t prog w
    wp_walk using F
    exact⟨_,O,by simpa using h⟩
  case fin=>
   rintro⟨b1,b2⟩ s' ⟨k,rfl,vs,ws,f,r,a⟩;simp only at k;subst k;have E:c=decide (items.size<items2.size):=by
    cases r with
    |nn=>simp only[bo]at a;exact(ai (by lia)).symm
    |nc _ _=>simp only[bo,lC1]at a;exact(ah (by lia)).symm
    |cn _ _=>simp only[bo,lC1]at a;exact(ai (by lia)).symm
    |eq _ _=>rw[bX]at f;cases f
    |lt _ _=>rw[bX]at f;cases f
   rw[E]at h
   wp_walk
   exact⟨_,O,by simpa[Builtin.Tuple.tupleCompareSizes]using h⟩
  case h=>exact⟨O,O,items.toList,items2.toList,O,C,by simp;lia⟩
theorem Ci(l b:c4)(items items2:Array cZ)(n G:Nat)(dd z:Option c4)(sl x:Array (Option cZ))(c:Bool)(k:Nat):
  ∀i:Nat,items.size-i=k->i<=items.size->i<=items2.size->Meets (Builtin.«list.__eq__.loop» ⟨[.ref l,.ref b,rawInt i,rawInt 0],[]⟩)
   (λA R s=>s.heap.get? l=Z {cls:=.type "list",dict:=dd,data:=.seq items n,slots:=sl}/\s.heap.get? b=Z {cls:=.type "list",dict:=z,data:=.seq items2 G,slots:=x} /\
    Ax A s (items.toList.drop i) (items2.toList.drop i) c/\R (.ok (.ret (.bool c))) s):=by
 induction k with
 |zero=>
  intro i E r B prog w A R s h;obtain⟨C,g,d,tk,D⟩:=s;obtain⟨j,m,a,h⟩:=h
  wp_walk using wpAny_loadPart' j,wpAny_loadPart' m
  have o:items[((i:Nat):Int).toNat]?=Y:=by simp;lia
  have u:items.toList.drop i=[]:=by simp;lia
  rw[u]at a;rw[o]
  wp_walk using wpAny_loadPart' j,wpAny_loadPart' m
  have H:c=decide (items.size<items2.size):=by
   cases h2:items2.toList.drop i with
   |nil=>
    rw[h2]at a;cases a;have:=congrArg List.length h2;simp at this;exact(ai (by lia)).symm
   |cons y ys=>
    rw[h2]at a;cases a;have:=congrArg List.length h2;simp at this;exact(ah (by lia)).symm
  show R (.ok (.ret (.bool (decide (items.size<items2.size))))) _;rw[<- H];exact h
 |succ k ih=>
  intro i E r B prog w A R s h;obtain⟨C,g,d,tk,D⟩:=s;obtain⟨j,m,a,h⟩:=h;have p:i<items.size:=by lia
  have u:items.toList.drop i=items[i]::items.toList.drop (i+1):=by simp[List.drop_eq_getElem_cons,p]
  have o:items[((i:Nat):Int).toNat]?=Z items[i]:=by simp[p]
  have hc:((i:Int)+1)=((i+1:Nat):Int):=by push_cast;rfl
  rw[u]at a;rcases bY i items2.size with f|F
  ·have v:items2.toList.drop i=items2[i]::items2.toList.drop (i+1):=by simp[List.drop_eq_getElem_cons,f]
   have q:items2[((i:Nat):Int).toNat]?=Z items2[i]:=by simp[f]
   rw[v]at a
   wp_walk using wpAny_loadPart' j,wpAny_loadPart' m
   rw[o,q];cases a with
   |eq e t=>
    refine wB1 (e prog w _ _ ?_)
    wp_walk
    rw[hc];exact⟨plainId_quiet plain_eq_loop _,wD1 entry_eq_loop (by rw[Around.under_plainId plain_eq_loop _];exact ih (i+1) (by lia) (by lia) (by lia) prog w A R _ ⟨j,m,t,h⟩)⟩
   |lt e t=>
    refine wB1 (e prog w _ _ ?_);have I:=t prog w
    wp_walk using wpAny_loadPart' j,wpAny_loadPart' m
    rw[o,q]
    wp_walk using I
    simpa using h
  ·have q:items2[((i:Nat):Int).toNat]?=Y:=by simp;lia
   have v:items2.toList.drop i=[]:=by simp;lia
   rw[v]at a;cases a
   wp_walk using wpAny_loadPart' j,wpAny_loadPart' m
   rw[o,q]
   wp_walk using wpAny_loadPart' j,wpAny_loadPart' m
   show R (.ok (.ret (.bool (decide (items.size<items2.size))))) _;rw[ai (by lia)];exact h
theorem IQ(l b:c4)(items items2:Array cZ)(n j:Nat)(dd a:Option c4)(sl e:Array (Option cZ))(c:Bool):
  Meets (Builtin.«list.__lt__» ⟨[.ref l,.ref b],[]⟩) (fun A R s=>s.heap.get? l=some {cls:=.type "list",dict:=dd,data:=.seq items n,slots:=sl}/\s.heap.get? b=some {cls:=.type "list",dict:=a,data:=.seq items2 j,slots:=e} /\
    Ax A s items.toList items2.toList c/\R (.ok (.ret (.bool c))) s):=by
 intro prog w A R s h;obtain⟨m,g,d,tk,p⟩:=s;obtain⟨f,i,k,h⟩:=h;have o:=AutoSeq1.sub_list_list
 wp_walk using wpAny_loadPart' f,wpAny_loadPart' i
 exact⟨plainId_quiet plain_eq_loop _,wD1 entry_eq_loop (by rw[Around.under_plainId plain_eq_loop _];exact Ci l b items items2 n j dd a sl e c _ 0 O (br _) (br _) prog w A R _ ⟨f,i,by simpa using k,h⟩)⟩
theorem G7{A:c6}{s:c3}{k:Bool}{l b:c4}{xs ys:Array cZ}{c:Bool}(c1:SCo k s.heap l xs)(c2:SCo k s.heap b ys)(y:A.units<cLine)(h:Ax A s xs.toList ys.toList c):F5 A s (.ref l) (.ref b) c:=λprog w E Q q=>by
 cases k
 ·obtain⟨⟨t,r,p,u⟩,m,hc,n,o⟩:=id c1;obtain⟨⟨j,f,i,g⟩,d,e,v,a⟩:=id c2;simp only at hc o e a;subst hc o e a;exact richCompare_meets_room (op:=.Lt) ⟨_,m,O⟩ ⟨_,d,O⟩ PySem.F.slot_tuple_lt PySem.F.entry_tuple_lt (PySem.F.args_tuple_lt_2 _ _) (GS l b xs ys n v r f u g c) ⟨m,d,h,show Value.bool c≠Value.notImplemented/\Q (.bool c) s from⟨(λx=>nomatch x),q⟩⟩ y
 ·obtain⟨⟨t,r,p,u⟩,m,hc,n,o⟩:=id c1;obtain⟨⟨j,f,i,g⟩,d,e,v,a⟩:=id c2;simp only at hc o e a;subst hc o e a;exact richCompare_meets_room (op:=.Lt) ⟨_,m,O⟩ ⟨_,d,O⟩ PySem.F.slot_list_lt PySem.F.entry_list_lt (PySem.F.args_list_lt_2 _ _) (IQ l b xs ys n v r f u g c) ⟨m,d,h,show Value.bool c≠Value.notImplemented/\Q (.bool c) s from⟨(λx=>nomatch x),q⟩⟩ y
def Mb(f g:D->D->Option Bool):List D->List D->Option Bool
 |[],[]=>Z J
 |[],_::_=>Z M
 |_::_,[]=>Z J
 |x::xs,y::ys=>(f x y).bind λb=>if b=M then Mb f g xs ys else g x y
def NG:D->D->Option Bool
 | .int i,.int j=>Z (decide (i<j))
 | .str x,.str y=>Z (decide (x.cps.toList<y.cps.toList))
 |_,_=>Y
def JQ(S:dr):Nat->D->D->Option Bool
 |0,_,_=>Y
 |n+1,d,e=>match NG d e with
  |some b=>Z b
  |none=>match dQ S d,dQ S e with
   |some p,Z q=>if p.1=q.1 then Mb (lE S n) (JQ S n) p.2 q.2 else Y
   |_,_=>Y
def w8:G2:=λd e S=>(JQ S fb d e).map λb=>(.bl b,S)
section
variable{ag:List (c4×Obj)}{σ:L2.St}{H:Hp}{s:c3}{mu:List c4}{S:dr}
theorem IP(I:Inv X ag σ H s)(hs:Sim X.K H mu S){n:Nat}{A:c6}(r:A.units+1+n<cLine)(ih:∀ {d e:D} {v w:V} {u z:cZ} {b:Bool},eP X.K H mu d v->eP X.K H mu e w->dS v u->dS w z->JQ S n d e=some b->F5 A.in1 s u z b):
  ∀{xs ys:List D} {vs ws:List V} {f zs:List cZ} {b:Bool},dI X.K H mu xs vs->dI X.K H mu ys ws->d4 vs f->d4 ws zs->Mb (lE S n) (JQ S n) xs ys=Z b->Ax A s f zs b
 :=by
 intro xs
 induction xs with
 |nil=>
  intro ys vs ws f zs b a r2 g c h;cases a;cases g;cases r2 with
  |nil=>cases c;cases h;exact .nn
  |cons _ _=>cases c;cases h;exact .nc _ _
 |cons x xs m=>
  intro ys vs ws f zs b a r2 g c h;cases a with
  |cons a p=>
   cases g with
   |cons i q=>
    cases r2 with
    |nil=>cases c;cases h;exact .cn _ _
    |cons r2 o=>
     cases c with
     |cons j p2=>
      rw[Mb]at h;obtain⟨k,l,h⟩:=oB1.mp h;have eq:=(pU I hs n (A:=A.in1) r a r2 i j l).1;cases k with
      |true=>exact .eq eq (m p o q p2 h)
      |false=>exact .lt eq (ih a r2 i j h)
theorem Ch(I:Inv X ag σ H s)(hs:Sim X.K H mu S):∀(n:Nat) {A:c6} {d e:D} {v w:V} {u z:cZ} {b:Bool},A.units+n<cLine->eP X.K H mu d v->eP X.K H mu e w->dS v u->dS w z->JQ S n d e=Z b->F5 A s u z b
 |0,_,_,_,_,_,_,_,_,_,_,_,_,_,h=>by cases h
 |n + 1,A,d,e,v,w,u,z,b,W,o,l,m,j,h=>by
  rw[JQ]at h;split at h
  ·rename_i k c;cases h;unfold NG at c;split at c
   ·cases c;cases o;cases l;obtain⟨t,rfl⟩:=m;obtain⟨r,rfl⟩:=j;exact λprog w E Q q=>(PyProof.Rows.lt_int q:db (model prog w) A (compareOp .Lt (.int _ t) (.int _ r)) Q E s)
   ·cases c;cases o;cases l;obtain⟨t,rfl⟩:=m;obtain⟨r,rfl⟩:=j;exact λprog w E Q q=>(PyProof.Rows.lt_str q:db (model prog w) A (compareOp .Lt (.str _ t) (.str _ r)) Q E s)
   ·cases c
  ·split at h
   ·rename_i p q F L;split at h
    ·rename_i R;obtain⟨U,xs⟩:=p;obtain⟨qb,ys⟩:=q;have i:U=qb:=R;subst i;obtain⟨a,vs,rfl,N,G⟩:=dJ o hs F;obtain⟨a2,C,rfl,T,B⟩:=dJ l hs L;cases m;cases j;obtain⟨au,ao,P,_⟩:=eQ I N;obtain⟨x,g,f,_⟩:=eQ I T;refine G7 P f (by lia) ?_;have:=IP I hs (A:=A) (n:=n) (by lia) (λam r2 y K h=>Ch I hs n (A:=A.in1) (by show A.units+1+n<cLine;lia) am r2 y K h) G B ao g h;simpa using this
    ·cases h
   ·cases h
theorem lg(l:X.A.units+64<cLine):fP X (compareOp .Lt) (r2 X.K (b2 w8)):=by
 intro ag s σ H x y u w Q I f i h;obtain⟨mu,S,d,e,r,k,j,r2,c,a,hc⟩:=qu h;obtain⟨b,g,a⟩:=oM1.mp a;cases a;exact Ch I c fb (by show _+60<cLine;lia) j r2 f i g X.prog X.w X.xe _ ⟨.bl b,H,I,O,hc.now (.bl b) c⟩
end
inductive Ty where
 |int|bool|str|tuple|list|dict
 deriving DecidableEq
def Ty.nm:Ty->String
 | .int=>"int" | .bool=>"bool" | .str=>"str" | .tuple=>"tuple" | .list=>"list" | .dict=>"dict"
noncomputable def mO (S:dr)(T:Ty):D->Option Bool
 | .non=>some false
 | .bl _=>some (decide (T = .bool)||decide (T = .int))
 | .int _=>some (decide (T = .int))
 | .str _=>some (decide (T = .str))
 | .tup _=>some (decide (T = .tuple))
 | .rol _=>some (decide (T = .list))
 | .ref n=>match S[n]? with
  |some (.lst _)=>some (decide (T = .list))
  |some (.dct _)=>some (decide (T = .dict))
  |some (.dcT _)=>some (decide (T = .dict))
  |_=>none
 | .fn _=>none
def gy(T:Ty)(m:FE):FE:=λr S=>(m r S).bind λp=>(mO p.2 T p.1).map λb=>(.bl b,p.2)
section
variable{ag:List (c4×Obj)}{σ:L2.St}{H:Hp}{s:c3}{mu:List c4}{S:dr}{K:Fg1}
theorem E1(T:Ty):PySem.W.kitOne K (.type "NoneType") (.type T.nm)=Z J:=by cases T<;>rfl
theorem IX(T:Ty):PySem.W.kitOne K (.type "bool") (.type T.nm)=Z (decide (T = .bool)||decide (T = .int)):=by cases T<;>rfl
theorem E3(T:Ty):PySem.W.kitOne K (.type "int") (.type T.nm)=Z (decide (T = .int)):=by cases T<;>rfl
theorem EZ(T:Ty):PySem.W.kitOne K (.type "str") (.type T.nm)=Z (decide (T = .str)):=by cases T<;>rfl
theorem EY(T:Ty):PySem.W.kitOne K (.type "tuple") (.type T.nm)=Z (decide (T = .tuple)):=by cases T<;>rfl
theorem E2(T:Ty):PySem.W.kitOne K (.type "list") (.type T.nm)=Z (decide (T = .list)):=by cases T<;>rfl
theorem yj(T:Ty):PySem.W.kitOne K (.type "dict") (.type T.nm)=Z (decide (T = .dict)):=by cases T<;>rfl
theorem Fb{T:Ty}{d:D}{v:V}{u:cZ}{b:Bool}{Q:cZ->c3->Prop}{E:cZ->c3->Prop}(I:Inv X ag σ H s)(hs:Sim X.K H mu S)(r:eP X.K H mu d v)(f:dS v u)(h:mO S T d=some b)(q:∀ tk,Q (.bool b) {s with toks:=tk}):
  db (model X.prog X.w) X.A (call (.builtin "isinstance") [u,.type T.nm]) Q E s:=by
 have j:∀{k:Bool} {a:c4} {vs:List V},uf X.K k H a vs->b=(match k with|true=>decide (T = .list)|false=>decide (T = .tuple))->db (model X.prog X.w) X.A (call (.builtin "isinstance") [.ref a,.type T.nm]) Q E s:=λ{k a vs} g w=>by
  obtain⟨A,C,p,_⟩:=eQ I g;cases k
  ·obtain⟨o,e,c,_⟩:=p;subst w;exact PySem.W.kia_one PySem.W.kitx_tuple I.kIn ⟨o,e,c⟩ (EY T) (λz=>nomatch z) q
  ·obtain⟨o,e,c,_⟩:=p;subst w;exact PySem.W.kia_one PySem.W.kitx_list I.kIn ⟨o,e,c⟩ (E2 T) (λz=>nomatch z) q
 cases d with
 |non=>cases h;cases r;exact ju I f .non (E1 T) q
 |bl k=>cases h;cases r;exact ju I f (.bl k) (IX T) q
 |int i=>cases h;cases r;exact ju I f (.int i) (E3 T) q
 |str x=>cases h;cases r;exact ju I f (.str x) (EZ T) q
 |tup xs=>
  cases h;obtain⟨a,vs,rfl,g,t⟩:=dJ (S:=S) r hs O;cases f;exact j g O
 |fn x=>cases h
 |rol xs=>
  cases h;obtain⟨a,vs,rfl,g,t⟩:=dJ (S:=S) r hs O;cases f;exact j g O
 |ref n=>
  rw[mO]at h;split at h
  ·rename_i xs e;cases h;obtain⟨a,vs,rfl,g,t⟩:=dJ (S:=S) r hs (by rw[dQ,e]);cases f;exact j g O
  ·rename_i ks e;cases h;cases r with
   |ref m=>
    obtain⟨ws,l,_⟩:=hs.dct e m;exact ju I f (.dK l) (yj T) q
  ·rename_i ks e;cases h;cases r with
   | @ref _ a m=>
    cases(show u=Value.ref a from f);obtain⟨ws,l,_⟩:=hs.dcT e m;obtain⟨⟨_,_,o,_,_,y,B,_⟩,_⟩:=(show eL X.prog X.w H s.heap a (.ext (iX a ws))from I.hok a _ l);exact PySem.W.kia_one PySem.W.kitx_dict I.kIn ⟨o,y,B.1⟩ (yj T) (λz=>nomatch z) q
  ·cases h
theorem Dc(T:Ty):eM X (.builtin "isinstance") (λxs H Q=>∃x mu S d b,xs=[x,.ty T.nm]/\eP X.K H mu d x/\Sim X.K H mu S/\mO S T d=Z b/\Q (.bl b) H):=by
 intro ag s σ H xs i Q I r h;obtain⟨x,mu,S,d,b,rfl,f,e,a,hc⟩:=h;obtain⟨u,g,rfl,c,rt⟩:=AJ r;cases rt;exact Fb I e f c a λtk=>⟨.bl b,H,I.tok tk,O,hc⟩
theorem zA (T:Ty){e:Expr}{m:FE}{nm:Str}{p p2 pos:Pos}(hg:Gl X "isinstance")(hm:X.mg "isinstance"=none)(hg2:Gl X nm)(hm2:X.mg nm=none)(hv2:bootBuiltins nm=some (.type T.nm))(h:ME X e m)
  (hn:autoParam (nm≠"__name__") bu0) (hd:autoParam ((nm == ("__debug__":Str))=J) bu0)
  (hs1:autoParam (c9 [e,.Name nm p2] X.env=(J,eval e X.env)::c9 [.Name nm p2] X.env) cu0) (hs2:autoParam (c9 [.Name nm p2] X.env=(J,eval (.Name nm p2) X.env)::c9 [] X.env) cu0)
  (hpl:autoParam ((backTo pos (c9 [.Name nm p2] X.env)).any (·.1)=J) cu0):ME X (.Call (.Name "isinstance" p) [e,.Name nm p2] [] pos) (gy T m):=
 eO (pf (Dc T) hg hm (by decide+kernel) (kF h (kF (Em (v:=.ty T.nm) hg2 hm2 hv2 O hn hd) pj hs2) hs1) (by decide) (by decide) hs1 hpl) <| by
  rintro σ H Q ⟨r,mu,S,d,o,i,k,hm,hc⟩;obtain⟨⟨c,n⟩,f,hm⟩:=oB1.mp hm;obtain⟨b,j,hm⟩:=oM1.mp hm;cases hm;refine⟨r,mu,S,c,_,i,k,f,λv H1 mu1 l g a=>?_⟩;exact⟨v,mu1,_,c,b,O,g,a,j,hc _ H1 mu1 l (.bl b) a⟩
end
abbrev FO:=Ev->dr->Option (Option Int×dr)
def N3(K:Fg1)(m:FO):TO:=fun σ H Q=>∃r mu S o S',fG K H mu r σ/\Sim K H mu S/\m r S=Z (o,S') /\ ∀H' mu',Ext mu mu' H H'->Sim K H' mu' S'->Q o H'
abbrev MO(X:Cx)(e:Option Expr)(m:FO):Prop:=PO X e (N3 X.K m)
def fu:FO:=λ_ S=>Z (Y,S)
def eV(m:FE):FO:=λr S=>(m r S).bind λp=>match p.1 with
 | .int i=>Z (Z i,p.2)
 |_=>Y
def gl(xs:List D)(lo hi:Option Int):List D:=(xs.drop (HT.sIx xs.length 0 lo)).take (HT.sIx xs.length xs.length hi-HT.sIx xs.length 0 lo)
theorem EF:MO X Y fu:=by
 rintro ag s σ H Q I ⟨r,mu,S,o,c,d,a,b,hc⟩;cases b;exact Ed ag s σ H Q I (hc H mu (.refl _ _) a)
theorem EE{e:Expr}{m:FE}(h:ME X e m):MO X (Z e) (eV m):=by
 rintro ag s σ H Q I ⟨r,mu,S,o,n,g,j,a,hc⟩;obtain⟨⟨d,l⟩,b,a⟩:=oB1.mp a;cases d with
 |int i=>
  cases a;refine Ec h ag s σ H Q I ⟨r,mu,S,_,_,g,j,b,λv H1 mu1 k c f=>?_⟩;cases c;exact⟨i,O,hc H1 mu1 k f⟩
 |_=>cases a
theorem yH{K:Fg1}{H:Hp}{mu:List c4}{ds:List D}{vs:List V}(t:dI K H mu ds vs)(lo hi:Option Int):dI K H mu (gl ds lo hi) (vJ vs lo hi):=by
 unfold gl vJ;rw[<- t.length];exact(t.drop _).take _
def Kb(ta:TA):TE:=fun σ H Q=>ta σ H λvs H1=>∃j:Int,vs=[.int j] /\ ∀p,H1 p=Y->Q (.ref p) (upd H1 p (.rng 0 j))
theorem zq {a:Expr}{ta:TA}{p pos:Pos}(hg:Gl X "range")(hm:X.mg "range"=Y)(ha:PA X [a] ta)(hs:autoParam (c9 [a] X.env=[(J,eval a X.env)]) cu0):PE X (.Call (.Name "range" p) [a] [] pos) (Kb ta):=by
 intro ag s σ H Q I h;refine Call_ (j8 I hg hm boot_range (PyProof.Rows.callWith_type1 (fe (ha pos ag s σ H _ I h) λk f ⟨vs,H1,c,i,d⟩=>?_) hs O));obtain⟨j,e,q⟩:=d;subst e;cases i with
 |cons r g=>
  cases g;obtain⟨t,rfl⟩:=r;refine call_range_1 ⟨.ref f.heap.objs.size,_,c.laid (λb o e=>hP1 _ e) (nR1 _) (o:=.rng 0 j) ?_,O,q _ (c.hok.fresh (nR1 _))⟩;exact⟨_,_,_,hS1 _ O⟩
def nM(i:Int):Nat->List V
 |0=>[]
 |n+1=>.int i::nM (i+1) n
theorem oZ:∀(n:Nat) (i:Int),(nM i n).length=n
 |0,_=>rfl
 |n+1,i=>by rw[nM,lC1,oZ n]
theorem uH:∀(n:Nat) (i:Int) (k:Nat) (v:V),(nM i n)[k]?=Z v->v = .int (i+k)
 |0,i,k,v,h=>by simp[nM]at h
 |n+1,i,0,v,h=>by simp[nM]at h;rw[<- h];simp
 |n+1,i,k+1,v,h=>by
  rw[nM,gC1]at h;rw[uH n (i+1) k v h,show i+1+(k:Int)=i+((k+1:Nat):Int) by push_cast;lia]
theorem uG{K:Fg1}{H:Hp}{mu:List c4}:∀(n:Nat) (i:Int),dI K H mu (jo i n) (nM i n)
 |0,_=>.nil
 |n+1,i=>.cons (.int i) (uG n (i+1))
theorem xJ:∀{xs:List V} {a:List cZ},xs.length=a.length->(∀(i:Nat) x u,xs[i]?=Z x->a[i]?=Z u->dS x u)->d4 xs a
 |[],[],_,_=>.nil
 |x::xs,u::a,h,f=>.cons (f 0 x u O O) (xJ (by simpa using h) λi y w h1 h2=>f (i+1) y w (by simpa using h1) (by simpa using h2))
 |[],_::_,h,_=>by simp at h
 |_::_,[],h,_=>by simp at h
theorem FL(hc:X.calm=M):eM X (.type "list") (λxs H Q=>∃p i j,xs=[.ref p]/\H p=Z (.rng i j)/\(-(2^62)<=i/\i<2^62 /\ -(2^62)<=j/\j<2^62)/\(j-i).toNat<=2^20 /\ ∀l,H l=Y->Q (.ref l) (upd H l (.lst (nM i (j-i).toNat)))):=by
 intro ag s σ H xs F Q I r h;obtain⟨p,i,j,rfl,o,⟨h1,h2,w,y⟩,f,q⟩:=h;obtain⟨u,rfl,A⟩:=io r;cases A;obtain⟨t,u,v,e⟩:=I.hok p _ o;have z:(((j-i).toNat:Nat):Int)=Builtin.Range.rangeSize i j 1:=by rw[rangeSize_one];split<;>lia
 refine call_list_range (n:=(j-i).toNat) (I.ok.hd hc) e (small_one h1 h2 w y) z.symm (aC f (by decide)) λh' tk a B C g hi=>?_;obtain⟨d,c⟩:=hi;have b:d4 (nM i (j-i).toNat) a.toList:=xJ (by rw[oZ];simpa using d.symm) λk x u m E=>by
  rw[uH _ _ _ _ m];obtain⟨D,rfl⟩:=c k u (by simpa using E);exact⟨D,by rw[Int.mul_one]⟩
 refine⟨.ref s.heap.objs.size,_,I.laid (t':=tk) C (nR1 _) (show eL X.prog X.w _ h' _ (.lst (nM i (j-i).toNat))from⟨?_,a.toList,B,b,by simpa using g⟩),O,q _ (I.hok.fresh (nR1 _))⟩;rw[oZ];exact aC f (by decide)
def xX(i j:Int):Bool:=decide (-(2^62)<=i)&&decide (i<2^62)&&decide (-(2^62)<=j)&&decide (j<2^62)&&decide ((j-i).toNat<=2^20)
def wU(m:FA):FE:=λr S=>(m r S).bind λp=>match p.1 with
 |[.int j]=>if xX 0 j=M then Z (.ref p.2.length,p.2++[.lst (jo 0 j.toNat)])else Y
 |_=>Y
theorem uI{i j:Int}(h:xX i j=M):(-(2^62)<=i/\i<2^62 /\ -(2^62)<=j/\j<2^62)/\(j-i).toNat<=2^20:=by
 unfold xX at h;simp only[bA1,al]at h;obtain⟨⟨⟨⟨h1,h2⟩,c⟩,b⟩,a⟩:=h;exact⟨⟨h1,h2,c,b⟩,a⟩
theorem IR{K:Fg1}{mu:List c4}{H H1:Hp}{S1:dr}{i j:Int}{Q:VK}{mu1:List c4}(c:Ext mu mu1 H H1)(a:Sim K H1 mu1 S1)(hc:uh K mu H (.ref S1.length) (S1++[.lst (jo i (j-i).toNat)]) Q){p l:c4}(hp:H1 p=none)(b:upd H1 p (.rng i j) l=none):
  Q (.ref l) (upd (upd H1 p (.rng i j)) l (.lst (nM i (j-i).toNat))):=
 hc _ _ (mu1++[l]) ((c.trans (Ext.fresh hp)).trans (Ext.new_ b)) (.ref (gh a.len l)) ((a.fresh hp).newL (uG _ _) b)
theorem zz {a:Expr}{m:FA}{f p2 b c:Pos}(hc:X.calm=true)(hg:Gl X "range")(hm:X.mg "range"=none)(hg2:Gl X "list")(hm2:X.mg "list"=none)(ha:MA X [a] m)(hs:autoParam (c9 [a] X.env=[(false,eval a X.env)]) cu0)
  (hs2:autoParam (c9 [.Call (.Name "range" f) [a] [] b] X.env=[(J,eval (.Call (.Name "range" f) [a] [] b) X.env)]) cu0):ME X (.Call (.Name "list" p2) [.Call (.Name "range" f) [a] [] b] [] c) (wU m):=
 eO (mF (FL hc) hg2 hm2 (by decide+kernel) (kF (zq hg hm ha hs) pj hs2) (by decide) (by decide) hs2) <| by
  rintro σ H Q ⟨r,mu,S,d,w,q,hs,hm,e⟩;obtain⟨⟨ds,u⟩,h,hm⟩:=oB1.mp hm;dsimp only at hm;split at hm
  ·rename_i j;split at hm
   ·rename_i g;cases hm;refine⟨r,mu,S,_,_,q,hs,h,λvs H1 mu1 t i n=>?_⟩;obtain⟨v,rfl,s⟩:=o5 i;cases s;refine⟨j,O,λp k=>⟨p,0,j,O,d8,(uI g).1,(uI g).2,λl o=>IR t n (by rw[Int.sub_zero];exact e) k o⟩⟩
   ·cases hm
  ·cases hm
def kY:G2:=λo v S=>match o with
 | .ref n=>match S[n]? with
  |some (.lst xs)=>if xs.length<da then Z (.non,S.set n (.lst (xs++[v])))else Y
  |_=>Y
 |_=>Y
def CK:G2:=λo i S=>match o,i with
 | .ref n,.int k=>match S[n]? with
  |some (.lst xs)=>if-(2^63)<=k/\k<2^63 then(wX xs.length k).bind λj=>(xs[j]?).map λy=>(y,S.set n (.lst (xs.eraseIdx j)))else Y
  |_=>Y
 |_,_=>Y
noncomputable def uj (f:FN)(o:FE)(a:FA):FE:=λr S=>(o r S).bind λp=>match p.1 with
 | .ref n=>match p.2[n]? with
  |some (.lst _)=>(a r p.2).bind λq=>f (p.1::q.1) q.2
  |_=>none
 |_=>none
theorem J8:JM X "list.append" (λx xs H Q=>rN X.K (b2 kY) (x::xs) H Q):=by
 intro ag s σ H x xs v l Q I g k h;obtain⟨p,y,mu,S,d,e,r,q,o,m,r2,f,a,hc⟩:=Bf h;cases o;cases d with
 |ref n=>
  rw[kY]at a;split at a
  ·rename_i ys i;split at a
   ·rename_i j;cases a;cases m with
    |ref b=>
     obtain⟨vs,c,t⟩:=f.lst i b;refine rL ag s σ H _ [y] v l Q I g k ⟨_,vs,y,O,O,c,by rw[<- t.length];exact j,?_⟩;exact hc _ _ mu (Ext.put c trivial (gM1 b)) .non (f.putL (t.append (.cons r2 .nil)) b c)
   ·cases a
  ·cases a
 |_=>cases a
theorem J4:JM X "list.pop" (λx xs H Q=>rN X.K (b2 CK) (x::xs) H Q):=by
 intro ag s σ H x xs v r Q I l q h;obtain⟨D,y,mu,S,d,e,F,E,B,A,r2,i,a,hc⟩:=Bf h;cases B;unfold CK at a;split at a
 ·rename_i n k;split at a
  ·rename_i ys m;split at a
   ·rename_i g;obtain⟨j,o,a⟩:=oB1.mp a;obtain⟨z,C,a⟩:=oM1.mp a;cases a;cases A with
    |ref c=>
     cases r2;obtain⟨vs,f,t⟩:=i.lst m c;obtain⟨w,p,b⟩:=t.get C;refine B2 ag s σ H _ [.int k] v r Q I l q ⟨_,vs,k,j,w,O,O,f,g.1,g.2,?_,p,?_⟩
     ·rw[<- t.length];exact(tJ o).1
     ·have x:=Ext.put (u:=.lst (vs.eraseIdx j)) f trivial (gM1 c);exact hc _ _ mu x (b.ext x) (i.putL (t.eraseIdx j) c f)
   ·cases a
  ·cases a
 ·cases a
theorem B9 {o e:Expr}{es:List Expr}{m:FE}{a:FA}{f:FN}{name:Str}{apos cpos:Pos}{id:String}(slot:Slot "list" name id)(hty:typeOf (.builtin id)=pure (.type "method_descriptor"))(hm:JM X id (fun x xs H Q=>rN X.K f (x::xs) H Q))(ho:ME X o m)(ha:MA X (e::es) a)
  (hbase:autoParam (attributeBase o name X.env (eval o X.env)=eval o X.env) cu0)
  (hfew:autoParam (((backTo cpos (c9 (e::es) X.env)).all (λx=> !x.1)&&(backToKw cpos (keywordEach [] X.env)).all (λx=>x.1.isSome)&&decide ((e::es).length+([]:List Keyword).length+(if([]:List Keyword).isEmpty then 0 else 1)<30))=M) cu0)
  (hline:autoParam ((apos.endLine == cpos.line)=M) cu0) (hs:autoParam (c9 (e::es) X.env=(J,eval e X.env)::c9 es X.env) cu0) (hplain:autoParam ((backTo cpos (c9 es X.env)).any (·.1)=J) cu0):
  ME X (.Call (.Attribute o name apos) (e::es) [] cpos) (uj f m a):=
 eO (KE PySem.F.plainAttrs_list slot hty hm ho ha hbase hfew hline hs hplain) <| by
  rintro σ H Q ⟨r,mu,S,d,C,j,hs,hm,hc⟩;obtain⟨⟨g,p⟩,q,hm⟩:=oB1.mp hm;refine⟨r,mu,S,g,p,j,hs,q,λv H1 mu1 i h k=>?_⟩;cases g with
  |ref n=>
   dsimp only at hm;split at hm
   ·rename_i xs u;obtain⟨⟨ds,l⟩,y,hm⟩:=oB1.mp hm;refine⟨?_,r,mu1,p,ds,l,j.ext i,k,y,λvs H2 b x2 r2 w=>?_⟩
    ·cases h with
     |ref s=>
      obtain⟨vs,A,t⟩:=k.lst u s;exact .inl ⟨O,vs,m4.of A⟩
    ·exact⟨b,l,.ref n::ds,d,C,.cons (h.ext x2) r2,w,hm,λB z c D=>hc B z c ((i.trans x2).trans D)⟩
   ·cases hm
  |_=>cases hm
theorem D9{X:Cx}(hc:X.calm=true){elt tg iter:Expr}{ifs:List Expr}{rest:List Comprehension}{scope:dj}{pos n N:Pos}{y:Str}{i:Nat}{T:List Str}{keep:List Nat}{t:List (Str×c4)}{wi:TI}{g:TG}{ti:TT}{tb:c4->TS}{emit:cZ->Env->Sem Unit}(W:swapsWith (.ListComp elt (⟨tg,iter,ifs,0⟩::rest) scope pos) (some (.Name y N)) n.line X.env=pure true)(eq:∀it w k,compTurn (.ListComp elt (⟨tg,iter,ifs,0⟩::rest) scope pos) 0 it w k=uv iter.pos tg ifs it k (emit w k) (.compLoop (.ListComp elt (⟨tg,iter,ifs,0⟩::rest) scope pos) 0 it w k))(C:L0 X scope T keep)(K:kZ X.env.cells scope.names []=some t)(hi:PI X tg iter wi)(hb:∀s H d p,PG (cxC X scope t T keep s H d) tg g/\re (cxC X scope t T keep s H d) ifs ti/\PU (cxC X scope t T keep s H d) (emit (.ref p) (cxC X scope t T keep s H d).env) (tb p))(hN:X.N.Nodup)(hy:X.N[i]?=some y)(hx:xC X.env.scope y)(hf:X.fn y=true\/X.env.scope.names.lookup y=some .local)(hs:autoParam (∀x,foldedSetIterable iter X.env x=pure x) du0):
  PS X (.Assign [.Name y N] (.ListComp elt (⟨tg,iter,ifs,0⟩::rest) scope pos) n) (AZ (AX T.length keep wi g ti tb) (yx i)):=by
 intro ag s σ H D I h;rw[exec_Assign_Name_used _ _ _ _ W];refine wB1 (wpAny_standAt (wB1 ?_));show db _ X.A (do let _<-comprehension (.ListComp elt (⟨tg,iter,ifs,0⟩::rest) scope pos) scope X.env _ (newList []) J (eval iter X.env) (Z (assign (.Name y N) X.env))) _ _ s;refine wB1 (wpAny_mono (wpAny_comprehension_free (use:=Z (assign (.Name y N) X.env)) (Q:=λ_ s'=>SP X ag D .next s') O hs (C5 K) C.kind C.names ?_) (λ_ s' hq=>wP1 (wP1 hq)) λ_ _ e=>e);refine fe (hi ag s σ H _ I h) λv s1 h1=>fe h1 λitv a h2=>?_;obtain⟨it,d,tn,am,H2,rfl,I2,TT,ao,f2,q2⟩:=h2;refine wO1 ?_;have A:Inv X ag σ (upd H2 a.heap.objs.size (.lst [])) {a with heap:=a.heap.push {cls:=.type "list",data:=.seq ([]:List cZ).toArray}}:=I2.lnew (t':=a.toks) .nil (br _);have old:∀b∈d,∃o,a.heap.get? b=Z o:=λb hb=>by
  obtain⟨o,e,_⟩:=TT.obj 0 a.heap ao b hb;exact⟨o,e⟩
 have S:∀b∈d,b≠a.heap.objs.size:=λb hb z=>by
  obtain⟨o,e⟩:=old b hb;have:=hL1 e;rw[z]at this;exact az _ this
 have au:∀b∈d,k4 X ag (upd H2 a.heap.objs.size (.lst [])) b:=λb hb=>⟨by rw[d0 (S b hb)];exact(f2 b hb).1,(f2 b hb).2⟩;have o3:∀b∈d,∃o,({a with heap:=a.heap.push {cls:=.type "list",data:=.seq ([]:List cZ).toArray}}:c3).heap.get? b=Z o:=λb hb=>by
  obtain⟨o,e⟩:=old b hb;exact⟨o,hP1 _ e⟩
 have P:=vm A C K au o3;obtain⟨hg,aq,he⟩:=hb {a with heap:=a.heap.push {cls:=.type "list",data:=.seq ([]:List cZ).toArray}} (upd H2 a.heap.objs.size (.lst [])) d a.heap.objs.size;refine lh ?_;have f4:∀b∈d,k4 (cxC X scope t T keep {a with heap:=a.heap.push {cls:=.type "list",data:=.seq ([]:List cZ).toArray}} (upd H2 a.heap.objs.size (.lst [])) d) [] (upd H2 a.heap.objs.size (.lst [])) b:=λb hb=>
  ⟨(au b hb).1,(P.ok.exf b hb).1,P.ok.exfs b hb,.inl hb,(P.ok.exf b hb).2,λp E=>absurd (show p∈([]:List (c4×Obj))from E) (by simp)⟩
 have F:tn 0 (pushCells ((a.heap.push {cls:=.type "list",data:=.seq ([]:List cZ).toArray}).push {cls:=.type "dict",data:=.dict #[]}) scope.names):=
  TT.keep 0 a.heap _ ao λb hb o e=>pushCells_keeps scope.names _ b o (hP1 _ (hP1 _ e))
 have l:=sj (X:=cxC X scope t T keep {a with heap:=a.heap.push {cls:=.type "list",data:=.seq ([]:List cZ).toArray}} (upd H2 a.heap.objs.size (.lst [])) d) O hc (eq (.ref it) (.ref a.heap.objs.size) _) TT hg aq he P F f4
  (q2 a.heap.objs.size (I2.hok.fresh (nR1 _)))
 refine codeAny_mono (codeAny_compStart_list l (TT.self X.A 0 _ _ _ F l)) λr s' hr=>?_;cases r with
 |error e=>exact hr.elim
 |ok f=>
  obtain⟨σ',H',B,q'⟩:=hr;have J1:Inv X ag σ H' s':=A.call' (s':=s') (ch:=d) B.os B.base B.hok B.bare λb hb=>(au b hb).2.2.2 |> λz=>⟨z.1,(au b hb).2.1,z.2.1,z.2.2⟩
  -- the block's own dict is kept aside
  obtain⟨m,hn,_⟩:=id B.loc;obtain⟨R,es,ep,eC,dC,rC⟩:=id hn;have hCz:(a.heap.push {cls:=.type "list",data:=.seq ([]:List cZ).toArray}).get? (a.heap.push {cls:=.type "list",data:=.seq ([]:List cZ).toArray}).objs.size=Y:=Heap.get?_none_of_le (nR1 _);have G:(a.heap.push {cls:=.type "list",data:=.seq ([]:List cZ).toArray}).objs.size≠X.env.locals:=λz=>by
   have:=A.lt;rw[<- z]at this;exact az _ this
  have U:H' (a.heap.push {cls:=.type "list",data:=.seq ([]:List cZ).toArray}).objs.size=Y:=B.free;have J2:Inv X (ag++[((a.heap.push {cls:=.type "list",data:=.seq ([]:List cZ).toArray}).objs.size,R)]) σ H' s':=J1.pins_of λp E=>by
   rcases aF.mp E with z|z
   ·exact J1.pin p (mA1 _ z)
   ·have z':p=((a.heap.push {cls:=.type "list",data:=.seq ([]:List cZ).toArray}).objs.size,R):=by simpa using z
    subst z';exact⟨eC,U,G,A.nofs (nR1 _),λv q=>by rw[dC]at q;cases q⟩
  refine fe (x0 hN hy hx hf _ s' σ H' (.ref a.heap.objs.size) (.ref a.heap.objs.size) D.nx J2 O q') λ_ s5 ⟨L,H5,J5,q5⟩=>?_;obtain⟨e5,n5,_⟩:=J5.pin ((a.heap.push {cls:=.type "list",data:=.seq ([]:List cZ).toArray}).objs.size,R) (mA1 _ (mA1 _ mS1));refine⟨m,⟨R,es,ep,e5,dC,rC⟩,λh' wq=>?_⟩;have J6:Inv X ag L H5 s5:=J5.unpinned;refine⟨L,H5,J6.turned (t':=s5.toks) (λb o hb e=>(wq.2 b hb).trans e) n5 G (.inr ?_) (λx c u z=>?_) (λp E z=>?_),q5⟩
  ·exact A.sz
  ·obtain⟨w',zc⟩:=A.cell x c u;have j:=zc.lt;rw[z]at j;exact az _ j
  ·obtain⟨V,_⟩:=A.pin p E;have j:=hL1 V;rw[z]at j;exact az _ j
theorem Jy{K:Fg1}{te:TE}{m:FE}{i:Nat}(hm:∀ σ H Q,tM K m σ H Q->te σ H Q){E:kq}{σ:L2.St}{H:Hp}(h:xP K (dH m (gN i)) E σ H):AZ te (yx i) E σ H:=by
 obtain⟨r,mu,S,d,j,h1,h2,b,g⟩:=tH h;refine hm _ _ _ ⟨r,mu,S,d,j,h1,h2,b,λv H' mu' p l c=>?_⟩;obtain⟨r2,a,t,u,s,q,e,n,f,k,o⟩:=g v H' mu' p l c;cases k;exact o _ H' a (.refl _ _) (e.set f) n
theorem mv (i:Nat){x:Str}{pos:Pos}(hN:autoParam (X.N[i]? = some x) cu0)(hv:autoParam (Vis X.env.scope x) au0)(hd:autoParam ((x == ("__debug__":Str))=false) bu0)(hcd:autoParam ((x == ("__classdict__":Str))=false) bu0):
  ME X (.Name x pos) (mV i):=IB i hN hv hd hcd
def Own(P:c5)(w:c7)(K:Fg1)(mg:Str->Option cZ)(base:df)(k:Nat)(x:Str)(n:Nat)(m:FN):Prop:=
 ∃(f:c4) (fd:dg) (ps:List Str),m6 P w K mg base vW k f fd ps (spM K n m)/\ku K fd ps []/\wK1 K (.ref f)=M/\mg x=Z (.ref f)
theorem IE {X:Cx}{k k' n:Nat}{x:Str}{m:FN}{p pos:Pos}{e:Expr}{es:List Expr}{a:FA}(h:Own X.prog X.w X.K X.mg X.base k x n m)(hr:ge k' X.A)(hk:k<=k')(hg:Gl X x)(ha:MA X (e::es) a)(hdb:autoParam ((x == ("__debug__":Str))=false) bu0)
  (he:autoParam (c9 (e::es) X.env=(J,eval e X.env)::c9 es X.env) cu0) (hpl:autoParam ((backTo pos (c9 es X.env)).any (·.1)=J) cu0):ME X (.Call (.Name x p) (e::es) [] pos) (mN (dv n m) a):=by
 obtain⟨f,fd,ps,F,b,kp,c⟩:=h;exact EN F (hr.mono hk) hg c kp b ha hdb he hpl
theorem HK{P:c5}{w:c7}{K:Fg1}{mg:Str->Option cZ}{base:df}{x a:Str}{st:di}{f:c4}{fd:dg}{N ps:List Str}{k n:Nat}{b:FS}(F:yY K x a st f fd)(hb:ku K fd ps [])(hm:mg x=some (.ref f))(S:hC N ps (dX st))(hn:ps.length=n)(c:∀(e:cZ) (A:c6) (d:List Env) (s:c3) (H:Hp) (E:XK),ge k (A.deeper (envOfC a (dX st) s.heap.objs.size f e)) ->
   Ap (nV vW P w K mg base N a (dX st) f e A d s H E).nox (fA st) b):Own P w K mg base (k+1) x n (gH N.length b):=by
 subst hn;exact⟨f,fd,ps,Ln F S c,hb,F.kp,hm⟩
def CGl(K:Fg1)(mg:Str->Option cZ)(x:Str)(d:D):Prop:=∃(v:V) (u:cZ),mg x=Z u/\dS v u /\ ∀H mu,eP K H mu d v
theorem EM {X:Cx}{x:Str}{d:D}{pos:Pos}(h:CGl X.K X.mg x d)(hg:Gl X x)(hd:autoParam ((x == ("__debug__":Str))=J) bu0):ME X (.Name x pos) (mC d):=by
 obtain⟨v,u,a,r,q⟩:=h;exact Cc d (Eh hg a r hd) q
def fU:List Bool->Ev->Ev
 |true::bs,o::r=>o::fU bs r
 |false::bs,_::r=>Y::fU bs r
 |[],_::r=>Y::fU [] r
 |_,[]=>[]
def jM:Ev->Bool
 |[]=>M
 |none::r=>jM r
 |some d::r=>d.und 0&&jM r
noncomputable def py (ki ko:List Bool)(b:FS):FS:=fun r S=>if jM (fU ki r)=true then
  (b (fU ki r) []).bind λp=>match p.1 with
   | .rt d=>if d.und 0=true then some (.rt d,[],S)else none
   |f=>if jM (fU ko p.2.1)=true then some (f,fU ko p.2.1,S)else none
 else none
theorem kH:∀(bs:List Bool) (r:Ev),(fU bs r).length=r.length
 |true::bs,o::r=>congrArg (· + 1) (kH bs r)
 |false::bs,o::r=>congrArg (· + 1) (kH bs r)
 |[],o::r=>congrArg (· + 1) (kH [] r)
 |[],[]=>rfl
 |true::_,[]=>rfl
 |false::_,[]=>rfl
theorem kI:∀(bs:List Bool) (r:Ev) (i:Nat) (d:D),(fU bs r)[i]?=Z (Z d)->r[i]?=Z (Z d)
 |true::bs,o::r,0,d,h=>h
 |true::bs,o::r,i+1,d,h=>by
  rw[gC1];exact kI bs r i d (by rw[fU,gC1]at h;exact h)
 |false::bs,o::r,0,d,h=>by simp[fU]at h
 |false::bs,o::r,i+1,d,h=>by
  rw[gC1];exact kI bs r i d (by rw[fU,gC1]at h;exact h)
 |[],o::r,0,d,h=>by simp[fU]at h
 |[],o::r,i+1,d,h=>by
  rw[gC1];exact kI [] r i d (by rw[fU,gC1]at h;exact h)
 |[],[],i,d,h=>by simp[fU]at h
 |true::_,[],i,d,h=>by simp[fU]at h
 |false::_,[],i,d,h=>by simp[fU]at h
theorem mD:∀(r:Ev) (i:Nat) (d:D),jM r=M->r[i]?=Z (Z d)->d.und 0=M
 |none::r,0,d,_,h=>by simp at h
 |none::r,i+1,d,hs,h=>mD r i d hs (by simpa using h)
 |some e::r,0,d,hs,h=>by
  rw[jM,bA1]at hs;simp at h;subst h;exact hs.1
 |some e::r,i+1,d,hs,h=>by
  rw[jM,bA1]at hs;exact mD r i d hs.2 (by simpa using h)
theorem fG.mask{K:Fg1}{H:Hp}{mu mu':List c4}{r:Ev}{σ:L2.St}{bs:List Bool}(h:fG K H mu r σ)(hs:jM (fU bs r)=M):fG K H mu' (fU bs r) σ:=
 ⟨by rw[kH];exact h.len,λi d e=>by
  obtain⟨v,a,b⟩:=h.val i d (kI bs r i d e);exact⟨v,a,b.cut (n:=0) (λk c=>absurd c (bF _)) (mD _ i d hs e)⟩⟩
theorem Ce{K:Fg1}{l q:List Bool}{b:FS}{E:kq}{σ:L2.St}{H:Hp}(h:xP K (py l q b) E σ H):xP K b E σ H:=by
 obtain⟨r,mu,S,f,C,B,u,j,c,hc⟩:=h;unfold py at c;split at c
 ·rename_i w;obtain⟨⟨m,A,t⟩,p,c⟩:=oB1.mp c;refine⟨fU l r,[],[],m,A,t,u.mask w,.nil,p,?_⟩;have back:∀{H':Hp} {mu':List c4},Ext [] mu' H H'->Ext mu mu H H':=λ{H' mu'} x=>⟨bv,λa o e _=>x.old a o e (by simp),x.tup,x.frz,λ_ z=>.inl z⟩;have keep:∀{H':Hp} {mu':List c4},Ext [] mu' H H'->Sim K H' mu S:=λ{H' mu'} x=>⟨j.len,j.nd,λn o a h1 h2=>(j.ob n o a h1 h2).keep (back x) λo e=>x.old a o e (by simp)⟩;cases m with
  |rt d=>
   dsimp only at c;split at c
   ·rename_i i;cases c;exact λv H' mu' x r s=>hc v H' mu (back x) (r.cut (n:=0) (λk y=>absurd y (bF _)) i) (keep x)
   ·cases c
  |nx=>
   dsimp only at c;split at c
   ·rename_i i;cases c;exact λg H' mu' x r s=>hc g H' mu (back x) (r.mask i) (keep x)
   ·cases c
  |bk=>
   dsimp only at c;split at c
   ·rename_i i;cases c;exact λg H' mu' x r s=>hc g H' mu (back x) (r.mask i) (keep x)
   ·cases c
  |ct=>
   dsimp only at c;split at c
   ·rename_i i;cases c;exact λg H' mu' x r s=>hc g H' mu (back x) (r.mask i) (keep x)
   ·cases c
 ·cases c
theorem B3{X:Cx}{sts:List di}{b:FS}(a c:List Bool)(h:Ap X sts b):Ap X sts (py a c b):=sS h λ_ _ _=>Ce
def CV(K:Fg1)(d:D)(u:cZ):Prop:=∃v:V,dS v u /\ ∀H mu,eP K H mu d v
def Mm(K:Fg1)(ds:List D)(us:List cZ):Prop:=∃vs:List V,d4 vs us /\ ∀H mu,dI K H mu ds vs
section
variable{K:Fg1}
theorem tW{i:Int}{t}:CV K (.int i) (.int i t):=⟨.int i,⟨t,O⟩,λ_ _=>.int i⟩
theorem tV{x:Str}{t}:CV K (.str x) (.str x t):=⟨.str x,⟨t,O⟩,λ_ _=>.str x⟩
theorem mh:Mm K [] []:=⟨[],.nil,λ_ _=>.nil⟩
theorem fD{d:D}{u:cZ}{ds:List D}{a:List cZ}(h:CV K d u)(t:Mm K ds a):Mm K (d::ds) (u::a):=by
 obtain⟨v,r,q⟩:=h;obtain⟨vs,rs,b⟩:=t;exact⟨v::vs,.cons r rs,λH mu=>.cons (q H mu) (b H mu)⟩
theorem pX {a:c4}{d:Option c4}{b:List cZ}{n:Nat}{sl:Array (Option cZ)}{ds:List D}(h:K.lookup a=Z ⟨.type "tuple",d,.seq b.toArray n,sl⟩)(hs:b.length<=da)(t:Mm K ds b):CV K (.tup ds) (.ref a):=by
 obtain⟨vs,rs,c⟩:=t;exact⟨.ref a,O,λH mu=>.tup (.inr ⟨_,b.toArray,n,h,O,O,by simpa using hs,by simpa using rs⟩) (c H mu)⟩
theorem Jo{mg:Str->Option cZ}{x:Str}{d:D}{u:cZ}(hm:mg x=Z u)(h:CV K d u):CGl K mg x d:=by
 obtain⟨v,r,q⟩:=h;exact⟨v,u,hm,r,q⟩
end
theorem kE{K:Fg1}{H:Hp}{mu:List c4}:∀ns:List Int,dI K H mu (ns.map D.int) (ns.map V.int)
 |[]=>.nil
 |n::ns=>.cons (.int n) (kE ns)
theorem IW{K:Fg1}{m:FN}(hm:∀ ns:List Int,ns.length<=63 -> ∃ S,m [.rol (ns.map D.int)] []=some (.bl true,S))(H:Hp)(a:c4)(ns:List Int)(d:ns.length<=63)(f:F6 H)(b:m4 K H a (ns.map V.int)):
  spM K 1 m [.ref a] H (λv _=>v = .bl M) λ_ _ _=>False:=by
 refine⟨O,?_⟩;obtain⟨S,e⟩:=hm ns d;have c:RoL K H a (ns.map V.int):=by
  rcases b with h|h
  ·rcases h with h|h
   ·rcases f a with z|⟨o,xs,z⟩
    ·rw[h]at z;cases z
    ·rw[h]at z;cases z
   ·exact .inl h
  ·exact .inr h
 refine⟨[],[],[.rol (ns.map D.int)],.bl M,S,.cons (.rol c (kE ns)) .nil,.nil,e,λv H' mu' x r s=>?_⟩;cases r;rfl
theorem walk_m{l:PySem.W.OpenLaw}{q:c5}{b:List Str}{XP:(Str->Option cZ)->df->Prop}{e:c7->df->Prop}{d:DefRec}{K:Params->Fg1}{m:FN}{k:Nat}{x:Str}(hn:l.most=some 63)(c:d.params.defaults=[])(hr:ge k callerA)(j:∀(w:c7) (h:df),e w h->(K w.params).In h)(hm:∀ns:List Int,ns.length<=63 -> ∃S,m [.rol (ns.map D.int)] []=some (.bl true,S))(F:∀(w:c7) (mg:Str->Option cZ) (g:c4) (h:df),(K w.params).In h->h.Ns c8 mg->mg d.name=some (.ref g) ->
   ∃fd:dg,(∀(s:c3) (u:cZ),BindsTo s fd ⟨[u],[]⟩ [(x,u)]) /\ ∀base:df,(K w.params).In base->base.Ns c8 mg->m6 l.prog w (K w.params) mg base vW k g fd [x] (spM (K w.params) 1 m)):
  PySem.W.WalkO q b XP e l.row.toRowW d [] (λf vs=>PySem.call f vs):=
 L2.DJ (n:=63) (k:=k) (x:=x) (CX:=λ_=>vW) (sp:=λw=>spM (K w.params) 1 m) hn (by decide) c hr j F (λ_ H a ns o p i=>IW hm H a ns o p i) λ_ _ _ _ _ z=>z
structure XE (X:Cx)(e:Expr)(m:FE):Prop where
 h:ME X e m
structure XT (X:Cx)(e:Expr)(m:FT):Prop where
 h:MT X e m
structure XW (X:Cx)(e:Expr)(m:FT):Prop where
 h:MW X e m
structure XA (X:Cx)(e:List Expr)(m:FA):Prop where
 h:MA X e m
structure XS (X:Cx)(e:di)(m:FS):Prop where
 h:MS X e m
structure xr (X:Cx)(e:List di)(m:FS):Prop where
 h:Ap X e m
structure XI (X:Cx)(tg e:Expr)(m:FI):Prop where
 h:MI X tg e m
structure XG (X:Cx)(e:Expr)(m:FG):Prop where
 h:MG X e m
structure Mk (X:Cx)(e:List Expr)(m:Dr):Prop where
 h:LX X e m
structure XO (X:Cx)(e:Option Expr)(m:FO):Prop where
 h:MO X e m
structure XF (X:Cx)(K:Fg1)(ifs:List Expr)(t:FT):Prop where
 h:re X ifs (DM K t)
theorem d6{X:Cx}:XF X X.K [] d9:=⟨EH⟩
theorem hH{X:Cx}{c:Expr}{t:FT}(h:XT X c t):XF X X.K [c] t:=⟨EG h.h⟩
theorem yZ{X:Cx}{sts:List di}{b:FS}(a c:List Bool)(h:xr X sts b):xr X sts (py a c b):=⟨B3 a c h.h⟩
section
variable{pos:Pos}
theorem qK{i:Int}{j}:XE X (.Constant (.int i) j pos) (mC (.int i)):=⟨IJ⟩
theorem gf{b:Bool}{j}:XE X (.Constant (.bool b) j pos) (mC (.bl b)):=⟨K6⟩
theorem gB{j}:XE X (.Constant .none j pos) (mC .non):=⟨IH⟩
theorem dV{x:Str}{j}:XE X (.Constant (.str x) j pos) (mC (.str x)):=⟨ID⟩
end
section
variable{pos:Pos}{e:Expr}{es:List Expr}{m:FE}{n:FA}
theorem qN:XA X [] dq:=⟨IM⟩
theorem qA(h:XE X e m)(ht:XA X es n)(hs:autoParam (c9 (e::es) X.env=(J,eval e X.env)::c9 es X.env) cu0):XA X (e::es) (dn m n):=⟨EO (h:=h.h) (ht:=ht.h) (hs:=hs)⟩
end
section
variable{K:Fg1}{f:FN}{a b:FE}{σ:L2.St}{H:Hp}{Q:VK}
theorem qI{op:Operator}{x y:Expr}{pos:Pos}(ho:fP X (binaryOp op) (r2 X.K f))(hx:XE X x a)(hy:XE X y b):XE X (.BinOp x op y pos) (m2 f a b):=⟨K3 (ho:=ho) (hx:=hx.h) (hy:=hy.h)⟩
theorem lx{op:UnaryOp}{x:Expr}{pos:Pos}(ho:JT X (unaryOp op) (λx H Q=>rN X.K f [x] H Q))(hx:XE X x a):XE X (.UnaryOp op x pos) (m1 f a):=⟨K2 (ho:=ho) (hx:=hx.h)⟩
theorem Dy{op:CmpOp}{x y:Expr}{pos:Pos}(ho:fP X (compareOp op) (r2 X.K f))(hx:XE X x a)(hy:XE X y b)(hm:behindInMarks op y=J):XE X (.Compare x [op] [y] pos) (m2 f a b):=⟨IK (ho:=ho) (hx:=hx.h) (hy:=hy.h) (hm:=hm)⟩
theorem qJ{x y:Expr}{pos:Pos}(ho:GH X (r2 X.K f))(hx:XE X x a)(hy:XE X y b)(hs:oA y):XE X (.Subscript x y pos) (m2 f a b):=⟨K4 (ho:=ho) (hx:=hx.h) (hy:=hy.h) (hs:=hs)⟩
theorem qD {x:Str}{p pos:Pos}{e:Expr}{es:List Expr}{id:String}{a:FA}(hc:eM X (.builtin id) (rN X.K f))(hg:Gl X x)(hm:X.mg x=Y)(hv:bootBuiltins x=Z (.builtin id))(ha:XA X (e::es) a)(hn:autoParam (x≠"__name__") bu0)(hdb:autoParam ((x == ("__debug__":Str))=J) bu0)(he:autoParam (c9 (e::es) X.env=(J,eval e X.env)::c9 es X.env) cu0)(hpl:autoParam ((backTo pos (c9 es X.env)).any (·.1)=J) cu0):XE X (.Call (.Name x p) (e::es) [] pos) (mN f a):=⟨Cb (hc:=hc) (hg:=hg) (hm:=hm) (hv:=hv) (ha:=ha.h) (hn:=hn) (hdb:=hdb) (he:=he) (hpl:=hpl)⟩
theorem qE {x:Str}{p pos:Pos}{e:Expr}{es:List Expr}{T:String}{a:FA}(hc:eM X (.type T) (rN X.K f))(hg:Gl X x)(hm:X.mg x=Y)(hv:bootBuiltins x=Z (.type T))(ha:XA X (e::es) a)(hn:autoParam (x≠"__name__") bu0)(hdb:autoParam ((x == ("__debug__":Str))=J) bu0)(he:autoParam (c9 (e::es) X.env=(J,eval e X.env)::c9 es X.env) cu0)(hpl:autoParam ((backTo pos (c9 es X.env)).any (·.1)=J) cu0):XE X (.Call (.Name x p) (e::es) [] pos) (mN f a):=⟨zB (hc:=hc) (hg:=hg) (hm:=hm) (hv:=hv) (ha:=ha.h) (hn:=hn) (hdb:=hdb) (he:=he) (hpl:=hpl)⟩
end
section
variable{x y c:Expr}{rest:List Expr}{pos:Pos}{a b:FT}{f g:FE}
theorem qX{op:CmpOp}{f:FN}{a b:FE}(ho:fP X (compareOp op) (r2 X.K f))(hx:XE X x a)(hy:XE X y b)(hm:behindInMarks op y=J):XT X (.Compare x [op] [y] pos) (mB (m2 f a b)):=⟨Ik (ho:=ho) (hx:=hx.h) (hy:=hy.h) (hm:=hm)⟩
theorem iG(ha:XT X x a):XW X (.BoolOp .And [x] pos) a:=⟨Ey (ha:=ha.h)⟩
theorem jz(ha:XT X x a):XW X (.BoolOp .Or [x] pos) a:=⟨Ih (ha:=ha.h)⟩
theorem ix(ha:XT X x a)(hb:XW X (.BoolOp .And (y::rest) pos) b):XW X (.BoolOp .And (x::y::rest) pos) (mK a b):=⟨Ii (ha:=ha.h) (hb:=hb.h)⟩
theorem lv(ha:XT X x a)(hb:XW X (.BoolOp .Or (y::rest) pos) b):XW X (.BoolOp .Or (x::y::rest) pos) (wT a b):=⟨KZ (ha:=ha.h) (hb:=hb.h)⟩
theorem iZ(h:XW X x a):XT X x a:=⟨MZ (h:=h.h)⟩
theorem gA(ha:XT X x a):XT X (.UnaryOp .Not x pos) (iA a):=⟨Ij (ha:=ha.h)⟩
theorem i0{op}(h:XE X x f):XE X (.BoolOp op [x] pos) f:=⟨IF (h:=h.h)⟩
theorem gX(ha:XE X x f)(hb:XE X (.BoolOp .And (y::rest) pos) g):XE X (.BoolOp .And (x::y::rest) pos) (gx f g):=⟨IL (ha:=ha.h) (hb:=hb.h)⟩
theorem nZ(ha:XE X x f):XE X (.UnaryOp .Not x pos) (pz f):=⟨IG (ha:=ha.h)⟩
theorem lz(hc:XT X c a)(hx:XE X x f)(hy:XE X y g):XE X (.IfExp c x y pos) (vb a f g):=⟨K5 (hc:=hc.h) (hx:=hx.h) (hy:=hy.h)⟩
end
section
variable{x y z:Expr}{pos:Pos}{f g:FN}{a b c:FE}{op op':CmpOp}
theorem rg(ho:fP X (compareOp op) (r2 X.K f))(ho':fP X (compareOp op') (r2 X.K g))(hx:XE X x a)(hy:XE X y b)(hz:XE X z c)(hm:autoParam (lastMarks [op,op'] [y,z]=J) BE._auto_1):XE X (.Compare x [op,op'] [y,z] pos) (ER f g a b c):=⟨Ca (ho:=ho) (ho':=ho') (hx:=hx.h) (hy:=hy.h) (hz:=hz.h) (hm:=hm)⟩
end
section
variable{pos:Pos}{e c:Expr}{st:di}{rest as bs:List di}{a b:FS}{m:FE}{t:FT}
theorem qQ:xr X [] kJ:=⟨EA⟩
theorem qF(h1:XS X st a)(h2:xr X rest b):xr X (st::rest) (dG a b):=⟨B4 (h1:=h1.h) (h2:=h2.h)⟩
theorem qG(h1:XS X st a):xr X [st] a:=⟨Ez (h1:=h1.h)⟩
theorem oC(h:XE X e m)(hs:autoParam (swapsWith e Y pos.line X.env=pure J) cu0):XS X (.Expr e pos) (fj m):=⟨EC (h:=h.h) (hs:=hs)⟩
theorem qU(h:XE X e m):XS X (.Return (Z e) pos) (ee m):=⟨Im (h:=h.h)⟩
theorem qV(hc:XT X c t)(ha:xr X as a)(hb:xr X bs b):XS X (.If c as bs pos) (fg t a b):=⟨K1 (hc:=hc.h) (ha:=ha.h) (hb:=hb.h)⟩
end
section
variable{pos:Pos}
theorem qO(i:Nat){x:Str}(hN:X.N.Nodup)(hi:X.N[i]?=Z x)(hx:xC X.env.scope x)(hf:autoParam (X.fn x=M\/X.env.scope.names.lookup x=Z .local) au0):XG X (.Name x pos) (gN i):=⟨EL (i:=i) (hN:=hN) (hi:=hi) (hx:=hx) (hf:=hf)⟩
theorem fZ:Mk X [] i8:=⟨EJ⟩
theorem dP{e:Expr}{es:List Expr}{g:FG}{a:Dr}(h1:XG X e g)(h2:Mk X es a)(hs:autoParam ((assignEach (e::es) X.env).map (·.2)=assign e X.env::(assignEach es X.env).map (·.2)) cu0):Mk X (e::es) (eT g a):=⟨B6 (h1:=h1.h) (h2:=h2.h) (hs:=hs)⟩
theorem gW{es:List Expr}{k:Nat}{a:Dr}{n:Nat}(hc:X.calm=M)(h:Mk X es a)(hn:autoParam ((assignEach es X.env).length=n) cu0)(hst:autoParam ((assignEach es X.env).findIdx? (·.1)=Y) cu0):XG X (.Tuple es k pos) (gT n a):=⟨Iy (hc:=hc) (h:=h.h) (hn:=hn) (hst:=hst)⟩
theorem kA{o i:Expr}{a b:FE}{f:FN}(ho:XE X o a)(hi:XE X i b)(hs:xB X (rU X.K f))(ha:autoParam (∀ v,assign (.Subscript o i pos) X.env v=(do
   let ov<-holding [v] (eval o X.env)
   let iv<-holding [v,ov] (eval i X.env)
   standAt pos
   holding [v,ov,iv] (setItem ov iv v)
   release [v,ov,iv] [])) du0):XG X (.Subscript o i pos) (gS f a b):=⟨Iz (ho:=ho.h) (hi:=hi.h) (hs:=hs) (ha:=ha)⟩
theorem qR{tg e:Expr}{m:FE}{g:FG}(he:XE X e m)(hg:XG X tg g)(hs:autoParam (swapsWithSole [tg] e pos.line X.env=pure J) cu0)(hw:autoParam (swappedStores [tg] e X.env=pure Y) cu0)(h1:autoParam ((assignEach [tg] X.env).map (·.2)=[assign tg X.env]) cu0):XS X (.Assign [tg] e pos) (dH m g):=⟨Iq (he:=he.h) (hg:=hg.h) (hs:=hs) (hw:=hw) (h1:=h1)⟩
theorem qY(i:Nat){x:Str}{e:Expr}{m:FE}{pos':Pos}(hN:X.N.Nodup)(hi:X.N[i]?=Z x)(hx:xC X.env.scope x)(he:XE X e m)(hs:autoParam (swapsWith e (Z (.Name x pos')) pos.line X.env=pure J) cu0)(hf:autoParam (X.fn x=M\/X.env.scope.names.lookup x=Z .local) au0):XS X (.Assign [.Name x pos'] e pos) (dH m (gN i)):=⟨Il (i:=i) (hN:=hN) (hi:=hi) (hx:=hx) (he:=he.h) (hs:=hs) (hf:=hf)⟩
theorem Dx(i:Nat){x:Str}{e:Expr}{m:FE}{op:Operator}{f:FN}{pos':Pos}(hN:X.N.Nodup)(hi:X.N[i]?=Z x)(hx:xC X.env.scope x)(he:XE X e m)(ho:Ml X op (r2 X.K f))(hf:autoParam (X.fn x=M\/X.env.scope.names.lookup x=Z .local) au0):XS X (.AugAssign (.Name x pos') op e pos) (ES i f m):=⟨Ip (i:=i) (hN:=hN) (hi:=hi) (hx:=hx) (he:=he.h) (ho:=ho) (hf:=hf)⟩
end
section
theorem ms{X:Cx}{pos:Pos}(n:Nat){c:Expr}{a:List di}{t:FT}{b:FS}(hp:PassesOwn (model X.prog X.w) X.A X.env X.xe)(hc:XT X c t)(hb:xr X a b):XS X (.While c a [] pos) (ui t b n):=⟨B5 (n:=n) (hp:=hp) (hc:=hc.h) (hb:=hb.h)⟩
theorem qW{X:Cx}{pos:Pos}{tg iter:Expr}{a:List di}{m:FI}{g:FG}{b:FS}(hp:PassesOwn (model X.prog X.w) X.A X.env X.xe)(hc:X.calm=M)(hi:XI X tg iter m)(hg:XG X tg g)(hb:xr X a b)(hs:autoParam (∀x,foldedSetIterable iter X.env x=pure x) du0):XS X (.For tg iter a [] pos) (fC m g b):=⟨Io (hp:=hp) (hc:=hc) (hi:=hi.h) (hg:=hg.h) (hb:=hb.h) (hs:=hs)⟩
end
section
variable{es:List Expr}{pos:Pos}{a:FA}
theorem dF{x1}(h:XA X es a):XE X (.Tuple es x1 pos) (d7 a):=⟨IC (h:=h.h)⟩
theorem er(h:XA X es a):XE X (.List es pos) (eY a):=⟨II (h:=h.h)⟩
end
section
variable{tg:Expr}
theorem qd{e:Expr}{m:FE}(h:XE X e m):XI X tg e (eZ m):=⟨Ix (h:=h.h)⟩
theorem wa {a:Expr}{m:FA}{p pos:Pos}(hg:Gl X "range")(hm:X.mg "range"=Y)(ha:XA X [a] m)(hs:autoParam (c9 [a] X.env=[(J,eval a X.env)]) cu0):XI X tg (.Call (.Name "range" p) [a] [] pos) (nS m):=⟨zx (hg:=hg) (hm:=hm) (ha:=ha.h) (hs:=hs)⟩
theorem v9 {a b:Expr}{m:FA}{p pos:Pos}(hg:Gl X "range")(hm:X.mg "range"=Y)(ha:XA X [a,b] m)(hs:autoParam (c9 [a,b] X.env=[(J,eval a X.env),(J,eval b X.env)]) cu0)(hs2:autoParam (c9 [b] X.env=[(J,eval b X.env)]) cu0):XI X tg (.Call (.Name "range" p) [a,b] [] pos) (JR m):=⟨zw (hg:=hg) (hm:=hm) (ha:=ha.h) (hs:=hs) (hs2:=hs2)⟩
end
section
variable{tg:Expr}
variable{elts:List Expr}{k:Nat}{tpos:Pos}
theorem AC {a:Expr}{m:FA}{p pos:Pos}(hg:Gl X "enumerate")(hm:X.mg "enumerate"=Y)(ha:XA X [a] m)(hs:autoParam (c9 [a] X.env=[(J,eval a X.env)]) cu0):XI X (.Tuple elts k tpos) (.Call (.Name "enumerate" p) [a] [] pos) (Au m):=⟨EI (hg:=hg) (hm:=hm) (ha:=ha.h) (hs:=hs)⟩
theorem nY {a b:Expr}{m:FA}{p pos:Pos}(hg:Gl X "zip")(hm:X.mg "zip"=Y)(ha:XA X [a,b] m)(hs:autoParam (c9 [a,b] X.env=[(J,eval a X.env),(J,eval b X.env)]) cu0)(hs2:autoParam (c9 [b] X.env=[(J,eval b X.env)]) cu0):XI X (.Tuple elts k tpos) (.Call (.Name "zip" p) [a,b] [] pos) (CB m):=⟨Iw (hg:=hg) (hm:=hm) (ha:=ha.h) (hs:=hs) (hs2:=hs2)⟩
end
section
variable{ag:List (c4×Obj)}{σ:L2.St}{H:Hp}{s:c3}{mu:List c4}{S:dr}{K:Fg1}
theorem wb (T:Ty){e:Expr}{m:FE}{nm:Str}{p p2 pos:Pos}(hg:Gl X "isinstance")(hm:X.mg "isinstance"=Y)(hg2:Gl X nm)(hm2:X.mg nm=Y)(hv2:bootBuiltins nm=Z (.type T.nm))(h:XE X e m)(hn:autoParam (nm≠"__name__") bu0)(hd:autoParam ((nm == ("__debug__":Str))=J) bu0)(hs1:autoParam (c9 [e,.Name nm p2] X.env=(J,eval e X.env)::c9 [.Name nm p2] X.env) cu0)(hs2:autoParam (c9 [.Name nm p2] X.env=(J,eval (.Name nm p2) X.env)::c9 [] X.env) cu0)(hpl:autoParam ((backTo pos (c9 [.Name nm p2] X.env)).any (·.1)=J) cu0):XE X (.Call (.Name "isinstance" p) [e,.Name nm p2] [] pos) (gy T m):=⟨zA (T:=T) (hg:=hg) (hm:=hm) (hg2:=hg2) (hm2:=hm2) (hv2:=hv2) (h:=h.h) (hn:=hn) (hd:=hd) (hs1:=hs1) (hs2:=hs2) (hpl:=hpl)⟩
end
theorem eI:XO X Y fu:=⟨EF⟩
theorem eB{e:Expr}{m:FE}(h:XE X e m):XO X (Z e) (eV m):=⟨EE (h:=h.h)⟩
theorem ly {a:Expr}{m:FA}{d p2 b c:Pos}(hc:X.calm=M)(hg:Gl X "range")(hm:X.mg "range"=Y)(hg2:Gl X "list")(hm2:X.mg "list"=Y)(ha:XA X [a] m)(hs:autoParam (c9 [a] X.env=[(J,eval a X.env)]) cu0)(hs2:autoParam (c9 [.Call (.Name "range" d) [a] [] b] X.env=[(J,eval (.Call (.Name "range" d) [a] [] b) X.env)]) cu0):XE X (.Call (.Name "list" p2) [.Call (.Name "range" d) [a] [] b] [] c) (wU m):=⟨zz (hc:=hc) (hg:=hg) (hm:=hm) (hg2:=hg2) (hm2:=hm2) (ha:=ha.h) (hs:=hs) (hs2:=hs2)⟩
theorem qe {o e:Expr}{es:List Expr}{m:FE}{a:FA}{f:FN}{name:Str}{apos cpos:Pos}{id:String}(slot:Slot "list" name id)(hty:typeOf (.builtin id)=pure (.type "method_descriptor"))(hm:JM X id (λx xs H Q=>rN X.K f (x::xs) H Q))(ho:XE X o m)(ha:XA X (e::es) a)(hbase:autoParam (attributeBase o name X.env (eval o X.env)=eval o X.env) cu0)(hfew:autoParam (((backTo cpos (c9 (e::es) X.env)).all (λx=> !x.1)&&(backToKw cpos (keywordEach [] X.env)).all (λx=>x.1.isSome)&&decide ((e::es).length+([]:List Keyword).length+(if([]:List Keyword).isEmpty then 0 else 1)<30))=M) cu0)(hline:autoParam ((apos.endLine == cpos.line)=M) cu0)(hs:autoParam (c9 (e::es) X.env=(J,eval e X.env)::c9 es X.env) cu0)(hplain:autoParam ((backTo cpos (c9 es X.env)).any (·.1)=J) cu0):XE X (.Call (.Attribute o name apos) (e::es) [] cpos) (uj f m a):=⟨B9 (slot:=slot) (hty:=hty) (hm:=hm) (ho:=ho.h) (ha:=ha.h) (hbase:=hbase) (hfew:=hfew) (hline:=hline) (hs:=hs) (hplain:=hplain)⟩
theorem NY (i:Nat){x:Str}{pos:Pos}(hN:autoParam (X.N[i]?=Z x) cu0)(hv:autoParam (Vis X.env.scope x) au0)(hd:autoParam ((x == ("__debug__":Str))=J) bu0)(hcd:autoParam ((x == ("__classdict__":Str))=J) bu0):XE X (.Name x pos) (mV i):=⟨mv (i:=i) (hN:=hN) (hv:=hv) (hd:=hd) (hcd:=hcd)⟩
section
theorem qH {X:Cx}{k k' n:Nat}{x:Str}{m:FN}{p pos:Pos}{e:Expr}{es:List Expr}{a:FA}(h:Own X.prog X.w X.K X.mg X.base k x n m)(hr:ge k' X.A)(hk:k<=k')(hg:Gl X x)(ha:XA X (e::es) a)(hdb:autoParam ((x == ("__debug__":Str))=J) bu0)(he:autoParam (c9 (e::es) X.env=(J,eval e X.env)::c9 es X.env) cu0)(hpl:autoParam ((backTo pos (c9 es X.env)).any (·.1)=J) cu0):XE X (.Call (.Name x p) (e::es) [] pos) (mN (dv n m) a):=⟨IE (h:=h) (hr:=hr) (hk:=hk) (hg:=hg) (ha:=ha.h) (hdb:=hdb) (he:=he) (hpl:=hpl)⟩
theorem AD {X:Cx}{x:Str}{d:D}{pos:Pos}(h:CGl X.K X.mg x d)(hg:Gl X x)(hd:autoParam ((x == ("__debug__":Str))=J) bu0):XE X (.Name x pos) (mC d):=⟨EM (h:=h) (hg:=hg) (hd:=hd)⟩
end
structure Nn (X:Cx)(K:Fg1)(tg:Expr)(ifs:List Expr)(elt:Expr)(g:FG)(t:FT)(e:FE):Prop where
 g:XG X tg g
 t:XF X K ifs t
 e:XE X elt e
theorem xF{P:c5}{w:c7}{K:Fg1}{mg:Str->Option cZ}{base:df}{x c:Str}{st:di}{f:c4}{fd:dg}{N ps:List Str}{k n:Nat}{b:FS}(F:yY K x c st f fd)(hb:ku K fd ps [])(hm:mg x=some (.ref f))(S:hC N ps (dX st))(hn:ps.length=n)(e:∀(d:cZ) (A:c6) (a:List Env) (s:c3) (H:Hp) (E:XK),ge k (A.deeper (envOfC c (dX st) s.heap.objs.size f d)) ->
   xr (nV vW P w K mg base N c (dX st) f d A a s H E).nox (fA st) b):Own P w K mg base (k+1) x n (gH N.length b):=
 HK F hb hm S hn λd A a s H E g=>(e d A a s H E g).h
theorem GK{P:c5}{w:c7}{K:Fg1}{mg:Str->Option cZ}{base:df}{x c:Str}{st:di}{f:c4}{fd:dg}{N ps:List Str}{k n:Nat}{b:FS}(F:yY K x c st f fd)(S:hC N ps (dX st))(hn:ps.length=n)(e:∀(d:cZ) (A:c6) (a:List Env) (s:c3) (H:Hp) (E:XK),ge k (A.deeper (envOfC c (dX st) s.heap.objs.size f d)) ->
   xr (nV vW P w K mg base N c (dX st) f d A a s H E).nox (fA st) b):m6 P w K mg base vW (k+1) f fd ps (spM K n (gH N.length b)):=by
 subst hn;exact Ln F S λd A a s H E g=>(e d A a s H E g).h
abbrev FV:=Ev->dr->Option (List D×Ev×dr)
noncomputable def fV (c:List (Nat×List D))(g:FG)(t:FT)(b:FV):List D->FV
 |[]=>λr S=>if qC S c=true then some ([],r,S)else none
 |d::ds=>λr S=>if qC S c=true then(g d r S).bind λp=>(t p.1 p.2).bind λk=>if k.1=true then(b p.1 k.2).bind λq=>(fV c g t b ds q.2.1 q.2.2).map λz=>(q.1++z.1,z.2)else fV c g t b ds p.1 k.2 else none
noncomputable def dU (m:FE):FV:=λr S=>(m r S).map λq=>([q.1],r,q.2)
noncomputable def d5 (k:Nat)(keep:List Nat)(m:FI)(g:FG)(t:FT)(b:FV):FE:=λr S=>(m r S).bind λp=>
 (fV p.1.chk g t b p.1.items (jv k keep r) p.2).bind λq=>if q.1.length<=da then some (.ref q.2.2.length,q.2.2++[.lst q.1])else none
section
variable{K:Fg1}{H H' H1:Hp}{mu mu' mu1:List c4}{S:dr}{a:c4}
theorem Ext.aside(x:Ext mu mu' H H'):Ext (a::mu) (a::mu') H H' where
 pre:=bZ.mpr ⟨O,x.pre⟩
 old:=λb o h n=>x.old b o h λz=>n (mC1 _ z)
 tup:=x.tup
 frz:=x.frz
 new:=λb h=>by
  rcases aE.mp h with h|h
  ·exact .inl (by rw[h];exact mS1)
  ·rcases x.new b h with q|q
   ·exact .inl (mC1 _ q)
   ·exact .inr q
theorem Ext.inner(x:Ext (a::mu) (a::mu') H H'):ul mu mu' H H':=⟨(bZ.mp x.pre).2,x.tup,x.frz⟩
theorem Ext.held{o:HO}(x:Ext mu mu' H H')(ha:H a=Z o)(hn:a∉mu):H' a=Z o/\a∉mu':=by
 refine⟨x.old a o ha hn,λz=>?_⟩;rcases x.new a z with q|q
 ·exact hn q
 ·rw[ha]at q;cases q
theorem fG.exw{r:Ev}{σ:L2.St}(e:ul mu mu' H H')(h:fG K H mu r σ):fG K H' mu' r σ:=⟨h.len,λi d q=>by
 obtain⟨v,a,b⟩:=h.val i d q;exact⟨v,a,b.exw e⟩⟩
theorem qw.exw{b:c4}(e:ul mu mu' H H')(h:∀o,H b=Z o->H' b=Z o):∀{o:Ob},qw K H mu b o->qw K H' mu' b o
 | .lst _,⟨vs,q,r⟩=>⟨vs,h _ q,r.exw e⟩
 | .dct _,⟨ws,q,r⟩=>⟨ws,h _ q,Paired.mapP r λ_ _ z=>⟨z.1,z.2.exw e⟩⟩
 | .dcT _,⟨ws,q,r,l⟩=>⟨ws,h _ q,Paired.mapP r λ_ _ ⟨z,d,k,v,a,r⟩=>⟨z,d,k.exw e,v,a,r.exw e⟩,l⟩
 | .iset _,q=>⟨h _ q.1,q.2⟩
 | .dcF _,⟨ws,⟨o,u,c,f⟩,r,l⟩=>⟨ws,⟨o,u,h _ c,f⟩,Paired.mapP r λ_ _ ⟨z,d,k,v,a,r⟩=>⟨z,d,k.exw e,v,a,r.exw e⟩,l⟩
 | .tst _,⟨ws,q,r⟩=>⟨ws,h _ q,Paired.mapP r λ_ _ ⟨z,d,k,v,a,r⟩=>⟨z,d,k.exw e,v,a,r.exw e⟩⟩
theorem Sim.aside{u:HO}(s:Sim K H mu S)(e:ul mu mu H (upd H a u))(hn:a∉mu):Sim K (upd H a u) mu S:=
 ⟨s.len,s.nd,λk o b h1 h2=>(s.ob k o b h1 h2).exw e λo' q=>by rw[d0 (λz=>hn (by rw[<- z];exact gM1 h2))];exact q⟩
end
inductive L5 (K:Fg1)(a:c4)(m:FV)(E:kq)(σ:L2.St)(H:Hp):Prop
 |mk (r:Ev) (mu:List c4) (S:dr) (acc:List D) (vs:List V) (xs:List D) (r':Ev) (S':dr):H a=some (.lst vs)->a∉mu->dI K H mu acc vs->fG K H mu r σ->Sim K H mu S->m r S=some (xs,r',S')->vs.length+xs.length<=da ->
 (∀ σ' H' mu' vs',Ext (a::mu) (a::mu') H H'->H' a=some (.lst vs')->a∉mu'->dI K H' mu' (acc++xs) vs'->fG K H' mu' r' σ'->Sim K H' mu' S'->E.nx σ' H')->L5 K a m E σ H
theorem vC{K:Fg1}{a:c4}{m:FE}{E:kq}{σ:L2.St}{H:Hp}(h:L5 K a (dU m) E σ H):xQ a (tM K m) E σ H:=by
 obtain⟨r,mu,S,q,vs,xs,w,u,n,g,s,i,t,f,p,hc⟩:=h;obtain⟨⟨d,l⟩,j,f⟩:=oM1.mp f;cases f;refine⟨r,mu,S,d,l,i,t,j,λv H1 mu1 e k o=>?_⟩;obtain⟨b,c⟩:=e.held n g;have put:Ext (a::mu1) (a::mu1) H1 (upd H1 a (.lst (vs++[v]))):=Ext.put b trivial mS1;refine⟨vs,b,p,?_⟩;exact hc σ _ mu1 (vs++[v]) (e.aside.trans put) d8 c (((s.ext e).append (.cons k .nil)).exw put.inner) ((i.ext e).exw put.inner) (o.aside put.inner c)
inductive Nu (K:Fg1)(a:c4)(mu2:List c4)(H:Hp)(c:List (Nat×List D))(g:FG)(t:FT)(b:FV)(r':Ev)(S':dr)(tot:List D)(L:List D)(σ':L2.St)(H':Hp):Prop
 |mk (r3:Ev) (mu3:List c4) (S3:dr) (acc3:List D) (vs3:List V) (xs3:List D):Ext (a::mu2) (a::mu3) H H'->H' a=some (.lst vs3)->a∉mu3->dI K H' mu3 acc3 vs3->fG K H' mu3 r3 σ'->Sim K H' mu3 S3->fV c g t b L r3 S3=some (xs3,r',S')->acc3++xs3=tot->vs3.length+xs3.length<=da->Nu K a mu2 H c g t b r' S' tot L σ' H'
theorem Cm{K:Fg1}{a:c4}{j:It}{am:Aq}{g:FG}{t:FT}{b:FV}{tb:TS}{D:kq}(hb:∀ E σ H,L5 K a b E σ H->tb E σ H){mu1 e:List c4}{H1 H:Hp}{r L:Ev}{S S':dr}{σ:L2.St}{acc xs:List Mi.D}{vs:List V}(hJ:Nv K j am mu1 H1)(x:ul mu1 e H1 H)(ha:H a=Z (.lst vs))(W:a∉e)(hr:dI K H e acc vs)(he:fG K H e r σ)(hs:Sim K H e S)(hm:fV am.chk g t b am.items r S=Z (xs,L,S'))(hl:vs.length+xs.length<=da)(hc:∀l H' mu' z,Ext (a::e) (a::mu') H H'->H' a=Z (.lst z)->a∉mu'->dI K H' mu' (acc++xs) z->fG K H' mu' L l->Sim K H' mu' S'->D.nx l H'):Gh j (Kh K g) (DM K t) tb D σ H:=by
 refine⟨λi k l H'=>k=(am.items.drop i).length/\Nu K a e H am.chk g t b L S' (acc++xs) (am.items.drop i) l H',
  ⟨_,O,r,e,S,acc,vs,xs,.refl _ _,ha,W,hr,he,hs,hm,O,hl⟩,?_⟩
 rintro i k σ3 X ⟨rfl,r3,m,S3,f,vs3,xs3,I,A,s,F,C,Q,c,o,h⟩;cases hd0:am.items.drop i with
 |nil=>
  left;rw[hd0,fV]at c;dsimp only at c;split at c
  ·rename_i ok;cases c;refine⟨(hJ i X m _ (x.trans I.inner) Q ok).2 (List.drop_eq_nil_iff.mp hd0),hc σ3 X m vs3 I A s ?_ C Q⟩;rw[<- o,aN];exact F
  ·cases c
 |cons d ds=>
  right;rw[hd0]at c;obtain⟨hi,hd⟩:=nz hd0;rw[fV]at c;dsimp only at c;split at c
  ·rename_i ok;obtain⟨⟨G,S4⟩,e4,c⟩:=oB1.mp c;obtain⟨⟨k5,T⟩,e5,c⟩:=oB1.mp c;obtain⟨go,yl⟩:=(hJ i X m _ (x.trans I.inner) Q ok).1 d hi;refine⟨go,Nu K a e H am.chk g t b L S' (acc++xs) ds,?_,λy H4 yy=>?_⟩
   ·intro l H' h6;exact⟨ds.length,bI _,(congrArg List.length hd).symm,hd.symm ▸ h6⟩
   ·obtain⟨ao,s4,q4⟩:=yl y H4 yy;obtain⟨U,hn4⟩:=ao.held A s;refine⟨r3,m,S3,d,G,S4,C.ext ao,s4,q4,e4,fun σ5 H5 mu5 au q s5=>?_⟩;obtain⟨R,aq⟩:=au.held U hn4;refine⟨G,mu5,S4,k5,T,q,s5,e5,λH6 n B s6=>?_⟩;obtain⟨u,w⟩:=B.held R aq;have xx:=((I.trans ao.aside).trans au.aside).trans B.aside;have p:dI K H6 n f vs3:=((F.ext ao).ext au).ext B;cases k5 with
    |true=>
     obtain⟨⟨q1,r7,S7⟩,e7,c⟩:=oB1.mp c;obtain⟨⟨z1,r8,S8⟩,e8,c⟩:=oM1.mp c;cases c;refine hb _ _ _ ⟨G,n,T,f,vs3,q1,r7,S7,u,w,p,q.ext B,s6,e7,?_,fun σ8 H8 mu8 wq x8 P N v he8 s8=>⟨r7,mu8,S7,f++q1,wq,z1,xx.trans x8,P,N,v,he8,s8,e8,?_,?_⟩⟩
     ·rw[lA1]at h;dsimp only at h;lia
     ·rw[<- o,bf]
     ·have:=v.length;have h3:=p.length;rw[lA1]at this h;dsimp only at h;lia
    |false=>exact⟨G,n,T,f,vs3,xs3,xx,u,w,p,q.ext B,s6,c,o,h⟩
  ·cases c
theorem vK{K:Fg1}{k:Nat}{keep:List Nat}{m:FI}{g:FG}{t:FT}{b:FV}{tb:c4->TS}(hb:∀ a E σ H,L5 K a b E σ H->tb a E σ H){σ:L2.St}{H:Hp}{Q:VK}(h:tM K (d5 k keep m g t b) σ H Q):
  AX k keep (Mw K m) (Kh K g) (DM K t) tb σ H Q:=by
 obtain⟨r,mu,S,d,aq,G,W,f,hc⟩:=h;obtain⟨⟨am,X⟩,P,f⟩:=oB1.mp f;obtain⟨⟨xs,r2,ao⟩,T,f⟩:=oB1.mp f;dsimp only at f;split at f
 ·rename_i V;cases f;refine ⟨r,mu,S,am,X,G,W,P,fun j H1 mu1 F R L p i=>?_⟩;have w:Ext mu1 mu1 H1 (upd H1 p (.lst [])):=Ext.fresh i;refine Cm (hb p) R w.w d8 (L.notin i) .nil ((Ld k keep (G.ext F)).ext w) (L.fresh i) T (by simpa using V) fun U H' mu' s v B C x au s'=>?_;have y:Ext mu1 (mu'++[p]) H1 H':=by
   refine⟨((bZ.mp v.pre).2).trans (bE _ _),λb o e n=>?_,λb ys e=>v.tup b ys (w.tup b ys e),λb o u e=>v.frz b o u (w.frz b o u e),λb A=>?_⟩
   ·have I:b≠p:=ev e i;exact v.old b o (by rw [d0 I];exact e) fun z=>by
     rcases aE.mp z with z|z
     ·exact I z
     ·exact n z
   ·rcases aF.mp A with z|z
    ·rcases v.new b (mC1 _ z)with q|q
     ·rcases aE.mp q with q|q
      ·exact .inr (by rw[q];exact i)
      ·exact .inl q
     ·by_cases l:b=p
      ·exact .inr (by rw[l];exact i)
      ·rw[d0 l]at q;exact .inr q
    ·have:b=p:=by simpa using z
     exact .inr (by rw[this];exact i)
  refine hc _ H' (mu'++[p]) (F.trans y) (.ref (gh s'.len p)) ⟨by rw[lA1,lA1,s'.len];rfl,?_,λn o b h1 h2=>?_⟩
  ·rw[bG];refine⟨s'.nd,by simp,λb hb c hc e=>?_⟩;have:c=p:=by simpa using hc
   subst this;subst e;exact C hb
  ·by_cases N:n<ao.length
   ·rw[gL1 N]at h1;rw[gL1 (by rw[s'.len];exact N)]at h2;exact(s'.ob n o b h1 h2).mor [p]
   ·have D:n=ao.length:=by
     have:=(gE1.mp h1).1;rw[lA1]at this;simp at this;lia
    subst D;rw[gR1 (nR1 _)]at h1;rw[<- s'.len,gR1 (nR1 _)]at h2;simp at h1 h2;subst h1;subst h2;exact⟨s,B,(by simpa using x:dI K H' mu' xs s).mor [p]⟩
 ·cases f
theorem qZ{elt tg iter:Expr}{ifs:List Expr}{scope:dj}{pos:Pos}{T:List Str}{keep:List Nat}{i:List (Str×c4)}{m:FI}{g:FG}{t:FT}{e:FE}(hc:X.calm=M)(C:L0 X scope T keep)(d:kZ X.env.cells scope.names []=Z i)(hi:XI X tg iter m)(hb:∀s H b,Nn (cxC X scope i T keep s H b) X.K tg ifs elt g t e)(hs:autoParam (∀x,foldedSetIterable iter X.env x=pure x) du0):XE X (.ListComp elt [⟨tg,iter,ifs,0⟩] scope pos) (d5 T.length keep m g t (dU e)):=
 ⟨eO (Ej (emit:=vD elt) (tb:=λp=>xQ p (tM X.K e)) hc (λit c f=>AO elt tg iter ifs scope pos it c f) C d hi.h (λs H b p=>⟨(hb s H b).g.h,(hb s H b).t.h,xY (hb s H b).e.h p⟩) hs)
  fun σ H Q h=>vK (λa E σ H q=>vC q) h⟩
theorem gK{elt tg iter:Expr}{ifs:List Expr}{scope:dj}{pos b n:Pos}{y:Str}(i:Nat){T:List Str}{keep:List Nat}{l:List (Str×c4)}{m:FI}{g:FG}{t:FT}{e:FE}(hc:X.calm=M)(C:L0 X scope T keep)(j:kZ X.env.cells scope.names []=Z l)(hi:XI X tg iter m)(hb:∀s H c,Nn (cxC X scope l T keep s H c) X.K tg ifs elt g t e)(hN:X.N.Nodup)(hy:X.N[i]?=Z y)(hx:xC X.env.scope y)(d:autoParam (swapsWith (.ListComp elt [⟨tg,iter,ifs,0⟩] scope pos) (Z (.Name y n)) b.line X.env=pure M) cu0)(hf:autoParam (X.fn y=M\/X.env.scope.names.lookup y=Z .local) au0)(hs:autoParam (∀x,foldedSetIterable iter X.env x=pure x) du0):XS X (.Assign [.Name y n] (.ListComp elt [⟨tg,iter,ifs,0⟩] scope pos) b) (dH (d5 T.length keep m g t (dU e)) (gN i)):=
 ⟨iJ (D9 (emit:=vD elt) (tb:=λp=>xQ p (tM X.K e)) hc d (λit f k=>AO elt tg iter ifs scope pos it f k) C j hi.h (λs H c p=>⟨(hb s H c).g.h,(hb s H c).t.h,xY (hb s H c).e.h p⟩) hN hy hx hf hs)
  λE σ H h=>Jy (fun σ H Q q=>vK (λa E σ H q=>vC q) q) h⟩
def qL:D->Option Key
 | .int i=>Z (.inl i)
 | .str x=>Z (.inr x)
 |_=>Y
def dZ{κ:Type}[DecidableEq κ](kvs:List (κ×D))(k:κ):Option D:=(kvs.find? λp=>decide (p.1=k)).map (·.2)
def eX{κ:Type}[DecidableEq κ](kvs:List (κ×D))(k:κ)(d:D):List (κ×D):=
 if(kvs.any λp=>decide (p.1=k))=M then kvs.map (λp=>if p.1=k then(p.1,d)else p)else kvs++[(k,d)]
section
variable{K:Fg1}{H:Hp}{mu:List c4}
theorem kK{d:D}{v:V}{k:Key}(r:eP K H mu d v)(h:qL d=Z k):v=kV k:=by
 cases r with
 |int i=>cases h;rfl
 |str x=>cases h;rfl
 |_=>cases h
end
section
variable{κ:Type} [DecidableEq κ] {K:Fg1}{H:Hp}{mu:List c4}
theorem KR.length:∀{ks:List (κ×D)} {ws:List (κ×V)},KR K H mu ks ws->ks.length=ws.length:=λh=>Paired.length h
theorem KR.look{k:κ}:∀ {ks:List (κ×D)} {ws:List (κ×V)},KR K H mu ks ws ->
  (∀d,dZ ks k=Z d -> ∃v,jA ws k=Z v/\eP K H mu d v)/\(dZ ks k=Y->jA ws k=Y):=by
 intro ks ws h
 induction h with
 |nil=>exact⟨λd h=>by simp[dZ]at h,λ_=>rfl⟩
 | @cons p q ks ws r t ih=>
  obtain⟨a,f⟩:=p;obtain⟨j,c⟩:=q;obtain⟨e,r⟩:=r;dsimp only at e r;subst e;obtain⟨h1,h2⟩:=ih;by_cases b:a=k
  ·subst b;refine⟨λd h=>?_,λh=>?_⟩
   ·have:f=d:=by simpa[dZ]using h
    subst this;exact⟨c,by simp[jA],r⟩
   ·simp[dZ]at h
  ·have g:dZ ((a,f)::ks) k=dZ ks k:=by simp[dZ,bm,b]
   have i:jA ((a,c)::ws) k=jA ws k:=by simp[jA,bm,b]
   rw[g,i];exact⟨h1,h2⟩
theorem KR.any{k:κ}:∀{ks:List (κ×D)} {ws:List (κ×V)},KR K H mu ks ws->(ks.any λp=>decide (p.1=k))=ws.any λp=>decide (p.1=k):=by
 intro ks ws h
 induction h with
 |nil=>rfl
 |cons r t ih=>rw[bn,bn,ih,r.1]
theorem KR.repl{k:κ}{d:D}{v:V}(q:eP K H mu d v):∀ {ks:List (κ×D)} {ws:List (κ×V)},KR K H mu ks ws ->
  KR K H mu (ks.map λp=>if p.1=k then(p.1,d)else p) (ws.map λp=>if p.1=k then(p.1,v)else p):=by
 intro ks ws h
 induction h with
 |nil=>exact .nil
 | @cons a b ks ws r t ih=>
  refine .cons ?_ ih;obtain⟨e,r⟩:=r;dsimp only;by_cases h:a.1=k
  ·rw[ak h,ak (e ▸ h)];exact⟨e,q⟩
  ·rw[aj h,aj (e ▸ h)];exact⟨e,r⟩
theorem KR.snoc{k:κ}{d:D}{v:V}(q:eP K H mu d v):∀{ks:List (κ×D)} {ws:List (κ×V)},KR K H mu ks ws->KR K H mu (ks++[(k,d)]) (ws++[(k,v)]):=by
 intro ks ws h
 induction h with
 |nil=>exact .cons ⟨O,q⟩ .nil
 |cons r t ih=>exact .cons r ih
theorem KR.put{k:κ}{d:D}{v:V}(q:eP K H mu d v){ks:List (κ×D)}{ws:List (κ×V)}(h:KR K H mu ks ws):KR K H mu (eX ks k d) (ik ws k v):=by
 unfold eX ik;rw[h.any];split
 ·exact h.repl q
 ·exact h.snoc q
end
def w9:G2:=λd e S=>match e with
 | .ref n=>match S[n]? with
  |some (.dct kvs)=>(qL d).map λk=>(.bl (dZ kvs k).isSome,S)
  |_=>JS d e S
 |_=>JS d e S
def kN:G2:=λd e S=>match e with
 | .ref n=>match S[n]? with
  |some (.dct kvs)=>(qL d).map λk=>(.bl (!(dZ kvs k).isSome),S)
  |_=>pK d e S
 |_=>pK d e S
def mS:G2:=λd e S=>match d with
 | .ref n=>match S[n]? with
  |some (.dct kvs)=>(qL e).bind λk=>(dZ kvs k).map λx=>(x,S)
  |_=>CL d e S
 |_=>CL d e S
def l8:G3:=λo i v S=>match o with
 | .ref n=>match S[n]? with
  |some (.dct kvs)=>(qL i).bind λk=>if kvs.length<da then Z (.non,S.set n (.dct (eX kvs k v)))else Y
  |_=>ke o i v S
 |_=>ke o i v S
theorem pC{K:Fg1}{H:Hp}{mu:List c4}{S:dr}(hs:Sim K H mu S){n:Nat}{a:c4}{kvs:List (Key×D)}{k:Key}{y:V}(hn:mu[n]? = some a)(he:S[n]? = some (.dct kvs))(hy:y=kV k):
  ∃o:Option V,rf H a y o/\(∀d,dZ kvs k=Z d -> ∃v,o=Z v/\eP K H mu d v)/\(dZ kvs k=Y->o=Y)/\o.isSome=(dZ kvs k).isSome:=by
 obtain⟨ws,c,b⟩:=hs.dct he hn;subst hy;obtain⟨h1,h2⟩:=b.look (k:=k);refine⟨jA ws k,rf.k c,h1,h2,?_⟩;cases e:dZ kvs k with
 |none=>rw[h2 e];rfl
 |some d=>obtain⟨v,f,_⟩:=h1 d e;rw[f];rfl
theorem KW(v:X.A.units+64<cLine):fP X (compareOp .In) (r2 X.K (b2 w9)):=by
 intro ag s σ H x y u w Q I f i h;obtain⟨mu,S,d,e,r,j,l,b,c,a,hc⟩:=qu h;have back:JS d e S=Z (r,j)->db (model X.prog X.w) X.A (compareOp .In u w) (EP X ag σ Q) X.xe s:=λa=>MY v ag s σ H x y u w Q I f i ⟨mu,S,[d,e],r,j,.cons l (.cons b .nil),c,a,hc⟩;unfold w9 at a;split at a
 ·rename_i n;split at a
  ·rename_i kvs m;obtain⟨k,q,a⟩:=oM1.mp a;cases a;cases b with
   |ref p=>
    cases i;obtain⟨o,g,_,_,hi⟩:=pC c p m (kK l q);exact Nf (by lia) I g f λs' t=>⟨.bl o.isSome,H,t,O,by rw[hi];exact hc.now (.bl _) c⟩
  ·exact back a
 ·exact back a
theorem BR(v:X.A.units+64<cLine):fP X (compareOp .NotIn) (r2 X.K (b2 kN)):=by
 intro ag s σ H x y u w Q I f i h;obtain⟨mu,S,d,e,r,j,l,b,c,a,hc⟩:=qu h;have back:pK d e S=Z (r,j)->db (model X.prog X.w) X.A (compareOp .NotIn u w) (EP X ag σ Q) X.xe s:=λa=>Eu v ag s σ H x y u w Q I f i ⟨mu,S,[d,e],r,j,.cons l (.cons b .nil),c,a,hc⟩;unfold kN at a;split at a
 ·rename_i n;split at a
  ·rename_i kvs m;obtain⟨k,q,a⟩:=oM1.mp a;cases a;cases b with
   |ref p=>
    cases i;obtain⟨o,g,_,_,hi⟩:=pC c p m (kK l q);exact FB (by lia) I g f λs' t=>⟨.bl (!o.isSome),H,t,O,by rw[hi];exact hc.now (.bl _) c⟩
  ·exact back a
 ·exact back a
theorem JU(P:X.A.units+64<cLine):GH X (r2 X.K (b2 mS)):=by
 intro value b ag s σ H x y v u Q I w A h m;obtain⟨mu,S,d,e,r,C,t,l,q,c,hc⟩:=qu h;have back:CL d e S=Z (r,C)->db (model X.prog X.w) X.A (subscriptTail value b v u) (EP X ag σ Q) X.xe s:=λc=>Mn value b ag s σ H x y v u Q I w A ⟨mu,S,[d,e],r,C,.cons t (.cons l .nil),q,c,hc⟩ m;unfold mS at c;split at c
 ·rename_i n;split at c
  ·rename_i kvs D;obtain⟨k,E,c⟩:=oB1.mp c;obtain⟨z,L,c⟩:=oM1.mp c;cases c;cases t with
   | @ref _ a F=>
    cases w;obtain⟨o,g,h1,_,_⟩:=pC q F D (kK l E);obtain⟨ao,N,K⟩:=h1 _ L;subst N;have B:=vG I g;unfold subscriptTail;refine wB1 ?_;rw[getitemInPython_of_ne B.not_modules];refine wB1 (wpAny_specialOf B PySem.F.slot_dict_getitem.lookup ?_);have i:db (model X.prog X.w) X.A (subscripted b J (.ref a) u) (λr f=>db (model X.prog X.w) X.A (letTemporaryGo value (.ref a) r >>= λ_=>pure r) (EP X ag σ Q) X.xe f) X.xe s:=by
     rw[m];exact wpAny_operating (wpAny_mono (Ab (by lia) I g A λG am au p=>(⟨ao,H,au,p,hc.now K q⟩:EP X ag σ Q G am)) (λr f j=>wB1 (wpAny_letTemporaryGo (wP1 j))) λ_ _ x=>x)
    first
     |exact wP1 (wB1 i)
     |exact wB1 i
     |exact i
  ·exact back c
 ·exact back c
theorem G8(L:X.A.units+64<cLine):xB X (rU X.K (b3 l8)):=by
 intro ag s σ H o i v m x u Q I r p q h;obtain⟨mu,S,ds,d,y,K,e,a,hc⟩:=id h;cases K with
 |cons t C=>cases C with
  |cons w B=>cases B with
   |cons g am=>
    cases am;rename_i j l f;dsimp only[b3]at a;have back:ke j l f S=Z (d,y)->db (model X.prog X.w) X.A (setItem m x u) (λ_ s'=>∃H',Inv X ag σ H' s'/\Q H') X.xe s:=λa=>Kq ag s σ H o i v m x u Q I r p q ⟨mu,S,[j,l,f],d,y,.cons t (.cons w (.cons g .nil)),e,a,hc⟩;unfold l8 at a;split at a
    ·rename_i n;split at a
     ·rename_i kvs A;obtain⟨k,D,a⟩:=oB1.mp a;split at a
      ·rename_i F;cases a;cases t with
       |ref c=>
        cases r;obtain⟨ws,b,z⟩:=e.dct A c;have E:=kK w D;subst E;refine Aa (by lia) I (Ar.k b (by rw[<- z.length];exact F)) p q λs' G=>⟨_,G,?_⟩;have put:Ext mu mu H (upd H _ (.dK (ik ws k v))):=Ext.put b trivial (gM1 c);exact hc _ mu put (e.put c b trivial ⟨_,d8,(z.put g).ext put⟩)
      ·cases a
     ·exact back a
    ·exact back a
def Fq:G2:=λd e S=>match e with
 | .non=>Z (.bl (rR d),S)
 | .bl b=>match d with
  | .bl c=>Z (.bl (c == b),S)
  |_=>Y
 |_=>Y
def om:G2:=λd e S=>match e with
 | .non=>Z (.bl (!rR d),S)
 | .bl b=>match d with
  | .bl c=>Z (.bl (!(c == b)),S)
  |_=>Y
 |_=>Y
theorem KP:fP X (compareOp .Is) (r2 X.K (b2 Fq)):=by
 intro ag s σ H x y u w Q I g i h;obtain⟨mu,S,d,e,r,l,k,a,j,f,hc⟩:=qu h;cases e with
 |non=>exact KQ ag s σ H x y u w Q I g i ⟨mu,S,[d,.non],r,l,.cons k (.cons a .nil),j,f,hc⟩
 |bl b=>
  cases d with
  |bl c=>
   cases f;cases k;cases a;cases g;cases i;exact is_bool ⟨.bl (c == b),H,I,O,hc.now (.bl _) j⟩
  |_=>cases f
 |_=>cases f
theorem BU:fP X (compareOp .IsNot) (r2 X.K (b2 om)):=by
 intro ag s σ H x y u w Q I g i h;obtain⟨mu,S,d,e,r,l,k,a,j,f,hc⟩:=qu h;cases e with
 |non=>exact H9 ag s σ H x y u w Q I g i ⟨mu,S,[d,.non],r,l,.cons k (.cons a .nil),j,f,hc⟩
 |bl b=>
  cases d with
  |bl c=>
   cases f;cases k;cases a;cases g;cases i;exact isnot_bool ⟨.bl (!(c == b)),H,I,O,hc.now (.bl _) j⟩
  |_=>cases f
 |_=>cases f
def pA:FE:=λ_ S=>Z (.ref S.length,S++[.dct []])
theorem oD{pos:Pos}:XE X (.Dict [] [] pos) pA:=⟨eO BD <| by
 rintro σ H Q ⟨r,mu,S,d,f,e,b,c,hc⟩ p a;cases c;exact hc _ _ (mu++[p]) (Ext.new_ a) (.ref (gh b.len p)) (b.new a ⟨[],d8,.nil⟩)⟩
def Cf:List (FE×FE)->Ev->dr->Option (List (D×D)×dr)
 |[],_,S=>Z ([],S)
 |(a,b)::l,r,S=>(a r S).bind λp=>(b r p.2).bind λq=>(Cf l r q.2).map λt=>((p.1,q.1)::t.1,t.2)
def vh:List (D×D)->Option (List (Key×D))
 |[]=>Z []
 |(k,d)::l=>(qL k).bind λk=>(vh l).map λt=>(k,d)::t
def pB(l:List (FE×FE)):FE:=λr S=>(Cf l r S).bind λp=>(vh p.1).bind λkvs=>if kvs.length<=15 then Z (.ref p.2.length,p.2++[.dct (kvs.foldl (λacc kv=>eX acc kv.1 kv.2) [])])else Y
structure XP (X:Cx)(pos:Pos)(ks:List (Option Expr))(vs:List Expr)(l:List (FE×FE)):Prop where
 h:LV X pos ks vs (l.map λp=>(tM X.K p.1,tM X.K p.2))
theorem xG{pos:Pos}:XP X pos [] [] []:=⟨Eb⟩
theorem hE{pos:Pos}{k v:Expr}{ks:List (Option Expr)}{vs:List Expr}{a b:FE}{l:List (FE×FE)}(hk:XE X k a)(hv:XE X v b)(t:XP X pos ks vs l):XP X pos (Z k::ks) (v::vs) ((a,b)::l):=⟨Bt hk.h hv.h t.h⟩
theorem Bq{K:Fg1}{σ:L2.St}:∀ {l:List (FE×FE)} {r:Ev} {mu:List c4} {H:Hp} {S S':dr} {ps:List (D×D)} {Q:List (V×V)->Hp->Prop},fG K H mu r σ->Sim K H mu S->Cf l r S=some (ps,S') ->
  (∀vs H' mu',Ext mu mu' H H'->Paired (λ(p:D×D) (q:V×V)=>eP K H' mu' p.1 q.1/\eP K H' mu' p.2 q.2) ps vs->Sim K H' mu' S'->Q vs H')->sL (l.map λp=>(tM K p.1,tM K p.2)) σ H Q
 |[],r,mu,H,S,S',ps,Q,he,hs,c,hc=>by cases c;exact hc [] H mu (.refl _ _) .nil hs
 |(a,b)::l,r,mu,H,S,S',ps,Q,he,hs,c,hc=>by
  obtain⟨⟨d,h⟩,i,c⟩:=oB1.mp c;obtain⟨⟨n,y⟩,s,c⟩:=oB1.mp c;obtain⟨⟨t,A⟩,z,c⟩:=oM1.mp c;cases c;refine⟨r,mu,S,d,h,he,hs,i,λv H1 mu1 e m x=>⟨r,mu1,h,n,y,he.ext e,x,s,λB H2 u x2 r2 j=>?_⟩⟩;refine Bq ((he.ext e).ext x2) j z λvs w f g k o=>hc _ w f ((e.trans x2).trans g) (.cons ⟨(m.ext x2).ext g,r2.ext g⟩ k) o
theorem Cp{K:Fg1}{H:Hp}{mu:List c4}:∀ {ps:List (D×D)} {vs:List (V×V)} {kvs:List (Key×D)},Paired (fun (p:D×D) (q:V×V)=>eP K H mu p.1 q.1/\eP K H mu p.2 q.2) ps vs->vh ps=some kvs ->
  ∃ws:List (Key×V),vs=ws.map (λc=>(kV c.1,c.2))/\KR K H mu kvs ws:=by
 intro ps vs kvs g h
 induction g generalizing kvs with
 |nil=>cases h;exact⟨[],O,.nil⟩
 | @cons a b ps vs q t ih=>
  obtain⟨k,d⟩:=a;obtain⟨m,j⟩:=b;obtain⟨i,l,h⟩:=oB1.mp h;obtain⟨rest,f,h⟩:=oM1.mp h;cases h;obtain⟨ws,e,r⟩:=ih f;have:=kK q.1 l;dsimp only at this;subst this;exact⟨(i,j)::ws,by rw[mP1,<- e],.cons ⟨O,q.2⟩ r⟩
theorem B7{K:Fg1}{H:Hp}{mu:List c4}:∀{kvs:List (Key×D)} {ws:List (Key×V)} {acc:List (Key×D)} {acw:List (Key×V)},KR K H mu kvs ws->KR K H mu acc acw->KR K H mu (kvs.foldl (λacc c=>eX acc c.1 c.2) acc) (jH acw ws):=by
 intro kvs ws acc acw f h
 induction f generalizing acc acw with
 |nil=>exact h
 | @cons a b kvs ws r t ih=>
  obtain⟨k,d⟩:=a;obtain⟨g,v⟩:=b;obtain⟨e,r⟩:=r;dsimp only at e r;subst e;show KR K H mu (kvs.foldl _ (eX acc k d)) (jH (ik acw k v) ws);exact ih (h.put r)
theorem uq{pos:Pos}{ks:List (Option Expr)}{vs:List Expr}{l:List (FE×FE)}(h:XP X pos ks vs l)(k:autoParam (ks.all (·.isSome)=M) cu0)(au:autoParam (ks.length=vs.length) cu0)(h0:ks≠[]:=by(intro z;cases z))(w:autoParam (ks.length<=15) bu0):XE X (.Dict ks vs pos) (pB l):=
 ⟨eO (Ei h.h k au h0 w) <| by
  rintro σ H Q ⟨r,mu,S,d,R,K,E,f,hc⟩ p g;obtain⟨⟨ps,F⟩,I,f⟩:=oB1.mp f;obtain⟨kvs,L,f⟩:=oB1.mp f;dsimp only at f;split at f
  ·rename_i s;cases f;have x:Ext mu mu H (upd H p (.dK [])):=Ext.fresh g;refine Bq (K.ext x) (E.fresh g) I fun vs H1 mu1 i ao j=>?_;obtain ⟨v,t⟩:=i.held (a:=p) (o:=.dK []) d8 (E.notin g);obtain ⟨ws,N,rk⟩:=Cp ao L;refine ⟨v,ws,N,by rw [<- rk.length];exact s,?_⟩;have put:Ext (p::mu1) (p::mu1) H1 (upd H1 p (.dK (jH [] ws))):=Ext.put v trivial mS1;have am:=j.aside put.inner t;have y:Ext mu (mu1++[p]) H (upd H1 p (.dK (jH [] ws))):=by
    refine⟨i.pre.trans (bE _ _),λb o e n=>?_,λb ys e=>put.tup b ys (i.tup b ys (x.tup b ys e)),λb o u e=>put.frz b o u (i.frz b o u (x.frz b o u e)),λb A=>?_⟩
    ·have D:b≠p:=ev e g;rw[d0 D];exact i.old b o (by rw[d0 D];exact e) n
    ·rcases aF.mp A with z|z
     ·rcases i.new b z with q|q
      ·exact .inl q
      ·by_cases m:b=p
       ·exact .inr (by rw[m];exact g)
       ·rw[d0 m]at q;exact .inr q
     ·have:b=p:=by simpa using z
      exact .inr (by rw[this];exact g)
   have B:=B7 rk (acc:=[]) (acw:=[]) .nil;refine hc _ _ (mu1++[p]) y (.ref (gh j.len p)) ⟨by rw[lA1,lA1,j.len];rfl,?_,λn o b h1 h2=>?_⟩
   ·rw[bG];refine⟨j.nd,by simp,λb P c hc e=>?_⟩;have:c=p:=by simpa using hc
    subst this;subst e;exact t P
   ·by_cases G:n<F.length
    ·rw[gL1 G]at h1;rw[gL1 (by rw[j.len];exact G)]at h2;exact(am.ob n o b h1 h2).mor [p]
    ·have C:n=F.length:=by
      have:=(gE1.mp h1).1;rw[lA1]at this;simp at this;lia
     subst C;rw[gR1 (nR1 _)]at h1;rw[<- j.len,gR1 (nR1 _)]at h2;simp at h1 h2;subst h1;subst h2;exact⟨_,d8,KR.mor [p] (Paired.mapP B λ_ _ z=>⟨z.1,z.2.exw put.inner⟩)⟩
  ·cases f⟩
section
variable{K:Fg1}{H H':Hp}{mu mu':List c4}{S:dr}
end
theorem BK{P:c5}{w:c7}{K:Fg1}{mg:Str->Option cZ}{base:df}{x a:Str}{st:di}{f:c4}{fd:dg}{ps:List Str}{k n:Nat}(F:yY K x a st f fd)(hb:ku K fd ps [])(hm:mg x=Z (.ref f)):Own P w K mg base k x n (λ_ _=>Y):=by
 have c:∀vs H Q E,¬ spM K n (λ_ _=>Y) vs H Q E:=λvs H Q E h=>by
  obtain⟨_,mu,S,ds,d,i,_,_,e,_⟩:=h;cases e
 exact⟨f,fd,ps,⟨λvs H Q E h=>absurd h (c vs H Q E),λA b s H g j vs Q E _ _ _ _ h=>absurd h (c vs H Q E)⟩,hb,F.kp,hm⟩
theorem kx{X:Cx}(i j:Nat){x y:Str}{a b:Expr}{m:FA}{l k pt pos:Pos}{kt k2 pt2}(hc:X.calm=true)(hN:X.N.Nodup)(hi:X.N[i]? = some x)(q:X.N[j]? = some y)(n:i≠j)(hx:X.env.scope.names.lookup x=some .local)(hy:X.env.scope.names.lookup y=some .local)(ha:XA X [a,b] m)(hw:autoParam (swappedStores [.Tuple [.Name x l,.Name y k] kt pt] (.Tuple [a,b] k2 pt2) X.env=pure (some [x,y])) cu0)(hs:autoParam (swapsWithSole [.Tuple [.Name x l,.Name y k] kt pt] (.Tuple [a,b] k2 pt2) pos.line X.env=pure false) cu0):
  XS X (.Assign [.Tuple [.Name x l,.Name y k] kt pt] (.Tuple [a,b] k2 pt2) pos) (dH (d7 m) (gT 2 (eT (gN i) (eT (gN j) i8)))):=
 ⟨iJ (Hq hc hN hi q n hx hy ha.h hw hs) <| by
  rintro E σ H ⟨r,mu,S,f,A,C,p,hs,h,hc⟩;obtain⟨⟨d,B⟩,e,h⟩:=oB1.mp h;obtain⟨⟨r2,z⟩,c,h⟩:=oB1.mp h;cases h;obtain⟨⟨ds,w⟩,v,e⟩:=oB1.mp e;dsimp only at e;split at e
  ·cases e;refine⟨r,mu,S,ds,_,p,hs,v,λvs H1 mu1 o g s=>?_⟩;dsimp only at c;rw[gT]at c;split at c
   ·cases g with
    |nil=>cases c
    |cons t g=>cases g with
     |nil=>cases c
     |cons u g=>cases g with
      |nil=>
       cases c;exact⟨_,_,O,hc _ H1 mu1 o (((p.ext o).set t).set u) s⟩
      |cons _ _=>cases c
   ·cases c
  ·cases e⟩
def CN:G2:=λd e S=>match d,e with
 | .int i,.int j=>Z (.int (i+j),S)
 |_,_=>Y
theorem Fd{X:Cx}:Ml X .Add (r2 X.K (b2 CN)):=by
 intro ag s σ H x y v u Q I c f h;obtain⟨mu,S,d,e,r,l,k,b,g,a,hc⟩:=qu h;unfold CN at a;split at a
 ·rename_i i j;cases a;cases k;cases b;exact Fe ag s σ H _ _ v u Q I c f ⟨i,j,O,O,hc.now (.int _) g⟩
 ·cases a
end Mi
namespace HT
open PySem PySem.Spec PyProof.Rows
variable{prog:c5}{w:c7}{A:c6}{E:cZ->c3->Prop}{s:c3}
theorem kX{t sl:c4}{items:Array cZ}{e f:cZ}{lo hi:Option Int}{Q:cZ->c3->Prop}(ht:IsTup s.heap t items)(hs:s.heap.IsSliceOf sl e f .none)(pl:IsPart e lo)(j:IsPart f hi)(hw:sIx items.size 0 lo=0/\sIx items.size items.size hi=items.size)(h:Q (.ref t) s):db (model prog w) A (getItem (.ref t) (.ref sl)) Q E s:=by
 obtain⟨i,b,c,g⟩:=id hs;have d:s.TypeIs (.ref sl) "slice":=⟨i,b,c⟩;unfold getItem
 try with_reducible refine wpAny_holding ?_
 first|refine wB1 (wP1 ?_)|skip
 refine wB1 (wpAny_sequenceKey ht.typeIs (by decide) ?_);refine wB1 (wpAny_callSpecial?_slot (name:=Str.ofString "__getitem__") ht.typeIs PyProof.Rows.slot_tuple_getitem
  (wE1 PyProof.Rows.slot_tuple_getitem ht.typeIs entry_tuple_getitem ?_ (args_tuple_getitem _ _)))
 show db _ _ (Builtin.Tuple.tupleItemsOf (.ref t) >>= _) _ _ s;refine wB1 (tupleItemsOf_ ht ?_);refine wB1 (wpAny_typeOf d ?_);rw[ak (by decide)];refine wB1 (jj hs pl j ?_);have a:((((sIx items.size 0 lo:Nat):Int) == 0&&(1:Int) == 1&&(sIx items.size items.size hi-sIx items.size 0 lo) == items.size)=M):=by
  rw[hw.1,hw.2];simp
 show db _ _ (if(((sIx items.size 0 lo:Nat):Int) == 0&&(1:Int) == 1&&(sIx items.size items.size hi-sIx items.size 0 lo) == items.size)=M then _ else _) _ _ s;rw[ak a];refine wB1 ?_;unfold Builtin.Tuple.tupleIsExact;refine wB1 (wpAny_typeOf ht.typeIs (wP1 ?_));rw[ak (by decide)]
 first
  |exact wB1 (wpAny_rule (wP1 ⟨_,rfl,wP1 h⟩))
  |exact wB1 (wpAny_rule (wB1 (wP1 ⟨_,rfl,wP1 h⟩)))
end HT
namespace Mi
open PySem PySem.Spec PyProof.Rows L2
def MN(K:Fg1):V->Option Int->Option Int->Hp->VK->Prop:=λx lo hi H Q=>∃a xs,x = .ref a/\kS K H a xs/\(HT.sIx xs.length 0 lo=0/\HT.sIx xs.length xs.length hi=xs.length)/\Q (.ref a) H
variable{X:Cx}
theorem DQ:Du X (MN X.K):=by
 intro ag s σ H x v k l lo hi n Q I e i pl j h;obtain⟨a,xs,rfl,f,g,q⟩:=h;cases e;obtain⟨c,r,d,m⟩:=I.tuple f;have b:c.toArray.size=xs.length:=by rw[sT1];exact r.length.symm
 refine⟨"tuple",_,PyProof.Rows.slot_tuple_getitem.lookup,d.typeIs,?_⟩;exact HT.kX d i pl j (by rw[b];exact g) ⟨.ref a,H,I,O,q⟩
def wv(S:dr)(d:D)(lo hi:Option Int):Option (D×dr):=(dQ S d).map λp=>if p.1=M then(.ref S.length,S++[.lst (Mi.gl p.2 lo hi)])else(.tup (Mi.gl p.2 lo hi),S)
def ig(m:FE)(lo hi:FO):FE:=λr S=>(m r S).bind λp=>(lo r p.2).bind λa=>(hi r a.2).bind λb=>wv b.2 p.1 a.1 b.1
theorem Ac{xs:List D}{lo hi:Option Int}(h:HT.sIx xs.length 0 lo=0/\HT.sIx xs.length xs.length hi=xs.length):Mi.gl xs lo hi=xs:=by
 unfold Mi.gl;rw[h.1,h.2,List.drop_zero,Nat.sub_zero,b0]
theorem ed{e:Expr}{lo hi:Option Expr}{m:FE}{a b:FO}{pos p2:Pos}(h:XE X e m)(L:XO X lo a)(D:XO X hi b):XE X (.Subscript e (.Slice lo hi Y p2) pos) (ig m a b):=
 ⟨eO (BB (Du.or DQ (Du.or G6 DR)) h.h L.h D.h) <| by
  rintro σ H Q ⟨r,mu,S,d,P,u,ao,f,hc⟩;obtain⟨⟨E,z⟩,B,f⟩:=oB1.mp f;obtain⟨⟨l,y⟩,am,f⟩:=oB1.mp f;obtain⟨⟨n,I⟩,N,f⟩:=oB1.mp f;refine⟨r,mu,S,E,z,u,ao,B,λv H1 mu1 s G K=>?_⟩;refine⟨r,mu1,z,l,y,u.ext s,K,am,λH2 w x2 C=>?_⟩;refine⟨r,w,y,n,I,(u.ext s).ext x2,C,N,λau g A j=>?_⟩;obtain⟨⟨k,xs⟩,F,f⟩:=oM1.mp f;have x:=(s.trans x2).trans A;obtain⟨c,vs,rfl,q,t⟩:=dJ ((G.ext x2).ext A) j F;cases k with
  |true=>
   cases f;right;right;exact⟨c,vs,O,q,λp i=>hc _ _ (g++[p]) (x.trans (Ext.new_ i)) (.ref (gh j.len p)) (j.newL (yH t l n) i)⟩
  |false=>
   simp only[bF1,if_false]at f;cases f;by_cases o:HT.sIx xs.length 0 l=0/\HT.sIx xs.length xs.length n=xs.length
   ·left;rw[Ac o]at hc;exact⟨c,vs,O,q,by rw[<- t.length];exact o,hc _ _ g x (.tup q t) j⟩
   ·right;left;exact⟨c,vs,O,q,by rw[<- t.length];exact o,λp i=>hc _ _ g (x.trans (Ext.fresh i)) (.tup (kS.of d8) ((yH t l n).ext (Ext.fresh i))) (j.fresh i)⟩⟩
mutual
inductive gz (h:df):TK->cZ->Prop
 |non:gz h .non .none
 |int (i t):gz h (.int i) (.int i t)
 |tup {a o items n xs}:h.get? a=some o->o.cls = .type "tuple"->o.data = .seq items n->iw h xs items.toList->gz h (.tup xs) (.ref a)
inductive iw (h:df):List TK->List cZ->Prop
 |nil:iw h [] []
 |cons {k v ks vs}:gz h k v->iw h ks vs->iw h (k::ks) (v::vs)
end
section
variable{prog:c5}{w:c7}{A:c6}{E:cZ->c3->Prop}{s:c3}
theorem uM{Q:Int->c3->Prop}(h:Q 0xFCA86420 {s with toks:=s.toks+1}):db (model prog w) A (pyHash .none) Q E s:=by
 have a:s.TypeIs .none "NoneType":=rfl;unfold pyHash
 first|unfold pyHashByItsType|skip
 have b:[Value.none].any Value.onHeap=J:=rfl;refine wB1 ?_;rw[cRoomFor,aj (by rw[b];exact aK)];refine wP1 ?_;refine wB1 (wpAny_specialOf a F.slot_NoneType_hash.lookup ?_);show db _ _ (if(Z (Value.builtin "NoneType.__hash__") == Z Value.none)=M then _ else _) Q E s;rw[aj (by rw[beq_builtin_none];exact aK)];refine wB1 (wpAny_specialOf a F.slot_NoneType_hash.lookup ?_);show db _ _ (callSpecialIfBoundUnlessNone? .none "__hash__" _ >>= _) Q E s;refine wB1 (wpAny_callSpecialIfBoundUnlessNone?_slot a F.slot_NoneType_hash (wE1 F.slot_NoneType_hash a F.entry_NoneType_hash (show db _ _ (retInt 0xFCA86420) _ _ s from wpAny_ret_mkInt ?_) (F.args_NoneType_hash_1 _)));exact wP1 h
def ug(prog:c5)(w:c7)(k:TK):Prop:=∀{A:c6} {E:cZ->c3->Prop} {s:c3} {v:cZ} {Q:Int->c3->Prop},A.units+k.dep<cLine->gz s.heap k v->Q k.hash {s with toks:=s.toks+k.draws}->db (model prog w) A (pyHash v) Q E s
theorem iw.split{h:df}:∀{ks:List TK} {vs:List cZ},iw h ks vs->ks.length=vs.length:=λa=>a.rec (motive_1:=λ_ _ _=>True) (motive_2:=λks vs _=>ks.length=vs.length) trivial (λ_ _=>trivial) (λ_ _ _ _ _=>trivial) O (λ_ _ _ ih=>congrArg (· + 1) ih)
theorem CF{xs:List TK}(all:∀k∈xs,ug prog w k):ug prog w (.tup xs):=by
 intro A E s v Q y u h;cases u with
 | @tup a o m n _ q hc t hi=>
  have i:s.TypeIs (.ref a) "tuple":=⟨o,q,hc⟩;rw[TK.dep]at y;unfold pyHash
  first|unfold pyHashByItsType|skip
  first|refine wB1 (wpAny_cRoomFor_or (.inr (by lia)) ?_)|skip
  refine wB1 (wpAny_specialOf i F.slot_tuple_hash.lookup ?_);show db _ _ (if(Z (Value.builtin "tuple.__hash__") == Z Value.none)=M then _ else _) Q E s;rw[aj (by rw[beq_builtin_none];exact aK)];refine wB1 (wpAny_specialOf i F.slot_tuple_hash.lookup ?_);show db _ _ (callSpecialIfBoundUnlessNone? (.ref a) "__hash__" _ >>= _) Q E s;refine wB1 (wpAny_callSpecialIfBoundUnlessNone?_slot i F.slot_tuple_hash (wE1 F.slot_tuple_hash i F.entry_tuple_hash ?_ (F.args_tuple_hash_1 _)));show db _ _ (Builtin.Tuple.tupleItemsOf (.ref a) >>= _) _ _ s;refine wB1 (wpAny_tupleItemsOf q t ?_);refine wB1 ?_;rw[<- Array.forIn_toList];refine wpAny_forIn_list _
   (λrest (b:Array Int) s'=>∃c d,xs=c++d/\iw s.heap d rest/\b.toList=TK.hashes c/\s'={s with toks:=s.toks+TK.drawsAll c})
   _ ?_ ?_ _ _ ⟨[],xs,O,hi,O,O⟩
  ·rintro x rest b s' ⟨c,d,e,p,j,rfl⟩;cases p with
   | @cons k _ g _ h1 f=>
    have r:k∈xs:=by rw[e];simp
    refine wB1 (all k r (show A.in1.units+k.dep<cLine by have:=TK.dep_mem r;rw[show A.in1.units=A.units+1 from rfl];lia) h1 ?_)
    first
     |exact wP1 ⟨c++[k],g,by simp[e],f,by rw[TK.hashes_app];simp[j,TK.hashes],by rw[TK.draws_app];simp[TK.drawsAll,bu]⟩
     |exact wB1 (wP1 (wP1 ⟨c++[k],g,by simp[e],f,by rw[TK.hashes_app];simp[j,TK.hashes],by rw[TK.draws_app];simp[TK.drawsAll,bu]⟩))
  ·rintro b s' ⟨c,d,e,p,j,rfl⟩;cases p;rw[aN]at e;subst e;show db _ _ (retInt (Builtin.Tuple.tupleHashOf b.toList)) _ _ _;rw[j];refine wpAny_ret_mkInt ?_;show db _ _ (if(decide (-(2:Int)^63<=Builtin.Tuple.tupleHashOf (TK.hashes xs))&&decide (Builtin.Tuple.tupleHashOf (TK.hashes xs)<2^63))=M then _ else _) Q E _;rw[TK.hash,TK.draws]at h;unfold reduceHash at h;by_cases l:(decide (-(2:Int)^63<=Builtin.Tuple.tupleHashOf (TK.hashes xs))&&decide (Builtin.Tuple.tupleHashOf (TK.hashes xs)<2^63))=M
   ·rw[ak l];rw[ak l]at h;exact wP1 (by simpa[bu]using h)
   ·rw[aj l];rw[aj l]at h;exact wB1 (wpAny_rule (wP1 (by simpa[bu]using h)))
mutual
theorem yu:∀k:TK,ug prog w k
 | .non=>λb a h=>by cases a;exact uM h
 | .int i=>λb a h=>by cases a;exact wpAny_pyHash_int h
 | .tup xs=>CF (vo xs)
theorem vo:∀ks:List TK,∀k∈ks,ug prog w k
 |[],k,h=>by simp at h
 |x::xs,k,h=>by
  by_cases e:k=x
  ·rw[e];exact yu x
  ·exact vo xs k ((aE.mp h).resolve_left e)
end
end
theorem gz.inj{h:df}:∀ {k k':TK} {v:cZ},gz h k v->gz h k' v->k=k':=fun i=>i.rec (motive_1:=fun k v _=>∀ k',gz h k' v->k=k') (motive_2:=fun k v _=>∀ k',iw h k' v->k=k')
  (λk' g=>by cases g;rfl) (λ_ _ k' g=>by cases g;rfl)
  (λe c1 j l ih k' g=>by
   cases g with
   |tup c c2 d f=>
    rw[e]at c;cases c;rw[j]at d;cases d;rw[ih _ f])
  (λk' g=>by cases g;rfl) (λ_ _ a b k' g=>by cases g with|cons r' t'=>rw[a _ r',b _ t']) _
theorem gz.keeps{h h':df}{d:c4}{o:Obj}{es ep}(ho:h.get? d=some o)(hd:o.data = .dict es ep)(hs:Heap.SameBut d h h'):∀ {k:TK} {v:cZ},gz h k v->gz h' k v:=fun f=>f.rec (motive_1:=fun k v _=>gz h' k v) (motive_2:=fun k v _=>iw h' k v) .non .int
  (λ{a} _ _ _ _ c c1 e _ ih=>.tup ((hs.2 a (λz=>by subst z;rw[c]at ho;cases ho;rw[e]at hd;cases hd)).trans c) c1 e ih) .nil (λ_ _ a b=>.cons a b)
theorem iw.at{h:df}:∀{ks:List TK} {vs:List cZ} (j:Nat) (h1:j<ks.length) (h2:j<vs.length),iw h ks vs->gz h ks[j] vs[j]
 |_::_,_::_,0,_,_,.cons r _=>r
 |_::ks,_::vs,j+1,h1,h2,.cons _ t=>iw.at j (by simpa using h1) (by simpa using h2) t
theorem Dk{xs ys:List TK}(b:xs.length=ys.length):((af (min xs.length ys.length)).all λj=>decide (xs[j]?=ys[j]?))=decide (xs=ys):=by
 by_cases h:xs=ys
 ·subst h;simp
 ·rw[ai h,List.all_eq_false];have:∃j,xs[j]? ≠ ys[j]?:=Classical.byContradiction λz=>h (b4 λj=>Classical.byContradiction λq=>z ⟨j,q⟩);obtain⟨j,a⟩:=this;refine⟨j,?_,by simpa using a⟩;rw[aB,b,Nat.min_self];apply Classical.byContradiction;intro c;exact a (by rw[b5 (by lia),b5 (by lia)])
theorem Lr:∀(n:Nat) {k k':TK} {A:c6} {s:c3} {u v:cZ},k.dep<=n->A.units+n<cLine->gz s.heap k u->gz s.heap k' v->SeqAt.EqAt A s u v (decide (k=k')):=by
 intro n
 induction n with
 |zero=>
  intro k k' A s u v C au r g;cases r with
  |tup _ _ _ _=>simp[TK.dep]at C
  |non=>
   cases g with
   |non=>simpa using SeqAt.EqAt.same (A:=A) (s:=s) Value.none
   |int i t=>simpa[vX]using lF (A:=A) (s:=s) (y:=.non) (x:=.int i) O ⟨t,O⟩ O O
   |tup e c d t=>simpa using(ft (A:=A) (s:=s) (b:=J) (v:=.non) (u:=.none) ⟨_,e,c,_,d⟩ O O (by lia)).2.1
  |int i t=>
   cases g with
   |non=>simpa[vX]using lF (A:=A) (s:=s) (y:=.int i) (x:=.non) ⟨t,O⟩ O O O
   |int j H=>
    have:=lF (A:=A) (s:=s) (y:=.int i) (x:=.int j) ⟨t,O⟩ ⟨H,O⟩ O O;have e:vX (.int i) (.int j)=decide (TK.int i=TK.int j):=by
     by_cases h:i=j
     ·subst h;simp[vX]
     ·rw[ai (λz=>h (by injection z))];simp[vX,h]
    rw[e]at this;exact this
   |tup e c d q=>simpa using(ft (A:=A) (s:=s) (b:=J) (v:=.int i) (u:=.int i t) ⟨_,e,c,_,d⟩ ⟨t,O⟩ O (by lia)).2.1
 |succ n ih=>
  intro k k' A s u v C au r g;cases r with
  |non=>
   cases g with
   |non=>simpa using SeqAt.EqAt.same (A:=A) (s:=s) Value.none
   |int i t=>simpa[vX]using lF (A:=A) (s:=s) (y:=.non) (x:=.int i) O ⟨t,O⟩ O O
   |tup e c d t=>simpa using(ft (A:=A) (s:=s) (b:=J) (v:=.non) (u:=.none) ⟨_,e,c,_,d⟩ O O (by lia)).2.1
  |int i t=>
   cases g with
   |non=>simpa[vX]using lF (A:=A) (s:=s) (y:=.int i) (x:=.non) ⟨t,O⟩ O O O
   |int j H=>
    have:=lF (A:=A) (s:=s) (y:=.int i) (x:=.int j) ⟨t,O⟩ ⟨H,O⟩ O O;have e:vX (.int i) (.int j)=decide (TK.int i=TK.int j):=by
     by_cases h:i=j
     ·subst h;simp[vX]
     ·rw[ai (λz=>h (by injection z))];simp[vX,h]
    rw[e]at this;exact this
   |tup e c d q=>simpa using(ft (A:=A) (s:=s) (b:=J) (v:=.int i) (u:=.int i t) ⟨_,e,c,_,d⟩ ⟨t,O⟩ O (by lia)).2.1
  | @tup a o f m xs l c1 p D=>
   cases g with
   |non=>simpa using(ft (A:=A) (s:=s) (b:=J) (v:=.non) (u:=.none) ⟨_,l,c1,_,p⟩ O O (by lia)).1
   |int i t=>simpa using(ft (A:=A) (s:=s) (b:=J) (v:=.int i) (u:=.int i t) ⟨_,l,c1,_,p⟩ ⟨t,O⟩ O (by lia)).1
   | @tup a2 P items2 m2 ys K c2 am B=>
    by_cases N:a=a2
    ·subst N;have:TK.tup xs=TK.tup ys:=gz.inj (.tup l c1 p D) (.tup K c2 am B);rw[ah this];exact .same _
    ·refine .of_refs N ?_;have L:=D.split;have ao:=B.split;have G:=SeqAt.RcAt.tuples (A:=A) (s:=s) (e:=fun j=>decide (xs[j]? = ys[j]?)) ⟨o,l,c1,m,p⟩ ⟨P,K,c2,m2,am⟩ (by lia) (fun j h1 h2=>by
      have F:j<xs.length:=by rw[L];simpa using h1
      have I:j<ys.length:=by rw[ao];simpa using h2
      rw[TK.dep]at C;have T:=TK.dep_mem (bV F);have q:=ih (k:=xs[j]) (k':=ys[j]) (A:=A.in1) (s:=s) (by lia) (by show A.units+1+n<cLine;lia) (D.at j F (by simpa using h1)) (B.at j I (by simpa using h2));have e:decide (xs[j]?=ys[j]?)=decide (xs[j]=ys[j]):=by
       rw[gG1 F,gG1 I];simp
      rw[e];simpa using q)
     have Q:f.size=xs.length:=by rw[L];simp
     have S:items2.size=ys.length:=by rw[ao];simp
     rw[Q,S]at G;have E:((af (min xs.length ys.length)).all (λj=>decide (xs[j]?=ys[j]?))&&xs.length == ys.length)=decide (TK.tup xs=TK.tup ys):=by
      by_cases w:xs.length=ys.length
      ·rw[Dk w,w,beq_self_eq_true,bP];by_cases h:xs=ys
       ·subst h;simp
       ·rw[ai h,ai (λz=>h (by injection z))]
      ·have R:(xs.length == ys.length)=J:=by simpa using w
       rw[R,Bool.and_false,ai (λz=>w (by injection z with z;rw[z]))]
     rw[E]at G;exact G
theorem Bj{prog:c5}{w:c7}:∀(n:Nat) {k:TK} {A:c6} {E:cZ->c3->Prop} {s:c3} {v:cZ} {Q:Bool->c3->Prop},k.dep<=n->gz s.heap k v->Q M s->db (model prog w) A (eqIsQuiet n v) Q E s:=by
 intro n
 induction n with
 |zero=>
  intro k A E s v Q c r h;cases r with
  |non=>rw[eqIsQuiet_byValue 0 O];exact wP1 h
  |int i t=>rw[eqIsQuiet_byValue 0 O];exact wP1 h
  |tup _ _ _ _=>simp[TK.dep]at c
 |succ n ih=>
  intro k A E s v Q c r h;cases r with
  |non=>rw[eqIsQuiet_byValue _ O];exact wP1 h
  |int i t=>rw[eqIsQuiet_byValue _ O];exact wP1 h
  | @tup a o b m xs f c1 q u=>
   have g:s.TypeIs (.ref a) "tuple":=⟨o,f,c1⟩;rw[TK.dep]at c;unfold eqIsQuiet;refine wB1 (wpAny_specialOf g F.slot_tuple_eq.lookup ?_);show db _ _ (isInstance (.ref a) (.type "tuple") >>= _) _ _ s;refine wB1 (wpAny_isInstance g isSubtype_tuple_tuple ?_);simp only[b6,bF1,if_false];refine wB1 (wpAny_seqItems f q ?_);refine wB1 ?_;show db _ _ (forIn b _ _) _ _ s;rw[<- Array.forIn_toList];refine wpAny_forIn_list _ (λrest r s'=>r.1=Y/\s'=s /\ ∃ks,iw s.heap ks rest/\TK.depAll ks<=n) _ ?_ ?_ _ _ ⟨O,O,xs,u,by lia⟩
   ·rintro v rest r s' ⟨e,rfl,ks,x,l⟩;cases x with
    | @cons j _ d _ p y=>
     rw[TK.depAll]at l;refine wB1 (ih (k:=j) (by lia) p ?_);simp only[b6,bF1,if_false];exact wP1 ⟨O,O,d,y,by lia⟩
   ·rintro⟨z,r2⟩ s' ⟨e,rfl,_⟩;simp only at e;subst e;exact wP1 h
def fX(prog:c5)(w:c7):HeapKind prog w TK where
 is:=λh k a=>gz h k (.ref a)/\k.dep<=8
 hash:=TK.hash
 draws:=TK.draws
 room:=λA=>A.units+8<cLine
 inj:=λhx hy=>hx.1.inj hy.1
 keeps:=λx ho hd hs=>⟨x.1.keeps ho hd hs,x.2⟩
 pyHash:=λhu hk h=>yu _ (by have:=hk.2;omega) hk.1 h
 eqBool:=λhu hx hy h=>Lr 8 hx.2 hu hx.1 hy.1 _ _ _ _ h
 quiet:=λhk h=>Bj 8 hk.2 hk.1 h
def CM:G2:=λo v S=>match o,v with
 | .ref n,.ref b=>match S[n]?,S[b]? with
  |some (.lst xs),Z (.lst ys)=>if xs.length+ys.length<=da then Z (.non,S.set n (.lst (xs++ys)))else Y
  |_,_=>Y
 |_,_=>Y
section
open PySem.MeetsSeq PySem.MeetsSeq2 PySem.MeetsSeq3 PySem.SeqRoads2
end
theorem J7:JM X "list.extend" (λx xs H Q=>rN X.K (b2 CM) (x::xs) H Q):=by
 intro ag s σ H x xs v q Q I j p h;obtain⟨z,y,mu,S,d,e,B,A,u,r,r2,g,a,hc⟩:=Bf h;cases u;unfold CM at a;split at a
 ·rename_i n b;split at a
  ·rename_i ys zs l w;split at a
   ·rename_i o;cases a;cases r with
    |ref c=>cases r2 with
     |ref k=>
      obtain⟨vs,f,t⟩:=g.lst l c;obtain⟨ws,m,i⟩:=g.lst w k;refine zu ag s σ H _ _ v q Q I j p ⟨_,_,vs,ws,O,O,f,m,by rw[<- t.length,<- i.length];exact o,?_⟩;exact hc _ _ mu (Ext.put f trivial (gM1 c)) .non (g.putL (t.append i) c f)
   ·cases a
  ·cases a
 ·cases a
mutual
def kD:D->Option TK
 | .non=>Z .non
 | .int i=>Z (.int i)
 | .tup xs=>(Cq xs).map .tup
 |_=>Y
def Cq:List D->Option (List TK)
 |[]=>Z []
 |x::xs=>(kD x).bind λk=>(Cq xs).map (k :: ·)
end
def keyT:D->Option TK
 | .tup xs=>(Cq xs).bind λks=>if(TK.tup ks).dep<=8 then Z (.tup ks)else Y
 |_=>Y
mutual
theorem La:∀{d:D} {k:TK},kD d=Z k->tkD k=d
 | .non,k,h=>by cases h;rfl
 | .int i,k,h=>by cases h;rfl
 | .tup xs,k,h=>by
  rw[kD]at h;obtain⟨ks,e,h⟩:=oM1.mp h;subst h;rw[tkD,wW e]
 | .bl _,k,h=>by simp[kD]at h
 | .str _,k,h=>by simp[kD]at h
 | .rol _,k,h=>by simp[kD]at h
 | .fn _,k,h=>by simp[kD]at h
 | .ref _,k,h=>by simp[kD]at h
theorem wW:∀{ds:List D} {ks:List TK},Cq ds=Z ks->lN ks=ds
 |[],ks,h=>by cases h;rfl
 |x::xs,ks,h=>by
  rw[Cq]at h;obtain⟨k,a,h⟩:=oB1.mp h;obtain⟨t,b,h⟩:=oM1.mp h;subst h;rw[lN,La a,wW b]
end
theorem yk{d:D}{k:TK}(h:keyT d=Z k):tkD k=d/\k.dep<=8 /\ ∃xs,k = .tup xs:=by
 cases d with
 |tup xs=>
  rw[keyT]at h;obtain⟨ks,e,h⟩:=oB1.mp h;split at h
  ·rename_i a;cases h;exact⟨by rw[tkD,wW e],a,ks,O⟩
  ·cases h
 |_=>cases h
section
variable{ag:List (c4×Obj)}{σ:L2.St}{H:Hp}{s:c3}{mu:List c4}
mutual
theorem xM(I:Inv X ag σ H s):∀(k:TK) {v:V} {u:cZ},eP X.K H mu (tkD k) v->dS v u->gz s.heap k u
 | .non,v,u,r,q=>by
  rw[tkD]at r;cases r;cases q;exact .non
 | .int i,v,u,r,q=>by
  rw[tkD]at r;cases r;obtain⟨t,rfl⟩:=q;exact .int i t
 | .tup xs,v,u,r,q=>by
  rw[tkD]at r;cases r with
  |tup h t=>
   cases q;obtain⟨b,d,⟨o,a,c,n,e⟩,_⟩:=I.tuple h;exact .tup a c e (by simpa using AU I xs t d)
theorem AU(I:Inv X ag σ H s):∀(ks:List TK) {vs:List V} {a:List cZ},dI X.K H mu (lN ks) vs->d4 vs a->iw s.heap ks a
 |[],vs,a,r,q=>by rw[lN]at r;cases r;cases q;exact .nil
 |k::ks,vs,a,r,q=>by
  rw[lN]at r;cases r with
  |cons r t=>cases q with
   |cons q p=>exact .cons (xM I k r q) (AU I ks t p)
end
theorem wF{α β γ δ:Type}{F:α->β->Prop}{G:γ->δ->Prop}{f:α->γ}{g:β->δ}:∀{l₁:List α} {l₂:List β},Paired F l₁ l₂->(∀a b,F a b->G (f a) (g b))->Paired G (l₁.map f) (l₂.map g):=by
 intro a b h g
 induction h with
 |nil=>exact .nil
 |cons r t ih=>exact .cons (g _ _ r) ih
theorem wG{α β:Type}{F:α->β->Prop}:∀{l₁ f:List α} {l₂ e:List β},Paired F l₁ l₂->Paired F f e->Paired F (l₁++f) (l₂++e):=by
 intro a b c d h g
 induction h with
 |nil=>exact g
 |cons r t ih=>exact .cons r ih
theorem KT.length{K:Fg1}:∀{ks:List (TK×D)} {ws:List (TK×c4×cZ)},KT K H mu ks ws->ks.length=ws.length:=λh=>Paired.length h
theorem KT.mem{K:Fg1}:∀{ks:List (TK×D)} {ws:List (TK×c4×cZ)},KT K H mu ks ws -> ∀x∈ws,x.1.dep<=8/\eP K H mu (tkD x.1) (.ref x.2.1):=by
 intro ks ws a x h
 induction a with
 |nil=>cases h
 |cons r t ih=>
  rcases aE.mp h with e|e
  ·subst e;rw[<- r.1];exact⟨r.2.1,r.2.2.1⟩
  ·exact ih e
theorem KT.look{K:Fg1}{k:TK}:∀ {ks:List (TK×D)} {ws:List (TK×c4×cZ)},KT K H mu ks ws ->
  (∀d,dZ ks k=Z d -> ∃p v,atKey ws k=Z p/\dS v p.2/\eP K H mu d v)/\(atKey ws k).isSome=(dZ ks k).isSome:=by
 intro ks ws h
 induction h with
 |nil=>exact⟨λd h=>by simp[dZ]at h,O⟩
 | @cons p j ks ws r t ih=>
  obtain⟨a,e⟩:=p;obtain⟨l,a2,c⟩:=j;obtain⟨z,d,q,v,f,r⟩:=r;dsimp only at z q f r;subst z;obtain⟨h1,h2⟩:=ih;by_cases b:a=k
  ·subst b;refine⟨λd h=>?_,by simp[atKey,dZ]⟩;have:e=d:=by simpa[dZ]using h
   subst this;exact⟨(a2,c),v,by simp[atKey],f,r⟩
  ·have g:dZ ((a,e)::ks) k=dZ ks k:=by simp[dZ,bm,b]
   have i:atKey ((a,a2,c)::ws) k=atKey ws k:=by simp[atKey,bm,b]
   rw[g,i];exact⟨h1,h2⟩
theorem KT.put{K:Fg1}{k:TK}{d:D}{v:V}{a:c4}{u:cZ}(hk:k.dep<=8)(l:eP K H mu (tkD k) (.ref a))(g:dS v u)(q:eP K H mu d v){ks:List (TK×D)}{ws:List (TK×c4×cZ)}(h:KT K H mu ks ws):KT K H mu (eX ks k d) (storedH ws k a u):=by
 unfold eX storedH;have e:(ks.any λp=>decide (p.1=k))=(atKey ws k).isSome:=by
  rw[h.look.2];unfold dZ;rw[bp,bT,List.find?_isSome,bU]
 rw[e];split
 ·clear e;refine wF h λp w ⟨z,f,i,j,c,m⟩=>?_;unfold putAt;by_cases b:p.1=k
  ·rw[ak b,ak (by rw[<- z];exact b)];exact⟨z,f,i,v,g,q⟩
  ·rw[aj b,aj (by rw[<- z];exact b)];exact⟨z,f,i,j,c,m⟩
 ·exact wG h (.cons ⟨O,hk,l,v,g,q⟩ .nil)
theorem vH(I:Inv X ag σ H s){a:c4}{xs:List (TK×c4×cZ)}{kvs:List (TK×D)}(e:H a=Z (.ext (iX a xs)))(h:KT X.K H mu kvs xs):(a == sysModules)=J/\s.heap.DictOfH (fX X.prog X.w) a xs:=by
 obtain⟨⟨h1,h2,o,es,ep,c,d,f,g⟩,_⟩:=(show eL X.prog X.w H s.heap a (.ext (iX a xs))from I.hok a _ e);exact⟨h1,o,es,ep,c,d,f,g,λx b=>⟨xM I _ (h.mem x b).2 O,(h.mem x b).1⟩,h2⟩
theorem tS{h:df}{a:c4}{xs:List (TK×c4×cZ)}(hd:(a == sysModules)=J)(hm:h.DictOfH (fX X.prog X.w) a xs):eL X.prog X.w H h a (.ext (iX a xs)):=by
 obtain⟨o,es,ep,d,g,i,j,n,k⟩:=hm;refine⟨⟨hd,k,o,es,ep,d,g,i,j⟩,⟨o,d⟩,λp m ⟨a1,a2,o',b,c,b3,f,e,l⟩ st=>⟨a1,a2,o',b,c,st _ b3,f,e,l⟩⟩
end
def fY:G2:=λd e S=>match e with
 | .ref n=>match S[n]? with
  |some (.dcT kvs)=>(keyT d).map λk=>(.bl (dZ kvs k).isSome,S)
  |_=>w9 d e S
 |_=>w9 d e S
def gZ:G2:=λd e S=>match e with
 | .ref n=>match S[n]? with
  |some (.dcT kvs)=>(keyT d).map λk=>(.bl (!(dZ kvs k).isSome),S)
  |_=>kN d e S
 |_=>kN d e S
def dz:G2:=λd e S=>match d with
 | .ref n=>match S[n]? with
  |some (.dcT kvs)=>(keyT e).bind λk=>(dZ kvs k).map λx=>(x,S)
  |some (.dcF kvs)=>(keyT e).bind λk=>(dZ kvs k).map λx=>(x,S)
  |_=>mS d e S
 |_=>mS d e S
def gJ:G3:=λo i v S=>match o with
 | .ref n=>match S[n]? with
  |some (.dcT kvs)=>(keyT i).bind λk=>if kvs.length<da then Z (.non,S.set n (.dcT (eX kvs k v)))else Y
  |some (.dct [])=>match keyT i with
   |some k=>Z (.non,S.set n (.dcT [(k,v)]))
   |none=>l8 o i v S
  |_=>l8 o i v S
 |_=>l8 o i v S
theorem nw{κ:Type}[DecidableEq κ](kvs:List (κ×D))(k:κ)(d:D):(eX kvs k d).length<=kvs.length+1:=by
 unfold eX;split
 ·rw[lM1];lia
 ·simp
theorem vB{h:df}{a:c4}(dd:h.DictOf (eE X.prog X.w) a []):h.DictOfH (fX X.prog X.w) a []:=by
 obtain⟨o,es,ep,h1,h2,d,_,b,_⟩:=dd;have e:es.toList=[]:=by
  generalize es.toList=l at b;cases b;rfl
 exact⟨o,es,ep,h1,h2,d,e,(λx c=>by simp at c),bA⟩
theorem jB{A:c6}(a:A.units+64<cLine):(fX X.prog X.w).room A.in1:=by
 show A.units+1+8<cLine;lia
theorem j9{ag:List (c4×Obj)}{σ:L2.St}{H:Hp}{s:c3}{mu:List c4}(I:Inv X ag σ H s){d:D}{v:V}{u:cZ}{k:TK}(r:eP X.K H mu d v)(q:dS v u)(h:keyT d=some k):
  ∃a,u = .ref a/\v = .ref a/\eP X.K H mu (tkD k) (.ref a)/\k.dep<=8/\(fX X.prog X.w).is s.heap k a:=by
 obtain⟨e,b,xs,ex⟩:=yk h;subst e;have is:=xM I k r q;subst ex;cases id is with
 | @tup a _ _ _ _ _ _ _ _=>
  rw[tkD]at r;cases r with
  |tup h1 h2=>
   cases q;exact⟨a,O,O,by rw[tkD];exact .tup h1 h2,b,is,b⟩
theorem j4(o:X.A.units+64<cLine):fP X (compareOp .In) (r2 X.K (b2 fY)):=by
 intro ag s σ H x y u w Q I g i h;obtain⟨mu,S,d,e,r,j,m,c,f,b,hc⟩:=qu h;have back:w9 d e S=Z (r,j)->db (model X.prog X.w) X.A (compareOp .In u w) (EP X ag σ Q) X.xe s:=λb=>KW o ag s σ H x y u w Q I g i ⟨mu,S,[d,e],r,j,.cons m (.cons c .nil),f,b,hc⟩;unfold fY at b;split at b
 ·rename_i n;split at b
  ·rename_i kvs q;obtain⟨k,A,b⟩:=oM1.mp b;cases b;cases c with
   |ref t=>
    cases i;obtain⟨xs,p,l,_⟩:=f.dcT q t;obtain⟨z,v⟩:=vH I p l;obtain⟨a,rfl,rfl,_,_,hi⟩:=j9 I m g A;refine wpAny_in_heap (jB o) hi z v ?_;exact⟨.bl (atKey xs k).isSome,H,I.tok _,O,by rw[l.look.2];exact hc.now (.bl _) f⟩
  ·exact back b
 ·exact back b
theorem uZ(o:X.A.units+64<cLine):fP X (compareOp .NotIn) (r2 X.K (b2 gZ)):=by
 intro ag s σ H x y u w Q I g i h;obtain⟨mu,S,d,e,r,j,m,c,f,b,hc⟩:=qu h;have back:kN d e S=Z (r,j)->db (model X.prog X.w) X.A (compareOp .NotIn u w) (EP X ag σ Q) X.xe s:=λb=>BR o ag s σ H x y u w Q I g i ⟨mu,S,[d,e],r,j,.cons m (.cons c .nil),f,b,hc⟩;unfold gZ at b;split at b
 ·rename_i n;split at b
  ·rename_i kvs q;obtain⟨k,A,b⟩:=oM1.mp b;cases b;cases c with
   |ref t=>
    cases i;obtain⟨xs,p,l,_⟩:=f.dcT q t;obtain⟨z,v⟩:=vH I p l;obtain⟨a,rfl,rfl,_,_,hi⟩:=j9 I m g A;refine wpAny_notIn_heap (jB o) hi z v ?_;exact⟨.bl (!(atKey xs k).isSome),H,I.tok _,O,by rw[l.look.2];exact hc.now (.bl _) f⟩
  ·exact back b
 ·exact back b
theorem Jj{ag:List (c4×Obj)}{σ:L2.St}{H:Hp}{s:c3}{mu:List c4}(I:Inv X ag σ H s){a:c4}{xs:List (TK×c4×cZ)}{kvs:List (TK×D)}(e:∃o u,H a=Z (.frz o u)/\GJ a xs o)(h:KT X.K H mu kvs xs):(a == sysModules)=J/\s.heap.DictOfH (fX X.prog X.w) a xs:=by
 obtain⟨o,u,e,h1,h2,d,es,ep,f,g⟩:=e;obtain⟨c,_⟩:=(show eL X.prog X.w H s.heap a (.frz o u)from I.hok a _ e);exact⟨h1,o,es,ep,c,d,f,g,λx b=>⟨xM I _ (h.mem x b).2 O,(h.mem x b).1⟩,h2⟩
theorem qP(F:X.A.units+64<cLine):GH X (r2 X.K (b2 dz)):=by
 intro value c ag s σ H x y v u Q I B G h q;obtain⟨mu,S,d,e,r,E,A,o,t,f,hc⟩:=qu h;have back:mS d e S=Z (r,E)->db (model X.prog X.w) X.A (subscriptTail value c v u) (EP X ag σ Q) X.xe s:=λf=>JU F value c ag s σ H x y v u Q I B G ⟨mu,S,[d,e],r,E,.cons A (.cons o .nil),t,f,hc⟩ q;have g:∀kvs a xs,v = .ref a->KT X.K H mu kvs xs->s.heap.DictOfH (fX X.prog X.w) a xs->((keyT e).bind λk=>(dZ kvs k).map λx=>(x,S))=Z (r,E)->db (model X.prog X.w) X.A (subscriptTail value c v u) (EP X ag σ Q) X.xe s:=λkvs a xs P l K f=>by
  obtain⟨k,L,f⟩:=oB1.mp f;obtain⟨z,N,f⟩:=oM1.mp f;cases f;subst P;obtain⟨b,rfl,rfl,_,_,hi⟩:=j9 I o G L;obtain⟨p,au,ep,ao,R⟩:=l.look.1 _ N;have am:=K.typeIs;unfold subscriptTail;refine wB1 ?_;rw[getitemInPython_of_ne am.not_modules];refine wB1 (wpAny_specialOf am PySem.F.slot_dict_getitem.lookup ?_);have j:db (model X.prog X.w) X.A (subscripted c J (.ref a) (.ref b)) (λr i=>db (model X.prog X.w) X.A (letTemporaryGo value (.ref a) r >>= λ_=>pure r) (EP X ag σ Q) X.xe i) X.xe s:=by
   rw[q];exact wpAny_operating (wpAny_mono (wpAny_getItem_heap (jB F) hi K ep (show EP X ag σ Q p.2 _ from⟨au,H,I.tok _,ao,hc.now R t⟩)) (λr i m=>wB1 (wpAny_letTemporaryGo (wP1 m))) λ_ _ x=>x)
  first
   |exact wP1 (wB1 j)
   |exact wB1 j
   |exact j
 unfold dz at f;split at f
 ·rename_i n;split at f
  ·rename_i kvs w;cases A with
   | @ref _ a D=>
    cases B;obtain⟨xs,C,l,_⟩:=t.dcT w D;exact g kvs a xs O l (vH I C l).2 f
  ·rename_i kvs w;cases A with
   | @ref _ a D=>
    cases B;obtain⟨xs,C,l,_⟩:=(show qw X.K H mu a (.dcF kvs)from t.ob n _ a w D);exact g kvs a xs O l (Jj I C l).2 f
  ·exact back f
 ·exact back f
theorem mE(D:X.A.units+64<cLine):xB X (rU X.K (b3 gJ)):=by
 intro ag s σ H o i v P R u Q I G E w h;obtain⟨mu,S,ds,d,T,wq,l,a,hc⟩:=id h;cases wq with
 |cons K W=>cases W with
  |cons L U=>cases U with
   |cons r aq=>
    cases aq;rename_i N au A;dsimp only[b3]at a;have back:l8 N au A S=Z (d,T)->db (model X.prog X.w) X.A (setItem P R u) (λ_ s'=>∃H',Inv X ag σ H' s'/\Q H') X.xe s:=λa=>G8 D ag s σ H o i v P R u Q I G E w ⟨mu,S,[N,au,A],d,T,.cons K (.cons L (.cons r .nil)),l,a,hc⟩;unfold gJ at a;split at a
    ·rename_i n;split at a
     ·rename_i kvs y;obtain⟨k,C,a⟩:=oB1.mp a;split at a
      ·rename_i hl;cases a;cases K with
       | @ref _ j f=>
        cases G;obtain⟨xs,t,m,V⟩:=l.dcT y f;obtain⟨B,ao⟩:=vH I t m;obtain⟨b,rfl,rfl,rk,x,hi⟩:=j9 I L E C;refine wpAny_setItem_heap (hsz:=V) (jB D) hi ao λh' e c=>?_;have g:∃q,h'.get? _=Z q:=let ⟨q,_,_,g,_⟩:=e;⟨q,g⟩
        have put:Ext mu mu H (upd H j (.ext (iX j (storedH xs k b u)))):=Ext.put t trivial (gM1 f);refine⟨_,mf I (by rw[t];exact True.intro) c g (tS B e),hc _ mu put (l.put f t trivial ⟨_,d8,((m.put x rk w r).ext put),?_⟩)⟩;rw[<- (m.put x rk w r).length];have:=nw kvs k A;lia
      ·cases a
     ·rename_i y;split at a
      ·rename_i k C;cases a;cases K with
       | @ref _ j f=>
        cases G;obtain⟨ws,p,m⟩:=l.dct y f;cases m;obtain⟨z,B,vs,F,ao⟩:=yD I.hok p;cases F;obtain⟨b,rfl,rfl,rk,x,hi⟩:=j9 I L E C;have am:s.heap.DictOfH (fX X.prog X.w) _ []:=vB ao;refine wpAny_setItem_heap (hsz:=br _) (jB D) hi am λh' e c=>?_;have g:∃q,h'.get? _=Z q:=let ⟨q,_,_,g,_⟩:=e;⟨q,g⟩
        have put:Ext mu mu H (upd H j (.ext (iX j (storedH [] k b u)))):=Ext.put p trivial (gM1 f);exact⟨_,mf I (by rw[p];exact True.intro) c g (tS B e),hc _ mu put (l.put f p trivial ⟨_,d8,KT.ext put (.cons ⟨O,x,rk,v,w,r⟩ .nil),(show 1<=da by decide)⟩)⟩
      ·exact back a
     ·exact back a
    ·exact back a
def Kd(i j k:Nat)(ta:TA):TS:=λD σ H=>ta σ H λvs H1=>∃u v w,vs=[u,v,w]/\D.nx (((σ.set i (Z u)).set j (Z v)).set k (Z w)) H1
theorem D7{X:Cx}{i j k:Nat}{x y z:Str}{es:List Expr}{ta:TA}{n m w pt pos:Pos}{kt k2 pt2}(hc:X.calm=true)(hN:X.N.Nodup)(hi:X.N[i]? = some x)(F:X.N[j]? = some y)(hk:X.N[k]? = some z)(q:i≠j)(u:i≠k)(A:j≠k)(hx:X.env.scope.names.lookup x=some .local)(hy:X.env.scope.names.lookup y=some .local)(hz:X.env.scope.names.lookup z=some .local)(ha:PA X es ta)(hw:swappedStores [.Tuple [.Name x n,.Name y m,.Name z w] kt pt] (.Tuple es k2 pt2) X.env=pure (some [x,y,z]))(hs:swapsWithSole [.Tuple [.Name x n,.Name y m,.Name z w] kt pt] (.Tuple es k2 pt2) pos.line X.env=pure false):
  PS X (.Assign [.Tuple [.Name x n,.Name y m,.Name z w] kt pt] (.Tuple es k2 pt2) pos) (Kd i j k ta):=by
 intro ag s σ H D I h;rw[exec_Assign_arm];refine wB1 (wpAny_standAt ?_);rw[hs];refine wB1 (wP1 ?_);rw[aj (by decide)];refine wB1 (Tuple_ (fe (ha _ ag s σ H _ I h) λR f ⟨vs,H1,au,K,a,b,c,Q,r⟩=>?_));subst Q;obtain⟨d,g,u3,rfl,G,L,S⟩:∃d g u3,R=[d,g,u3]/\dS a d/\dS b g/\dS c u3:=by
  cases K with
  |cons p t=>cases t with
   |cons E t=>cases t with
    |cons B t=>cases t;exact⟨_,_,_,O,p,E,B⟩
 refine wO1 ?_ (by show 3<=da;decide);have am:Inv X ag σ H1 {f with heap:=f.heap.push {cls:=.type "tuple",data:=.seq [d,g,u3].toArray}}:=au.kept (t':=f.toks) λb o e=>hP1 _ e;rw[hw];refine wB1 (wP1 ?_);show db (model X.prog X.w) X.A (do rule "assign.swapped-stores";let items<-unpackItems (.ref f.heap.objs.size) 3 Y;assignInOrder [λv=>bindName X.env z v,λv=>bindName X.env y v,λv=>bindName X.env x v] items.reverse;pure Flow.next) _ _ _;refine wB1 (wpAny_rule (wB1 (unpackItems_tuple (items:= #[d,g,u3]) (I.ok.hd hc) (IsTup.new f.heap _) λh' l=>?_)));have P:=am.kept (h':=h') (t':=f.toks) λb o e=>l b o (nN1 (hL1 e)) e;show db _ _ (assignInOrder [λv=>bindName X.env z v,λv=>bindName X.env y v,λv=>bindName X.env x v] [u3,g,d] >>= λ_=>pure Flow.next) _ _ _;refine wB1 (assignInOrder_cons (wpAny_bindName (hR P hN hk (.inl hz) S (λT N=>?_) (.inr hz))));refine assignInOrder_cons (wpAny_bindName (hR N hN F (.inl hy) L (λU ao=>?_) (.inr hy)));refine assignInOrder_cons (wpAny_bindName (hR ao hN hi (.inl hx) G (λV C=>assignInOrder_nil (wP1 ?_)) (.inr hx)));rw[aJ _ _ (Ne.symm q),aJ _ _ (Ne.symm u),aJ _ _ (Ne.symm A)]at C;exact⟨_,H1,C,r⟩
theorem AB{X:Cx}(i j k:Nat){x y z:Str}{es:List Expr}{m:FA}{h g o pt pos:Pos}{kt k2 pt2}(hc:X.calm=true)(hN:X.N.Nodup)(hi:X.N[i]? = some x)(t:X.N[j]? = some y)(hk:X.N[k]? = some z)(l:i≠j)(n:i≠k)(p:j≠k)(hx:X.env.scope.names.lookup x=some .local)(hy:X.env.scope.names.lookup y=some .local)(hz:X.env.scope.names.lookup z=some .local)(ha:XA X es m)(hw:autoParam (swappedStores [.Tuple [.Name x h,.Name y g,.Name z o] kt pt] (.Tuple es k2 pt2) X.env=pure (some [x,y,z])) cu0)(hs:autoParam (swapsWithSole [.Tuple [.Name x h,.Name y g,.Name z o] kt pt] (.Tuple es k2 pt2) pos.line X.env=pure false) cu0):
  XS X (.Assign [.Tuple [.Name x h,.Name y g,.Name z o] kt pt] (.Tuple es k2 pt2) pos) (dH (d7 m) (gT 3 (eT (gN i) (eT (gN j) (eT (gN k) i8))))):=
 ⟨iJ (D7 hc hN hi t hk l n p hx hy hz ha.h hw hs) <| by
  rintro E σ H ⟨r,mu,S,f,F,I,s,hs,e,hc⟩;obtain⟨⟨d,G⟩,c,e⟩:=oB1.mp e;obtain⟨⟨r2,D⟩,a,e⟩:=oB1.mp e;cases e;obtain⟨⟨ds,C⟩,B,c⟩:=oB1.mp c;dsimp only at c;split at c
  ·cases c;refine⟨r,mu,S,ds,_,s,hs,B,λvs H1 mu1 q b v=>?_⟩;dsimp only at a;rw[gT]at a;split at a
   ·cases b with
    |nil=>cases a
    |cons w b=>cases b with
     |nil=>cases a
     |cons A b=>cases b with
      |nil=>cases a
      |cons u b=>cases b with
       |nil=>
        cases a;exact⟨_,_,_,O,hc _ H1 mu1 q ((((s.ext q).set w).set A).set u) v⟩
       |cons _ _=>cases a
   ·cases a
  ·cases c⟩
def wr(S:dr)(d:D):Option Bool:=match d with
 | .non=>Z J
 | .bl b=>Z b
 | .int i=>Z (i != 0)
 | .str y=>if y.length<=da then Z ((y.length:Int) != 0)else Y
 | .ref n=>match S[n]? with
  |some (.dct kvs)=>Z (!kvs.isEmpty)
  |_=>(dQ S d).map λp=> !p.2.isEmpty
 |_=>(dQ S d).map λp=> !p.2.isEmpty
noncomputable def mTr (m:FE):FT:=λr S=>(m r S).bind λp=>(wr p.2 p.1).map λb=>(b,p.2)
section
variable{K:Fg1}{H:Hp}{mu:List c4}{S:dr}
theorem sR{d:D}{v:V}{b:Bool}(r:eP K H mu d v)(s:Sim K H mu S)(h:((dQ S d).map λp=> !p.2.isEmpty)=Z b):F4 K v H b:=by
 obtain⟨⟨k,xs⟩,e,h⟩:=oM1.mp h;obtain⟨a,vs,rfl,q,t⟩:=dJ r s e;have z:(!xs.isEmpty) = !vs.isEmpty:=by cases t<;>rfl
 dsimp only at h;rw[z]at h;cases k
 ·exact .inr (.inl ⟨vs,q,h.symm⟩)
 ·exact .inl ⟨vs,q,h.symm⟩
theorem GV{d:D}{v:V}{b:Bool}(r:eP K H mu d v)(s:Sim K H mu S)(h:wr S d=Z b):F4 K v H b:=by
 cases d with
 |non=>cases r;cases h;rfl
 |bl k=>cases r;cases h;rfl
 |int i=>cases r;cases h;rfl
 |str y=>
  rw[wr]at h;split at h
  ·rename_i f;cases r;cases h;exact⟨f,O⟩
  ·cases h
 |tup xs=>exact sR r s h
 |rol xs=>exact sR r s h
 |fn x=>cases h
 |ref n=>
  rw[wr]at h;split at h
  ·rename_i kvs a;cases h;cases r with
   |ref c=>
    obtain⟨ws,e,g⟩:=s.dct a c;refine .inr (.inr ⟨ws,e,?_⟩);cases g<;>rfl
  ·exact sR r s h
end
theorem fv{X:Cx}{x:Expr}{f:FE}(h:XE X x f)(he:autoParam (∀a,isTrue x X.env a=(do let v<-a;standAt x.pos;holding [v] (truthy v))) du0):XT X x (mTr f):=
 ⟨wA (Bn h.h he) <| by
  rintro σ H Q ⟨r,mu,S,b,n,he,j,c,hc⟩;obtain⟨⟨m,l⟩,e,c⟩:=oB1.mp c;obtain⟨b1,i,c⟩:=oM1.mp c;cases c;exact⟨r,mu,S,_,_,he,j,e,λv H1 mu1 k g d=>⟨_,GV g d i,hc H1 mu1 k d⟩⟩⟩
section
variable{ag:List (c4×Obj)}{σ:L2.St}{H:Hp}{s:c3}{mu:List c4}
end
def mP:List D->Option (List Int)
 |[]=>Z []
 | .int i::ds=>(mP ds).map λis=>i::is
 |_=>Y
def ddI(ns:List Int):List Int:=ns.foldl step_dedup []
theorem vI:∀(ns acc:List Int),acc.Nodup->(ns.foldl step_dedup acc).Nodup
 |[],acc,h=>h
 |n::ns,acc,h=>by
  rw[bg];refine vI ns _ ?_;unfold step_dedup;split
  ·exact h
  ·rename_i d;rw[bG];refine⟨h,by simp,λa f b c e=>?_⟩;simp at c;apply d;rw[bU];exact⟨a,f,by simp[e,c]⟩
theorem zK{K:Fg1}{H:Hp}{mu:List c4}:∀{ds:List D} {vs:List V} {b:List cZ} {ns:List Int},dI K H mu ds vs->d4 vs b->mP ds=Z ns->IntsAre b ns/\ns.length=ds.length:=by
 intro ds vs b ns g a h
 induction g using dI.ind generalizing b ns with
 |hn=>cases h;cases a;exact⟨.nil,O⟩
 | @hc d v ds vs r t ih=>
  cases d with
  |int i=>
   obtain⟨c,e,h⟩:=oM1.mp h;cases h;cases r;cases a with
   |cons r a=>
    obtain⟨f,j⟩:=ih a e;obtain⟨tk,rfl⟩:=r;exact⟨.cons _ _ f,by rw[lC1,lC1,j]⟩
  |_=>cases h
def M9:G1:=λd S=>match dQ S d with
 |some (M,xs)=>(mP xs).bind λns=>if ns.length+1<scanBound then Z (.ref S.length,S++[.iset (ddI ns)])else Y
 |_=>Y
def NM:G1:=λd S=>match d with
 | .ref n=>match S[n]? with
  |some (.iset xs)=>Z (.int xs.length,S)
  |_=>eA d S
 |_=>eA d S
def r6:G2:=λd e S=>match d,e with
 | .ref n,.int k=>match S[n]? with
  |some (.lst xs)=>if-(2^63)<=k/\k<2^63/\xs.length*k.toNat<=da then Z (.ref S.length,S++[.lst (aP k.toNat xs).flatten])else Y
  |_=>Y
 |_,_=>Y
theorem dI.rep{K:Fg1}{H:Hp}{mu:List c4}{ds:List D}{vs:List V}(r:dI K H mu ds vs):∀k:Nat,dI K H mu (aP k ds).flatten (aP k vs).flatten
 |0=>.nil
 |k+1=>by rw[aZ,aZ,a0,a0];exact dI.append r (dI.rep r k)
theorem Ia:fP X (binaryOp .Mult) (r2 X.K (b2 r6)):=by
 intro ag s σ H x y u w Q I g m h;obtain⟨mu,S,d,e,r,q,o,r2,c,a,hc⟩:=qu h;unfold r6 at a;split at a
 ·rename_i n k;split at a
  ·rename_i xs j;split at a
   ·rename_i b;cases a;cases o with
    |ref i=>
     cases r2;obtain⟨vs,l,t⟩:=c.lst j i;refine HP ag s σ H _ _ u w Q I g m ⟨_,k,vs,O,O,l,b.1,b.2.1,by rw[<- t.length];exact b.2.2,λp f=>?_⟩;exact hc _ _ (mu++[p]) (Ext.new_ f) (.ref (gh c.len p)) (c.newL (dI.rep t k.toNat) f)
   ·cases a
  ·cases a
 ·cases a
@[elab_as_elim] theorem Ot {P:List cZ->Prop}{us:List cZ}(l:us.length=0)(f:P []):P us:=by
 cases us with
 |nil=>exact f
 |cons _ _=>cases l
@[elab_as_elim] theorem NK {P:List cZ->Prop}{us:List cZ}(l:us.length=1)(f:∀a,P [a]):P us:=by
 cases us with
 |nil=>cases l
 |cons a us=>exact Ot (P:=λus=>P (a::us)) (Nat.succ.inj l) (f a)
@[elab_as_elim] theorem NJ {P:List cZ->Prop}{us:List cZ}(l:us.length=2)(f:∀a b,P [a,b]):P us:=by
 cases us with
 |nil=>cases l
 |cons a us=>exact NK (P:=λus=>P (a::us)) (Nat.succ.inj l) (f a)
@[elab_as_elim] theorem M0 {P:List cZ->Prop}{us:List cZ}(l:us.length=3)(f:∀a b c,P [a,b,c]):P us:=by
 cases us with
 |nil=>cases l
 |cons a us=>exact NJ (P:=λus=>P (a::us)) (Nat.succ.inj l) (f a)
@[elab_as_elim] theorem NI {P:List cZ->Prop}{us:List cZ}(l:us.length=4)(f:∀a b c d,P [a,b,c,d]):P us:=by
 cases us with
 |nil=>cases l
 |cons a us=>exact M0 (P:=λus=>P (a::us)) (Nat.succ.inj l) (f a)
@[elab_as_elim] theorem NH {P:List cZ->Prop}{us:List cZ}(l:us.length=5)(f:∀a b c d e,P [a,b,c,d,e]):P us:=by
 cases us with
 |nil=>cases l
 |cons a us=>exact NI (P:=λus=>P (a::us)) (Nat.succ.inj l) (f a)
end Mi
namespace HT
open PySem PySem.Spec PyProof.Rows
variable{prog:c5}{w:c7}{A:c6}{E:cZ->c3->Prop}{s:c3}
theorem mz{sl:c4}{t:Tok}{n:Nat}{Q:Int×Int×Nat->c3->Prop}(hs:s.heap.IsSliceOf sl .none .none (.int (-1) t))(h:Q ((n:Int)-1,-1,n) s):db (model prog w) A (Builtin.Slice.sliceApplied (.ref sl) (pure (n:Int))) Q E s:=by
 obtain⟨d,a,c,b⟩:=id hs;unfold Builtin.Slice.sliceApplied Builtin.Slice.sliceFields;refine wB1 (wB1 (wpAny_field a b (x:=.none) O (wB1 (wpAny_field a b (x:=.none) O (wB1 (wpAny_field a b (x:=.int (-1) t) O (wP1 ?_)))))));refine wB1 (iH (.int (-1) t) ?_);show db _ _ (if((-1:Int) == 0)=M then _ else _) _ _ s;rw[aj (by decide)];refine wB1 (iH .none (wB1 (iH .none (wB1 (wP1 ?_)))));show db _ _ (pure ((n:Int)-1,(-1:Int),Builtin.Slice.slicePlaces ((n:Int)-1) (-1) (-1))) _ _ s;have e:Builtin.Slice.slicePlaces ((n:Int)-1) (-1) (-1)=n:=by
  unfold Builtin.Slice.slicePlaces;have h1:¬ (-1:Int)>0:=by lia
  have h2: -(-1:Int)=1:=rfl;simp only[h1,if_false,h2,Int.ediv_one];split<;>lia
 rw[e];exact wP1 h
theorem CQ{α β:Type}{f g:α->Option β}:∀l:List α,(∀m,m∈l->f m=g m)->l.filterMap f=l.filterMap g:=by
 intro l
 induction l with
 |nil=>intro _;rfl
 |cons x l ih=>intro h;rw[aD,aD,h x (mS1 ..),ih λm a=>h m (mC1 _ a)]
theorem uN(xs:Array cZ):((af xs.size).filterMap λ(m:Nat)=>xs[(((xs.size:Int)-1)+(m:Int)*(-1)).toNat]?).toArray=xs.toList.reverse.toArray:=by
 congr 1
 have e:((af xs.size).filterMap λ(m:Nat)=>xs[(((xs.size:Int)-1)+(m:Int)*(-1)).toNat]?)=(af xs.size).filterMap λm=>xs.toList.reverse[m]?:=by
  apply CQ;intro m a;have a:=aB.mp a;rw[List.getElem?_reverse (by rw[aI];exact a),aT1,aI]
  congr 1
  lia
 rw[e];have:=pick_run xs.toList.reverse.toArray 0 xs.size;rw[aV]at this;have b:((λx=>xs.toList.reverse.toArray[x]?)∘λx=>0+x)=λm=>xs.toList.reverse[m]?:=by funext m;simp
 rw[b]at this;rw[this];simp only[List.drop_zero];exact b7 (by simp)
theorem l6 {t sl:c4}{items:Array cZ}{tk:Tok}{Q:cZ->c3->Prop}(ht:IsTup s.heap t items)(hs:s.heap.IsSliceOf sl .none .none (.int (-1) tk))
  (h:Q (.ref s.heap.objs.size) {s with heap:=s.heap.push {cls:=.type "tuple",data:=.seq items.toList.reverse.toArray}})
  (hsz:items.size<=da):db (model prog w) A (getItem (.ref t) (.ref sl)) Q E s:=by
 have a:sizeOk (.seq items.toList.reverse.toArray):=by
  show items.toList.reverse.toArray.size<=da;rw[sT1,b8,aI];exact hsz
 obtain⟨g,b,c,f⟩:=id hs;have e:s.TypeIs (.ref sl) "slice":=⟨g,b,c⟩;unfold getItem
 try with_reducible refine wpAny_holding ?_
 first|refine wB1 (wP1 ?_)|skip
 refine wB1 (wpAny_sequenceKey ht.typeIs (by decide) ?_);refine wB1 (wpAny_callSpecial?_slot (name:=Str.ofString "__getitem__") ht.typeIs PyProof.Rows.slot_tuple_getitem
  (wE1 PyProof.Rows.slot_tuple_getitem ht.typeIs entry_tuple_getitem ?_ (args_tuple_getitem _ _)))
 show db _ _ (Builtin.Tuple.tupleItemsOf (.ref t) >>= _) _ _ s;refine wB1 (tupleItemsOf_ ht ?_);refine wB1 (wpAny_typeOf e ?_);rw[ak (by decide)];refine wB1 (mz hs ?_);have d:¬ (((items.size:Int)-1 == 0&&(-1:Int) == 1&&items.size == items.size)=M):=by
  intro q;rw[bA1,bA1]at q;exact absurd (eq_of_beq q.1.2) (by decide)
 show db _ _ (if((items.size:Int)-1 == 0&&(-1:Int) == 1&&items.size == items.size)=M then _ else _) _ _ s;rw[aj d,uN]
 first
  |exact wB1 (m:=Builtin.Tuple.tupleExact _) (wO1 (wP1 ⟨_,rfl,wP1 h⟩) a)
  |exact wB1 (m:=Builtin.Tuple.tupleExact _) (wO1 (wB1 (wP1 (wP1 ⟨_,rfl,wP1 h⟩))) a)
  |exact wB1 (wB1 (m:=Builtin.Tuple.tupleExact _) (wO1 (wP1 (wP1 ⟨_,rfl,wP1 h⟩)) a))
  |exact wB1 (wB1 (m:=Builtin.Tuple.tupleExact _) (wO1 (wP1 ⟨_,rfl,wP1 h⟩) a))
end HT
namespace Mi
open PySem PySem.Spec PyProof.Rows L2
section
variable{X:Cx}
theorem ur:∀{xs:List V} {a:List cZ},d4 xs a->d4 xs.reverse a.reverse:=by
 intro xs
 induction xs with
 |nil=>intro a r;cases r;exact .nil
 |cons x xs ih=>
  intro a r;cases r with
  |cons b r2=>rw[aY,aY];exact(ih r2).append (.cons b .nil)
end
end Mi
namespace HT
open PySem PySem.Spec PyProof.Rows
section
variable{prog:c5}{w:c7}{A:c6}{R:Result->c3->Prop}{I ax L:c4}{xs:Array cZ}
end
section
variable{prog:c5}{w:c7}{A:c6}{E:cZ->c3->Prop}{s:c3}
end
end HT
namespace Mi
open PySem PySem.Spec PyProof.Rows L2
variable{X:Cx}
def Fm:G1:=λd S=>match d with
 | .int i=>if i.natAbs.log2<1920 then Z (.str (toString i),S)else Y
 |_=>Y
theorem LI:eM X (.type "str") (rN X.K (b1 Fm)):=by
 intro ag s σ H xs e Q I r h;obtain⟨x,mu,S,d,j,g,rfl,f,c,a,hc⟩:=zl h;cases d with
 |int i=>
  dsimp only[Fm]at a;split at a
  ·rename_i b;cases a;cases f;exact tY ag s σ H _ e Q I r ⟨_,O,b,hc.now (.str _) c⟩
  ·cases a
 |_=>cases a
section
variable{elt tg iter tg2 iter2 tg3 iter3:Expr}{ifs ifs2 ifs3:List Expr}{scope:dj}{pos:Pos}
end
def zM(a:Int):List Int->List Int
 |[]=>[a]
 |b::l=>if a<=b then a::b::l else b::zM a l
def i4:List Int->List Int
 |[]=>[]
 |a::l=>zM a (i4 l)
theorem mQ(a:Int):∀l:List Int,(zM a l).Perm (a::l)
 |[]=>.refl _
 |b::l=>by
  rw[zM];split
  ·exact .refl _
  ·exact((mQ a l).cons b).trans (.swap _ _ _)
theorem fI:∀l:List Int,(i4 l).Perm l
 |[]=>.refl _
 |a::l=>(mQ a _).trans ((fI l).cons a)
theorem yp{a:Int}:∀{l:List Int},l.Pairwise (· <= ·)->(zM a l).Pairwise (· <= ·)
 |[],_=>List.pairwise_singleton _ _
 |b::l,h=>by
  rw[b9]at h;rw[zM];split
  ·rename_i c;rw [b9,b9];exact ⟨fun x d=>by
    rcases aE.mp d with z|z
    ·lia
    ·have:=h.1 x z;lia,h.1,h.2⟩
  ·rename_i c;rw[b9];refine⟨λx d=>?_,yp h.2⟩;rcases aE.mp ((mQ a l).mem_iff.mp d)with z|z
   ·lia
   ·exact h.1 x z
theorem lO:∀l:List Int,(i4 l).Pairwise (· <= ·)
 |[]=>.nil
 |a::l=>yp (lO l)
theorem og:∀{a b:List Int},a.Perm b->a.Pairwise (· <= ·)->b.Pairwise (· <= ·)->a=b
 |[],b,p,_,_=>(List.nil_perm.mp p).symm
 |x::a,[],p,_,_=>absurd p.length_eq (by simp)
 |x::a,y::b,p,h1,h2=>by
  rw[b9]at h1 h2;have e:x=y:=by
   have f:=p.mem_iff.mp (mS1 (a:=x) (l:=a));have d:=p.mem_iff.mpr (mS1 (a:=y) (l:=b));rcases aE.mp f with z|z
   ·exact z
   ·rcases aE.mp d with c|c
    ·exact c.symm
    ·have:=h2.1 x z;have:=h1.1 y c;lia
  subst e;rw[og (List.perm_cons x |>.mp p) h1.2 h2.2]
def l5:List D->Option (List Int)
 |[]=>Z []
 | .int i::l=>(l5 l).map λt=>i::t
 |_=>Y
def kM:G1:=λd S=>match d with
 | .ref n=>match S[n]? with
  |some (.lst xs)=>(l5 xs).bind λns=>if ns.length<64 then Z (.ref S.length,S++[.lst ((i4 ns).map D.int)])else Y
  |_=>Y
 |_=>Y
theorem rW{K:Fg1}{H:Hp}{mu:List c4}:∀{ds:List D} {vs:List V} {a:List cZ} {ns:List Int},dI K H mu ds vs->d4 vs a->l5 ds=Z ns->IntsAre a ns:=by
 intro ds
 induction ds with
 |nil=>intro vs a ns r v h;cases r;cases v;cases h;exact .nil
 |cons d ds ih=>
  intro vs a ns r v h;cases r with
  |cons f t=>
   cases v with
   |cons c b=>
    cases f
    case int i=>
     obtain⟨m,e,h⟩:=oM1.mp h;subst h;obtain⟨tk,rfl⟩:=c;exact .cons i tk (ih t b e)
    all_goals cases h
theorem rY:∀{us:List cZ} {ns:List Int},IntsAre us ns->d4 (ns.map V.int) us:=by
 intro us ns h
 induction h with
 |nil=>exact .nil
 |cons i t _ ih=>exact .cons ⟨t,O⟩ ih
theorem zL:∀{ds:List D} {ns:List Int},l5 ds=Z ns->ns.length=ds.length:=by
 intro ds
 induction ds with
 |nil=>intro ns h;cases h;rfl
 |cons d ds ih=>
  intro ns h;cases d with
  |int i=>
   obtain⟨m,e,h⟩:=oM1.mp h;subst h;rw[lC1,lC1,ih e]
  |_=>cases h
theorem vO:eM X (.builtin "sorted") (rN X.K (b1 kM)):=by
 intro ag s σ H xs G Q I r h;obtain⟨x,mu,S,d,K,L,rfl,B,l,c,hc⟩:=zl h;cases d with
 |ref n=>
  dsimp only[kM]at c;split at c
  ·rename_i ds A;obtain⟨ns,v,c⟩:=oB1.mp c;split at c
   ·rename_i F;cases c;have f:dQ S (.ref n)=Z (M,ds):=by simp only[dQ,A]
    obtain⟨a,vs,rfl,q,t⟩:=dJ B l f;obtain⟨u,rfl,r2⟩:=io r;cases r2;obtain⟨g,y,C,E⟩:=I.list q;have D:=rW t y v;have w:g.length=ns.length:=by
     rw[<- y.length,<- t.length,zL v]
    refine sorted_ints C.isList D (by lia) λout p m z i=>?_;have j:p=i4 ns:=og (z.trans (fI ns).symm) i (lO ns);subst j;obtain⟨ep,k⟩:=sortedAll_at s.heap g out;have e:=I.hok.fresh (bc s.heap.objs.size);refine⟨.ref (s.heap.objs.size+1),_,I.laid (t':=s.toks) (o:=.lst ((i4 ns).map V.int)) (λb am q=>sortedAll_old q) (bc _) ?_,O,hc _ _ (mu++[_]) (Ext.new_ e) (.ref (gh l.len _)) (l.newL (kE _) e)⟩;refine⟨?_,out.toList,ep,rY m,by rw[Array.toArray_toList];exact k⟩;rw[lM1,(fI ns).length_eq,sizeLine_eq];lia
   ·cases c
  ·cases c
 |_=>cases c
theorem zn(its:List cZ):slicePick its.toArray Y Y (Z (-1))=its.reverse.toArray:=by
 have h:=HT.uN its.toArray;rw[sT1]at h;unfold slicePick;have b:sliceBounds Y Y (Z (-1)) its.toArray.size=(((its.length:Nat):Int)-1,-1,-1):=by
  rw[sT1];unfold sliceBounds;have h1:¬ ((Z (-1:Int)).getD 1>0):=by decide
  simp only[h1,if_false];rfl
 rw[b];unfold sliceRange;have hc:(if((its.length:Nat):Int)-1 > -1 then(((its.length:Nat):Int)-1 - -1 - -1-1)/(- -1)else 0).toNat=its.length:=by
  have h2: - (-1:Int)=1:=rfl;rw[h2,Int.ediv_one];split<;>lia
 dsimp only;rw[aj (by decide),hc,aV];have e:((λx=>its.toArray[x]?)∘λ(k:Nat)=>((its.length:Int)-1 + -1*(k:Int)).toNat)=λ(m:Nat)=>its.toArray[(((its.length:Int)-1)+(m:Int)*(-1)).toNat]?:=by
  funext m
  have a:((its.length:Int)-1 + -1*(m:Int)).toNat=(((its.length:Int)-1)+(m:Int)*(-1)).toNat:=by rw[Int.mul_comm]
  show its.toArray[((its.length:Int)-1 + -1*(m:Int)).toNat]?=its.toArray[(((its.length:Int)-1)+(m:Int)*(-1)).toNat]?;rw[a]
 rw[e,h]
def Ka(K:Fg1)(te tk:TE):TE:=fun σ H Q=>te σ H λx H1=>tk σ H1 λk H2=>k = .int (-1)/\((∃a xs,x = .ref a/\kS K H2 a xs /\ ∀p,H2 p=Y->Q (.ref p) (upd H2 p (.tup xs.reverse)))\/(∃a xs,x = .ref a/\m4 K H2 a xs /\ ∀p,H2 p=Y->Q (.ref p) (upd H2 p (.lst xs.reverse))))
theorem wD{e l:Expr}{te tk:TE}{pos p2:Pos}(he:PE X e te)(hk:PE X l tk):PE X (.Subscript e (.Slice Y Y (Z l) p2) pos) (Ka X.K te tk):=by
 intro ag s σ H Q I h;refine Subscript_ (fe (he ag s σ H _ I h) λv z ⟨x,H1,y,w,A⟩=>?_);refine wpAny_Slice ?_;rw[evalPart_none];refine wP1 ?_;refine wP1 ?_;rw[evalPart_some];refine fe (hk ag z σ H1 _ y A) λu c ⟨k,H2,B,rk,n⟩=>?_;obtain⟨rfl,n⟩:=n;obtain⟨t,rfl⟩:=rk;have f:Inv X ag σ H2 {c with heap:=c.heap.push {cls:=.type "slice",data:=.fields #[.none,.none,.int (-1) t]}}:=B.kept (t':=c.toks) λb p q=>hP1 _ q;rcases n with⟨a,xs,rfl,m,q⟩|⟨a,xs,rfl,m,q⟩
 ·cases w;obtain⟨g,r,i,j⟩:=f.tuple m;have d:g.toArray.size=xs.length:=by rw[sT1];exact r.length.symm
  show db (model X.prog X.w) X.A (subscriptTail e (.Slice Y Y (Z l) p2) (.ref a) (.ref c.heap.objs.size)) (EP X ag σ Q) X.xe {c with heap:=c.heap.push {cls:=.type "slice",data:=.fields #[.none,.none,.int (-1) t]}};refine tail_any (ops:=[.ref a,.ref c.heap.objs.size]) i.typeIs PyProof.Rows.slot_tuple_getitem.lookup ?_ (by with_unfolding_all rfl);refine HT.l6 i (Heap.IsSliceOf.new ..) ?_ (by rw[d];exact j);refine⟨.ref _,_,f.laid (t':=c.toks) (o:=.tup xs.reverse) (λb p q=>hP1 _ q) (nR1 _) ?_,O,q _ (f.hok.fresh (nR1 _))⟩;exact⟨by rw[b8];exact j,_,ur r,IsTup.new _ _⟩
 ·cases w;obtain⟨g,r,i,j⟩:=f.list m;have d:=r.length;show db (model X.prog X.w) X.A (subscriptTail e (.Slice Y Y (Z l) p2) (.ref a) (.ref c.heap.objs.size)) (EP X ag σ Q) X.xe {c with heap:=c.heap.push {cls:=.type "slice",data:=.fields #[.none,.none,.int (-1) t]}};refine tail_any (ops:=[.ref a,.ref c.heap.objs.size]) i.isList.typeIs slot_list_getitem.lookup ?_ (by with_unfolding_all rfl);refine wpAny_getItem_list_slice i.isList (Heap.IsSliceOf.new ..) .none .none (.int (-1) t) (by decide) ?_ (by rw[sT1];lia);rw[zn];refine⟨.ref _,_,f.laid (t':=c.toks) (o:=.lst xs.reverse) (λb p q=>hP1 _ q) (nR1 _) ?_,O,q _ (f.hok.fresh (nR1 _))⟩;exact⟨by rw[b8];exact j,_,0,ur r,hS1 _ O⟩
def Ks(S:dr)(d k:D):Option (D×dr):=match k with
 | .int i=>if i = -1 then(dQ S d).map λp=>if p.1=M then(.ref S.length,S++[.lst p.2.reverse])else(.tup p.2.reverse,S)else Y
 |_=>Y
def Gu(m a:FE):FE:=λr S=>(m r S).bind λp=>(a r p.2).bind λb=>Ks b.2 p.1 b.1
theorem uo{e w:Expr}{m a:FE}{pos p2:Pos}(h:XE X e m)(D:XE X w a):XE X (.Subscript e (.Slice Y Y (Z w) p2) pos) (Gu m a):=
 ⟨eO (wD h.h D.h) <| by
  rintro σ H Q ⟨r,mu,S,d,G,o,F,b,hc⟩;obtain⟨⟨y,s⟩,x,b⟩:=oB1.mp b;obtain⟨⟨n,E⟩,B,b⟩:=oB1.mp b;refine⟨r,mu,S,y,s,o,F,x,λv H1 mu1 l A C=>?_⟩;refine⟨r,mu1,s,n,E,o.ext l,C,B,λu H2 g x2 r2 j=>?_⟩;cases n with
  |int i=>
   dsimp only[Ks]at b;split at b
   ·rename_i hi;subst hi;cases r2;refine⟨O,?_⟩;obtain⟨⟨k,xs⟩,z,b⟩:=oM1.mp b;obtain⟨c,vs,rfl,q,t⟩:=dJ (A.ext x2) j z;cases k with
    |true=>
     cases b;right;exact⟨c,vs,O,q,λp f=>hc _ _ (g++[p]) ((l.trans x2).trans (Ext.new_ f)) (.ref (gh j.len p)) (j.newL t.reverse f)⟩
    |false=>
     simp only[bF1,if_false]at b;cases b;left;exact⟨c,vs,O,q,λp f=>hc _ _ g ((l.trans x2).trans (Ext.fresh f)) (.tup (kS.of d8) (t.reverse.ext (Ext.fresh f))) (j.fresh f)⟩
   ·cases b
  |_=>cases b⟩
theorem mw(n:Nat):∀ns:List Int,D.unds n (ns.map D.int)=M
 |[]=>rfl
 |_::ns=>by rw[mP1,D.unds,mw n ns];rfl
theorem yv{n:Nat}{d:D}{S:dr}(h:S.length=n):gc n (d,S)=(d,S):=by
 unfold gc;split
 ·rw[show(d,S).2=S from rfl,<- h,b0]
 ·rfl
theorem Ae{n:Nat}{f:FN}{ds:List D}{S S1:dr}{d:D}(h:f ds []=Z (d,S1))(hn:ds.length=n)(a:D.unds 0 ds=M)(hd:d.und 0=M):dv n f ds S=Z (d,S):=by
 unfold dv ss;rw[ak hn,ak a,h,oP1,ak hd]
theorem kh{n:Nat}{f:FN}{ds:List D}{S S1:dr}{d:D}(h:f ds []=Z (d,S1))(hn:ds.length=n)(a:D.unds 0 ds=M)(hd:d.und 0=J):dv n f ds S=Z (d.sh S.length,S++S1.map (Ob.sh S.length)):=by
 unfold dv ss;rw[ak hn,ak a,h,oP1,aj (by dsimp only;rw[hd];decide)]
theorem sm{n:Nat}{f:FN}{ds:List D}{S S1:dr}{d:D}(h:f ds S=Z (d,S1))(hn:ds.length=n)(a:D.unds 0 ds=J):dv n f ds S=Z (gc S.length (d,S1)):=by
 unfold dv ss;rw[ak hn,aj (by rw[a];decide),h,oP1]
theorem Ah{n:Nat}{f:FN}{ds:List D}{S S1:dr}{d:D}(h:f ds S=Z (d,S1))(hn:ds.length=n)(a:D.unds 0 ds=J)(b:S1.length=S.length):dv n f ds S=Z (d,S1):=by
 rw[sm h hn a,yv b]
theorem rK{i j:Int}(h1: -(2^64)<i)(h2:i<2^64):eR i j=M:=by
 unfold eR;simp only[bR,bA1,al];exact .inl (.inl ⟨h1,h2⟩)
theorem u8{i j:Int}(h1: -(2^64)<j)(h2:j<2^64):eR i j=M:=by
 unfold eR;simp only[bR,bA1,al];exact .inl (.inr ⟨h1,h2⟩)
theorem fR{S:dr}{n:Nat}{xs:List D}(h:S[n]?=Z (.lst xs)):qC S [(n,xs)]=M:=by
 rw[qC,h];simp[D.sames_refl,qC]
def jb(n:Nat):Nat->List D
 |0=>[]
 |k+1=>.ref n::jb (n+1) k
open Classical in
def ND(ws:List cZ)(x:cZ):Nat:=ws.findIdx λy=>decide (y=x)
def kR(ws:List cZ)(xs:Array Keyed)(i:Nat):Nat:=(xs[i]?.map λp=>ND ws p.1).getD 0
def Up(ws:List cZ)(xs:Array Keyed)(k:Nat):Prop:=∀i j,i<j->j<k->kR ws xs i<kR ws xs j
section
variable{prog:c5}{w:c7}{A:c6}{E:cZ->c3->Prop}{s:c3}{κ:SortKind}{ws:List cZ}{a₀:Array Keyed}
end
section
variable{prog:c5}{w:c7}{A:c6}{E:cZ->c3->Prop}{s:c3}
end
section
variable{prog:c5}{w:c7}{A:c6}{E:cZ->c3->Prop}{R:Result->c3->Prop}
end
section
variable{prog:c5}{w:c7}{A:c6}{E:cZ->c3->Prop}{s:c3}
end
mutual
theorem AL{n:Nat}:∀k:TK,(tkD k).und n=M
 | .non=>rfl
 | .int _=>rfl
 | .tup xs=>by rw[tkD,D.und];exact xK xs
theorem xK{n:Nat}:∀ks:List TK,D.unds n (lN ks)=M
 |[]=>rfl
 |k::ks=>by rw[lN,D.unds,AL k,xK ks];rfl
end
structure Pr where
 k:TK
 d:D
 ka:c4
 u:cZ
 vv:V
 a:c4
def JP(H:Hp)(a:c4):Prop:=(∃kvs,H a=Z (.dK kvs)) \/ ∃xs,H a=Z (.ext (iX a xs))
theorem Fc{ag:List (c4×Obj)}{σ:L2.St}{H:Hp}{s:c3}{a:c4}(I:Inv X ag σ H s)(h:JP H a):(a == sysModules)=J /\ ∃o,s.heap.get? a=Z o/\o.ExactDict:=by
 rcases h with⟨kvs,e⟩|⟨xs,e⟩
 ·obtain⟨_,b,vs,_,o,es,ep,h1,h2,_⟩:=I.hok a _ e;exact⟨b,o,h1,h2⟩
 ·obtain⟨⟨b,_,o,es,ep,h1,h2,_⟩,_⟩:=(show eL X.prog X.w H s.heap a (.ext (iX a xs))from I.hok a _ e);exact⟨b,o,h1,h2⟩
section
variable{prog:c5}{w:c7}{A:c6}{E:cZ->c3->Prop}{s:c3}
end
section
variable{prog:c5}{w:c7}{A:c6}{E:cZ->c3->Prop}{R:Result->c3->Prop}
end
def MB(X:Cx)(td ty tx:TE):TE:=fun σ H Q=>td σ H λx H1=>∃a,x = .ref a/\JP H1 a/\ty σ H1 λy H2=>tx σ H2 λz H3=>
 ∀ag s u r,Inv X ag σ H3 s->dS y u->dS z r->db (model X.prog X.w) X.A (call (.builtin "dict.get") [.ref a,u,r]) (EP X ag σ Q) X.xe s
theorem HH {o e f:Expr}{apos cpos:Pos}{td ty tx:TE}(ho:PE X o td)(he:PE X e ty)(hf:PE X f tx)(m:M2 X o "get" apos e f cpos):PE X (.Call (.Attribute o "get" apos) [e,f] [] cpos) (MB X td ty tx):=by
 intro ag s σ H Q I h;refine wpAny_Call_method m.base m.few m.line PySem.F.plainAttrs_dict PySem.F.slot_dict_get PySem.F.type_dict_get (fe (ho ag s σ H _ I h) λu t ⟨x,H1,i,k,a,ex,d,v⟩=>?_);subst ex;obtain rfl:u=Value.ref a:=k;obtain⟨_,o',j,c⟩:=Fc i d;refine⟨⟨o',j,c.1⟩,λb D=>by cases D;exact⟨o',j,c.2.1⟩,?_⟩;rw[m.trees];refine Calls.callWith_builtin O (Calls.evalArgs_plain (Calls.spliced_cons (fe (he ag t σ H1 _ i v) λq n ⟨y,H2,B,A,C⟩=>
  Calls.spliced_cons (fe (hf ag n σ H2 _ B C) λl r ⟨z,E,w,p,g⟩=>Calls.spliced_nil ?_))))
 exact g ag r q l w A p
def z0(S:dr)(n:Nat):Option (List (TK×D)):=match S[n]? with
 |some (.dcT kvs)=>Z kvs
 |some (.dct [])=>Z []
 |_=>Y
theorem yE{H:Hp}{mu:List c4}{S:dr}{n:Nat}{a:c4}{kvs:List (TK×D)}(hs:Sim X.K H mu S)(hn:mu[n]? = some a)(h:z0 S n=some kvs):
  JP H a /\ ∃xs,KT X.K H mu kvs xs /\ ∀ag σ s,Inv X ag σ H s->(a == sysModules)=J/\s.heap.DictOfH (fX X.prog X.w) a xs:=by
 unfold z0 at h;split at h
 ·rename_i ks c;cases h;obtain⟨xs,h1,h2,l⟩:=hs.dcT c hn;exact⟨.inr ⟨xs,h1⟩,xs,h2,λag σ s I=>vH I h1 h2⟩
 ·rename_i c;cases h;obtain⟨ws,h1,h2⟩:=hs.dct c hn;cases h2;refine⟨.inl ⟨[],h1⟩,[],.nil,λag σ s I=>?_⟩;obtain⟨_,d,vs,i,o,es,ep,j,g,f,k⟩:=I.hok a _ h1;cases i;have b:es.toList=[]:=ca.mp (by have:=k.2.1.length;simpa using this);exact⟨d,o,es,ep,j,g,f,b,λx e=>(by cases e),bA⟩
 ·cases h
def wV(m a b:FE):FE:=λr S=>(m r S).bind λp=>match p.1 with
 | .ref n=>(z0 p.2 n).bind λ_=>(a r p.2).bind λq=>(b r q.2).bind λt=>(z0 t.2 n).bind λkvs=>(keyT q.1).map λk=>((dZ kvs k).getD t.1,t.2)
 |_=>Y
theorem y1 {o e f:Expr}{apos cpos:Pos}{m a b:FE}(aq:X.A.units+64<cLine)(ho:XE X o m)(he:XE X e a)(hf:XE X f b)(hm:M2 X o "get" apos e f cpos:=by exact⟨O,O,O,O⟩):XE X (.Call (.Attribute o "get" apos) [e,f] [] cpos) (wV m a b):=
 ⟨eO (HH ho.h he.h hf.h hm) <| by
  rintro σ H Q ⟨r,mu,S,d,S',he,hs,hm,hc⟩;obtain⟨⟨P,F⟩,K,hm⟩:=oB1.mp hm;refine⟨r,mu,S,P,F,he,hs,K,λv1 H1 mu1 h V D=>?_⟩;dsimp only at hm;split at hm
  ·rename_i n;obtain⟨kv0,A,hm⟩:=oB1.mp hm;cases V with
   | @ref _ B C=>
    refine⟨B,O,(yE D C A).1,?_⟩;obtain⟨⟨W,E⟩,e2,hm⟩:=oB1.mp hm;obtain⟨⟨N,wq⟩,e3,hm⟩:=oB1.mp hm;refine⟨r,mu1,F,W,E,he.ext h,D,e2,λv2 H2 x x2 r2 L=>?_⟩;refine⟨r,x,E,N,wq,(he.ext h).ext x2,L,e3,λv3 i g j au t=>?_⟩;obtain⟨kvs,ao,hm⟩:=oB1.mp hm;obtain⟨k,U,hm⟩:=oM1.mp hm;cases hm;intro ag s u w I ru q;obtain⟨_,xs,am,R⟩:=yE t (j.at (x2.at C)) ao;obtain⟨y,G⟩:=R ag σ s I;obtain⟨b,rfl,rfl,_,_,hi⟩:=j9 I (r2.ext j) ru U;refine call_meetsIn PySem.F.slot_dict_get G.typeIs PySem.F.entry_dict_get (PySem.F.args_dict_get_3 _ _ _) (meetsH_dict_get_default (fX X.prog X.w) B b y w) ⟨jB aq,k,xs,hi,G,?_⟩;show EP X ag σ Q (((atKey xs k).map (·.2)).getD w) _;cases ez:dZ kvs k with
    |none=>
     have c:=(am.look (k:=k)).2;rw[ez]at c hc;have l:atKey xs k=Y:=by
      cases l:atKey xs k with
      |none=>rfl
      |some _=>rw[l]at c;cases c
     rw[l];exact⟨v3,i,I.tok _,q,hc _ i g ((h.trans x2).trans j) au t⟩
    |some z=>
     obtain⟨p,v,T,rv,rd⟩:=am.look.1 z ez;rw[ez]at hc;rw[T];exact⟨v,i,I.tok _,rv,hc _ i g ((h.trans x2).trans j) rd t⟩
  ·cases hm⟩
section
variable{ag:List (c4×Obj)}{σ:L2.St}{H:Hp}{s:c3}{a:c4}{u v:HO}
end
section
variable{K:Fg1}{H H':Hp}{mu mu':List c4}{S:dr}{n:Nat}{a:c4}{o:Obj}{u:HO}
end
theorem xz.lt{xs:Array Nat}(h:xz xs){a b u v:Nat}(e:a<b)(c:xs[a]?=Z u)(d:xs[b]?=Z v):u<v:=by
 rw[<- aT1]at c d;obtain⟨g,c⟩:=gE1.mp c;obtain⟨f,d⟩:=gE1.mp d;have:=cb.mp h a b g f e;rw[c,d]at this;exact this
structure Bs (xs:Array Nat)(j i:Nat):Prop where
 le:i<=xs.size
 lo:∀k v,xs[k]?=some v->k<i->v<j
 hi:∀k v,xs[k]?=some v->i<=k->j<=v
theorem Bs.uniq{xs:Array Nat}{j i i':Nat}(h:Bs xs j i)(h':Bs xs j i'):i=i':=by
 rcases Nat.lt_trichotomy i i' with z|z|z
 ·have a:i<xs.size:=nL1 z h'.le;have e:=aG1 a;have:=h.hi _ _ e (nR1 _);have:=h'.lo _ _ e z;lia
 ·exact z
 ·have a:i'<xs.size:=nL1 z h.le;have e:=aG1 a;have:=h'.hi _ _ e (nR1 _);have:=h.lo _ _ e z;lia
theorem De{xs:Array Nat}{j:Nat}(hr:xz xs):∀n lo hi:Nat,lo<=hi->hi<=xs.size->hi-lo<=n->(∀k v,xs[k]?=Z v->k<lo->v<j)->(∀k v,xs[k]?=Z v->hi<=k->j<=v)->Bs xs j (SetTable.below.go xs j n lo hi)
 |0,lo,hi,h1,h2,g,b,c=>by
  have:lo=hi:=by lia
  subst this;exact⟨h2,b,c⟩
 |n + 1,lo,hi,h1,h2,g,b,c=>by
  rw[SetTable.below.go];by_cases f:lo<hi
  ·rw[ak f];have d:(lo+hi)/2<xs.size:=by lia
   have a:=aG1 d;have i:xs.getD ((lo+hi)/2) j=xs[(lo+hi)/2]:=by simp[Array.getD,d]
   dsimp only;rw[i];by_cases hc:xs[(lo+hi)/2]<j
   ·rw[ak hc];refine De hr n _ _ (by lia) h2 (by lia) (λk v e h=>?_) c;rcases bY k ((lo+hi)/2)with z|z
    ·have:=hr.lt z e a;lia
    ·have:k=(lo+hi)/2:=by lia
     subst this;rw[a]at e;cases e;exact hc
   ·rw[aj hc];refine De hr n _ _ (by lia) (by lia) (by lia) b λk v e h=>?_;rcases bY ((lo+hi)/2) k with z|z
    ·have:=hr.lt z a e;lia
    ·have:k=(lo+hi)/2:=by lia
     subst this;rw[a]at e;cases e;lia
  ·rw[aj f];have:lo=hi:=by lia
   subst this;exact⟨h2,b,c⟩
theorem qc{xs:Array Nat}(hr:xz xs)(j:Nat):Bs xs j (SetTable.below xs j):=
 De hr _ 0 _ (br _) (nR1 _) (by lia) (λ_ _ _ h=>absurd h (bF _)) λk v e h=>by
  have:=(Array.getElem?_eq_some_iff.mp e).1;lia
theorem Cu{α:Type}(xs:Array α)(p:Nat)(x:α):(SetTable.insertAt xs p x).toList=xs.toList.take p++x::xs.toList.drop p:=by
 unfold SetTable.insertAt;rw[Array.toList_append,cc,Array.toList_extract,Array.toList_extract];simp[List.extract_eq_drop_take];rw[b7 (by simp)]
theorem DX{xs:Array Nat}(hr:xz xs){j:Nat}(hn:xs[SetTable.below xs j]? ≠ Z j):xz (SetTable.insertAt xs (SetTable.below xs j) j):=by
 have b:=qc hr j;unfold xz;rw[Cu,List.pairwise_append,b9];have lo:∀v∈xs.toList.take (SetTable.below xs j),v<j:=λv f=>by
  obtain⟨k,d⟩:=bB f;rw[List.getElem?_take]at d;split at d
  ·rename_i h;exact b.lo k v (by rw[<- aT1];exact d) h
  ·cases d
 have hi:∀v∈xs.toList.drop (SetTable.below xs j),j<v:=λv f=>by
  obtain⟨k,d⟩:=bB f;rw[List.getElem?_drop,aT1]at d;have h1:=b.hi _ v d (bC _ _);rcases bY j v with z|z
  ·exact z
  ·exfalso;have g:v=j:=by lia
   subst g;cases k with
   |zero=>exact hn d
   |succ k=>
    have l:SetTable.below xs v<xs.size:=by have:=(Array.getElem?_eq_some_iff.mp d).1;lia
    have e:=aG1 l;have:=b.hi _ _ e (nR1 _);have:=hr.lt (by lia) e d;lia
 refine⟨hr.sublist (aU _ _),⟨hi,hr.sublist (List.drop_sublist _ _)⟩,λa i c hc=>?_⟩;rcases aE.mp hc with z|z
 ·rw[z];exact lo a i
 ·exact bq (lo a i) (hi c z)
structure TS (l:Bool)(t:SetTable):Prop where
 up:xz t.place
 du:t.dummies = #[]
 ld:t.led=l
theorem u7{t:SetTable}(hd:t.dummies = #[])(j:Nat):SetTable.has t.dummies j=J:=by rw[hd];rfl
theorem ri{t:SetTable}(hd:t.dummies = #[]){f:Nat->Int}{h:Int}:∀(n:Nat) (p:SetTable.Probe) (j:Nat) (d:Option Nat),p.dummy=Y->SetTable.probe.go t f h n p=Z (.empty j d)->d=Y/\t.place[SetTable.below t.place j]? ≠ Z j
 |0,p,j,d,_,e=>by rw[SetTable.probe.go]at e;cases e
 |n+1,p,j,d,hp,e=>by
  have a:(t.advance p).dummy=Y:=by
   unfold SetTable.advance;split
   ·exact hp
   ·dsimp only;exact hp
  rw[SetTable.probe.go]at e;unfold SetTable.slot at e;dsimp only at e;rw[u7 hd]at e;by_cases hc:(t.place[SetTable.below t.place p.j]? == Z p.j)=M
  ·rw[ak hc]at e;dsimp only at e;split at e
   ·cases e
   ·exact ri hd n _ j d a e
  ·rw[aj hc,aj (by decide)]at e;dsimp only at e;cases e;refine⟨hp,λz=>hc ?_⟩;rw[z];simp
theorem Fu{t:SetTable}(hd:t.dummies = #[]){h:Int}{j:Nat}{b:Bool}(e:t.freeSlot h=Z (j,b)):t.place[SetTable.below t.place j]? ≠ Z j:=by
 unfold SetTable.freeSlot at e;split at e
 ·rename_i c d ep;obtain⟨rfl,a⟩:=ri hd _ _ _ _ O ep;cases e;exact a
 ·cases e
theorem lM{l:Bool}{t:SetTable}(h:TS l t)(n:Nat):TS l (t.standIn n):=by
 refine⟨?_,O,h.ld⟩;show(Array.range n).toList.Pairwise (· < ·);rw[Array.toList_range];exact cf
theorem J3{l:Bool}{t:SetTable}(h:TS l t)(n:Nat):TS l (t.orStandIn n):=by
 unfold SetTable.orStandIn;split
 ·exact h
 ·exact lM h n
theorem GT{l:Bool}{t:SetTable}(ht:TS l t)(es:Array (Int×cZ))(h:Int)(x:cZ):TS l (layNew t es h x).2.1:=by
 unfold layNew;split
 ·rename_i j b e;show TS l ((t.put j).1.orStandIn _);refine J3 (t:=(t.put j).1) ⟨?_,?_,ht.ld⟩ _
  ·exact DX ht.up (Fu ht.du e)
  ·show(if SetTable.has t.dummies j=M then _ else t.dummies) = #[];rw[u7 ht.du,aj (by decide)];exact ht.du
 ·exact lM ht _
theorem tP{α:Type}(f:Nat->Option α):∀l:List Nat,((l.filterMap λj=>(f j).map (j,·)).map (·.1)).Sublist l
 |[]=>.slnil
 |a::l=>by
  rw[aD];cases f a with
  |none=>exact(tP f l).cons a
  |some x=>exact(tP f l).cons₂ a
theorem DK{l p:Bool}{m c d:Nat}{hs:Array Int}{t:SetTable}{a:Array Nat}(e:SetTable.laid m c d l p hs=Z (t,a)):TS l t:=by
 unfold SetTable.laid at e;obtain⟨b,_,e⟩:=oB1.mp e;cases e;refine⟨?_,O,O⟩;unfold xz;dsimp only;exact List.pairwise_lt_range.sublist (by simpa using tP (λj=>b.getD j Y) (af (m+1)))
theorem AQ{l:Bool}{t:SetTable}(ht:TS l t)(es:Array (Int×cZ))(n:Nat):TS l (relayAll t es n).2.1:=by
 unfold relayAll;split
 ·rename_i b a e;dsimp only;split
  ·have:=DK e;rw[ht.ld]at this;exact this
  ·exact lM ht _
 ·exact lM ht _
theorem AR(l:Bool):TS l (SetTable.fresh 0 0 l):=⟨List.Pairwise.nil,O,O⟩
theorem FQ{xs:Array Nat}(hr:xz xs){i:Nat}(hi:i<xs.size):SetTable.below xs (xs[i]+1)=i+1:=by
 refine(qc hr _).uniq ⟨hi,λk v e a=>?_,λk v e a=>?_⟩
 ·rcases bY k i with z|z
  ·have:=hr.lt z e (aG1 hi);lia
  ·have:k=i:=by lia
   subst this;rw[aG1 hi]at e;cases e;lia
 ·have:=hr.lt (show i<k by lia) (aG1 hi) e;lia
theorem Dd{xs:Array Nat}(hr:xz xs):SetTable.below xs 0=0:=
 (qc hr _).uniq ⟨br _,λk v e a=>absurd a (bF _),λk v e a=>br _⟩
def M3(e:Int×cZ):Int:=match e.2 with
 | .int k _=>k
 |_=>0
structure Els (es:Array (Int×cZ))(ns:List Int):Prop where
 el:∀e∈es.toList,∃k t,e=(hashInt k,Value.int k t)
 pm:(es.toList.map M3).Perm ns
theorem Els.of{P:c5}{w:c7}{es:Array (Int×cZ)}{ns:List Int}(h:Els es ns):ElemsOf (intKind P w) es.toList:=λe a=>by
 obtain⟨k,t,rfl⟩:=h.el e a;exact⟨⟨k,intKind_is _ _ _ _,O⟩,O⟩
theorem Els.size{es:Array (Int×cZ)}{ns:List Int}(h:Els es ns):es.size=ns.length:=by
 have:=h.pm.length_eq;rw[lM1,aI]at this;exact this
theorem Els.perm{es fs:Array (Int×cZ)}{ns:List Int}(h:Els es ns)(p:fs.toList.Perm es.toList):Els fs ns:=
 ⟨λe a=>h.el e (p.mem_iff.mp a),(p.map _).trans h.pm⟩
theorem Els.add{es fs:Array (Int×cZ)}{ns:List Int}(h:Els es ns){k:Int}{t:Tok}(p:fs.toList.Perm (es.push (hashInt k,.int k t)).toList):Els fs (ns++[k]):=by
 rw[cc]at p;refine⟨λe a=>?_,?_⟩
 ·rcases aF.mp (p.mem_iff.mp a)with z|z
  ·exact h.el e z
  ·simp at z;exact⟨k,t,z⟩
 ·refine(p.map _).trans ?_;rw[cg];exact h.pm.append (.refl _)
def kn(b:Bool)(p:c4)(ns:List Int)(h:df):Prop:=∃es ep t l,h.get? p=Z (stO es ep t)/\Els es ns/\es.size<scanBound/\t.fits es.size=M/\TS l t/\(b=J->l=M)
section
variable{P:c5}{w:c7}{A:c6}{E:cZ->c3->Prop}{s:c3}{b:Bool}{p:c4}{ns:List Int}
theorem Bl{es fs:Array (Int×cZ)}{ep:Nat}{t u:SetTable}{h:df}(e:h.get? p=Z (stO es ep t)):(h.update p (Obj.putSet fs u)).get? p=Z (stO fs (ep+1) u):=by
 have:=hW1 (Obj.putSet fs u) e (by rw[putSet_of fs u O];rfl);rw[putSet_of fs u O]at this;exact this
theorem gw{c:Bool}{Q:Unit->c3->Prop}(q:Q () s):db (model P w) A (match c with
  |true=>rule "set.scan.the-table-gave-way"
  |false=>pure ()) Q E s:=by cases c<;>first|exact wP1 q|exact wpAny_rule q
theorem Nk{k:Int}{tk:Tok}{Q:Bool->c3->Prop}(X:kn b p ns s.heap)(hr:ns.length+1<scanBound)(q:∀c h',Heap.SameBut p s.heap h'->kn b p (step_dedup ns k) h'->Q c {s with heap:=h'}):db (model P w) A (setAddHashed p (.int k tk) (hashInt k)) Q E s:=by
 obtain⟨es,ep,t,l,g,a,au,G,T,am⟩:=X;have wq:=a.size;have el:ElemsOf (intKind P w) es.toList:=a.of;unfold setAddHashed setAddHashedIn;refine wpAny_holding (wB1 (wpAny_setState_of g O G ?_));dsimp only;rw[byScan_of (knd:=intKind P w) O au el,ak O];unfold setAddByScan;refine wB1 (wB1 (wpAny_rule (wB1 (wpAny_setScan_of (knd:=intKind P w) (k:=k) (intKind_is _ _ _ _) g O G el ?_))));cases hx:List.findIdx? (λe=>(intKind P w).is k e.2) es.toList with
 |some j=>
  obtain⟨ao,i,_⟩:=List.findIdx?_eq_some_iff_getElem.mp hx;have F:k∈ns:=by
   refine a.pm.mem_iff.mp (ci.mpr ⟨_,bV ao,?_⟩);obtain⟨k',aq,e⟩:=a.el _ (bV ao);rw[e]at i ⊢;exact((intKind P w).inj _ _ _ i (intKind_is P w k' aq)).symm
  have B:step_dedup ns k=ns:=by unfold step_dedup;rw[ak (bU.mpr ⟨k,F,by simp⟩)]
  rw[B]at q;exact wP1 (wP1 (q _ s.heap (Heap.SameBut.refl p s.heap) ⟨es,ep,t,l,g,a,au,G,T,am⟩))
 |none=>
  have B:step_dedup ns k=ns++[k]:=by
   unfold step_dedup;rw[aj λz=>?_];obtain⟨k',F,e⟩:=bU.mp z;have e:=beq_iff_eq.mp e;subst e;obtain⟨x,m,f⟩:=ci.mp (a.pm.mem_iff.mpr F);obtain⟨y,h,rfl⟩:=a.el x m;have f:y=k':=f;subst f;have:=List.findIdx?_eq_none_iff.mp hx _ m;rw[show(intKind P w).is y (hashInt y,Value.int y h).2=M from intKind_is _ _ _ _]at this;cases this
  rw[B]at q;have K:=layNew_perm t es (hashInt k) (.int k tk);have D:=layNew_fits t es (hashInt k) (.int k tk);have o:=GT T es (hashInt k) (.int k tk);dsimp only;generalize layNew t es (hashInt k) (.int k tk)=L at K D o ⊢;obtain⟨fs,u,W,gv⟩:=L;dsimp only at K D o ⊢;have n:Els fs (ns++[k]):=a.add K;have I:fs.size<scanBound:=by rw[n.size,lA1];exact hr
  refine wB1 (gw ?_);have tail:∀ (c:Bool),db (model P w) A (do
    storeSet p fs u
    if (!W&&u.tooFull)=true then do
      (match (relayAll u fs (SetTable.grown fs.size)).2.2 with
       |true=>rule "set.scan.the-table-gave-way"
       |false=>pure ())
      storeSet p (relayAll u fs (SetTable.grown fs.size)).1 (relayAll u fs (SetTable.grown fs.size)).2.1
      pure (Z M)
     else pure (Z M)) (λr s'=>db (model P w) A (match r with
      |some d=>pure d
      |none=>setAddHashedIn p (.int k tk) (hashInt k) 99999) Q E s') E s:=λ_=>by
   refine wB1 (wpAny_storeSet_of g O ?_ (fits_of_scanBound I));have C:=Bl (fs:=fs) (u:=u) g;have U:=Heap.SameBut.update s.heap p (Obj.putSet fs u);split
   ·have p2:=relayAll_perm u fs (SetTable.grown fs.size);have H:=relayAll_fits u fs (SetTable.grown fs.size);have h:=AQ o fs (SetTable.grown fs.size);generalize relayAll u fs (SetTable.grown fs.size)=L2 at p2 H h ⊢;obtain⟨R,v,V⟩:=L2;dsimp only at p2 H h ⊢;have N:=n.perm p2;have S:R.size<scanBound:=by rw[N.size,<- n.size];exact I
    refine wB1 (gw (wB1 (wpAny_storeSet_of C O ?_ (fits_of_scanBound S))));exact wP1 (wP1 (q _ _ (U.trans (Heap.SameBut.update _ p _)) ⟨R,_,v,l,Bl C,N,S,H,h,am⟩))
   ·exact wP1 (wP1 (q _ _ U ⟨fs,_,u,l,C,n,I,D,o,am⟩))
  split
  ·refine wB1 (wP1 ?_);exact tail M
  ·refine wB1 (wP1 ?_);exact tail M
end
section
variable{P:c5}{w:c7}{A:c6}{E:cZ->c3->Prop}{s:c3}
def byT(w:c7):Bool:=w.params.followText "set-order"
theorem Ew(x:cZ){G:cZ->c3->Prop}(q:G (.ref s.heap.objs.size) {s with heap:=s.heap.push (stO #[] 0 (.fresh 0 0 (!byT w)))}):
  de (model P w) A (.call (.builtin "set.__new__") ⟨[.type "set",x],[]⟩) (wants G E) s:=by
 refine codeAny_of_tree (?_:db _ A.in1 (do checkBuiltinCall "set.__new__" ⟨[.type "set",x],[]⟩;again (.builtin "set.__new__" ⟨[.type "set",x],[]⟩)) _ _ s);refine wB1 (wpAny_of_eq (PySem.F.newCall_set_1 x) (wP1 ⟨plainId_quiet PySem.F.plain_set_new _,wD1 PySem.F.entry_set_new (?_:_)⟩));rw[Around.under_plainId PySem.F.plain_set_new _];unfold Builtin.«set.__new__» Builtin.Frozenset.newClass;have a:=sub_set_self;obtain⟨b,g,d,tk,c⟩:=s;dsimp only
 wp_walk
 refine wpAny_askSetting (wP1 (?_:_));dsimp only;simp only[newObj];exact wB1 (wpAny_alloc (wP1 (wP1 q)))
set_option maxHeartbeats 3200000 in
theorem xm {l:c4}{its:Array cZ}{Q:cZ->c3->Prop}(F:s.heap.IsList l its)
  (g:∀f:c6,f.handled=A.handled->f.units<=A.units+2 -> ∀R:Result->c3->Prop,(∀s',Q (.ref s.heap.objs.size) s'->R (.ok (.ret .none)) s') ->
   de (model P w) f (.builtin "set.update.loop" ⟨[.ref s.heap.objs.size,.ref (s.heap.objs.size+1)],[]⟩) R {s with heap:=(s.heap.push (stO #[] 0 (.fresh 0 0 (!byT w)))).push {cls:=.type "list_iterator",data:=.fields #[.ref l,.int 0 0]}}):
  db (model P w) A (call (.type "set") [.ref l]) Q E s:=by
 obtain⟨am,W,m⟩:=PySem.F.called_set.mro;have h:=PySem.F.called_set.made;have p:=PySem.F.called_set.sub
 refine wpAny_call (codeAny_of_tree (?_:db _ _ (callAny (.type "set") _) _ _ _));refine wP1 ⟨Code.quiet_builtin _ (by decide+kernel),wD1 PySem.F.entry_type_call (?_:_)⟩;rw[Around.under_plain (weight_type_call_type "set" [.ref l] []) O];have V:=PySem.F.called_set.notType;have U:=PySem.F.called_set.canCreate;have au:=PySem.F.typeCall_set_1 (.ref l)
 repeat(any_goals (first|wp_step|assumption))
 refine codeAny_mono (Ew (.ref l) (E:=E) (G:=λx n=>x = .ref s.heap.objs.size/\n={s with heap:=s.heap.push (stO #[] 0 (.fresh 0 0 (!byT w)))}) ⟨O,O⟩) λr n i=>?_;cases r with
 |error e=>exact i
 |ok y=>
  cases y with
  |ret x=>
   obtain⟨rfl,rfl⟩:=i;have t:(s.heap.push (stO #[] 0 (.fresh 0 0 (!byT w)))).get? s.heap.objs.size=Z (stO #[] 0 (.fresh 0 0 (!byT w))):=hS1 _ O;have I:Shared.TypeIs {s with heap:=s.heap.push (stO #[] 0 (.fresh 0 0 (!byT w)))} (.ref s.heap.objs.size) "set":=⟨_,t,O⟩;have S:=PySem.F.called_set.init.lookup;have N:=PySem.F.called_set.init.bind (.ref s.heap.objs.size)
   repeat(any_goals (first|wp_step|assumption))
   refine codeAny_mono (codeAny_call_builtin (R:=wants (λr k=>r = .none/\Q (.ref s.heap.objs.size) k) E) PySem.F.called_set.init.plain PySem.F.entry_set_init (check_set_init_1 I (?_:_))) λr2 k a=>?_
   ·obtain⟨H,j,c,o,b⟩:=F;obtain⟨X,z,K,B⟩:=H;simp only at c b;subst c;subst b;have u:(s.heap.push (stO #[] 0 (.fresh 0 0 (!byT w)))).get? l=Z {cls:=.type "list",dict:=z,data:=.seq its o,slots:=B}:=hP1 _ j;have ao:=PySem.F.sub_list_set;have T:=PySem.F.sub_list_frozenset;have L:(Value.type "list" == Value.type "dict")=J:=by decide
    have D:(s.heap.push (stO #[] 0 (.fresh 0 0 (!byT w)))).IsList l its:=⟨_,u,O,o,O⟩;have v:(s.heap.push (stO #[] 0 (.fresh 0 0 (!byT w)))).get? s.heap.objs.size=Z {cls:=.type "set",dict:=Y,data:=.set #[] 0 (.fresh 0 0 (!byT w)),slots:= #[]}:=t;unfold Builtin.«set.__init__» noKeywords Builtin.Frozenset.updateFrom;generalize d:pyIter=PI
    wp_walk
    subst d;refine wpAny_pyIter_list D (wB1 (wpAny_runValue (?_:_)));dsimp only;rw[show(s.heap.push (stO #[] 0 (.fresh 0 0 (!byT w)))).objs.size=s.heap.objs.size+1 from by rw[hZ1]];refine g A.in1.in1 (by simp) (nR1 _) _ λs' q=>?_;exact wP1 (wP1 ⟨O,q⟩)
   ·cases r2 with
    |error e=>exact a
    |ok C=>
     cases C with
     |ret r=>
      obtain⟨rfl,q⟩:=a
      repeat(any_goals (first|wp_step|assumption))
     |_=>exact a.elim
  |_=>exact i.elim
theorem Af {l:c4}{its:Array cZ}{Q:cZ->c3->Prop}(c:s.heap.IsList l its)
  (b:∀a:c6,a.handled=A.handled -> ∀R:Result->c3->Prop,(∀s',Q (.ref s.heap.objs.size) s'->R (.ok (.ret .none)) s') ->
   de (model P w) a (.builtin "set.update.loop" ⟨[.ref s.heap.objs.size,.ref (s.heap.objs.size+1)],[]⟩) R {s with heap:=(s.heap.push (stO #[] 0 (.fresh 0 0 (!byT w)))).push {cls:=.type "list_iterator",data:=.fields #[.ref l,.int 0 0]}}):
  db (model P w) A (call (.type "set") [.ref l]) Q E s:=xm c λa h _=>b a h
end
section
variable{P:c5}{w:c7}{A:c6}{E:cZ->c3->Prop}{b:Bool}
theorem kn.old{p:c4}{ns:List Int}{h h':df}(x:kn b p ns h)(k:∀o,h.get? p=Z o->h'.get? p=Z o):kn b p ns h':=by
 obtain⟨es,ep,t,l,e,r⟩:=x;exact⟨es,ep,t,l,k _ e,r⟩
theorem pP:∀(ns acc:List Int),(ns.foldl step_dedup acc).length<=acc.length+ns.length
 |[],acc=>by simp
 |n::ns,acc=>by
  rw[bg];have h1:=pP ns (step_dedup acc n);have h2:(step_dedup acc n).length<=acc.length+1:=by unfold step_dedup;split<;>simp
  rw[lC1];lia
theorem Ba{p l it:c4}{its:Array cZ}{ns:List Int}{R:Result->c3->Prop}(E:A.handled=none)(D:IntsAre its.toList ns)(hb:ns.length+1<scanBound)(am:p≠l)(u:p≠it)(G:it≠l):
  ∀(k i:Nat) (s:c3),its.size-i=k->i<=its.size->s.heap.IsListIter it l i->s.heap.IsList l its->kn b p ((ns.take i).foldl step_dedup []) s.heap ->
  (∀h' tk,(∀c o,c≠p->c≠it->s.heap.get? c=Z o->h'.get? c=Z o)->kn b p (ddI ns) h'->R (.ok (.ret .none)) {s with heap:=h',toks:=tk})->de (model P w) A (.builtin "set.update.loop" ⟨[.ref p,.ref it],[]⟩) R s:=by
 have a:its.size=ns.length:=by rw[<- aI];exact D.length
 intro k
 induction k with
 |zero=>
  intro i s L hi st h v q;have e:i=its.size:=by lia
  subst e;refine wD1 PyProof.Rows.F.entry_set_update_loop (?_:_);rw[Around.under_plainId PyProof.Rows.F.plain_set_update_loop _];show db _ A.in1 (pyNext (.ref it) >>= _) _ _ s;refine wB1 (wpAny_pyNext_list_end (by simpa using E) st h (by simp) λh' y=>wP1 ?_);refine q h' s.toks (λc o _ hc e=>y c o hc e) ?_;have:=v.old (h':=h') λo e=>y p o u e;rw[a,b0]at this;exact this
 |succ k ih=>
  intro i s L hi st h v q;have f:i<its.size:=by lia
  have z:=aG1 f;obtain⟨t,K⟩:=PyProof.Rows.IntsAre.int_at D i its[i] (by rw[aT1];exact z);refine wD1 PyProof.Rows.F.entry_set_update_loop (?_:_);rw[Around.under_plainId PyProof.Rows.F.plain_set_update_loop _];show db _ A.in1 (pyNext (.ref it) >>= _) _ _ s;refine wB1 (wpAny_pyNext_list_item st h z λh' st' C=>?_);rw[K];show db _ A.in1 (holding [Value.int (ns.getD i 0) t] (setAdd p (.int (ns.getD i 0) t)) >>= _) _ _ _;refine wB1 (wpAny_holding ?_);unfold setAdd;refine wpAny_holding (wB1 (wpAny_pyHash_int ?_));have n:kn b p ((ns.take i).foldl step_dedup []) h':=v.old λo e=>by rw[C.2 p u];exact e
  have j:=pP (ns.take i) [];refine Nk (s:={s with heap:=h',toks:=s.toks+1}) (k:=ns.getD i 0) n (by rw[aR,bo]at j;lia) λc h2 g d=>?_;have F:ns[i]?=Z (ns.getD i 0):=by rw[gG1 (by lia)];simp[List.getD,show i<ns.length by lia]
  have I:step_dedup ((ns.take i).foldl step_dedup []) (ns.getD i 0)=(ns.take (i+1)).foldl step_dedup []:=by
   rw[cj,F,cm];rfl
  rw[I]at d;have B:∀c o,c≠p->c≠it->s.heap.get? c=Z o->h2.get? c=Z o:=λc o h1 m e=>by rw[g.2 c h1];show h'.get? c=_;rw[C.2 c m];exact e
  have keepIt:∀o,h'.get? it=Z o->h2.get? it=Z o:=λo e=>by rw[g.2 it (Ne.symm u)];exact e
  refine wP1 ⟨plainId_quiet PyProof.Rows.F.plain_set_update_loop _,ih (i+1) {s with heap:=h2,toks:=s.toks+1} (by lia) f (st'.at keepIt) ?_ d λm tk H ao=>?_⟩
  ·obtain⟨o,e,r⟩:=h;exact⟨o,B l o (Ne.symm am) (Ne.symm G) e,r⟩
  ·exact q m tk (λc o h1 x e=>H c o h1 x (B c o h1 x e)) ao
theorem Ag{s:c3}{l:c4}{its:Array cZ}{ns:List Int}{Q:cZ->c3->Prop}(g:A.handled=Y)(d:s.heap.IsList l its)(m:IntsAre its.toList ns)(hb:ns.length+1<scanBound)(q:∀h' tk,(∀c o,s.heap.get? c=Z o->h'.get? c=Z o)->kn (byT w) s.heap.objs.size (ddI ns) h'->Q (.ref s.heap.objs.size) {s with heap:=h',toks:=tk}):db (model P w) A (call (.type "set") [.ref l]) Q E s:=by
 have a:l<s.heap.objs.size:=by obtain⟨o,e,_⟩:=d;exact hL1 e
 refine Af d λt i R n=>?_;have f:(s.heap.push (stO #[] 0 (.fresh 0 0 (!byT w)))).objs.size=s.heap.objs.size+1:=by rw[hZ1]
 have p:(s.heap.push (stO #[] 0 (.fresh 0 0 (!byT w)))).get? s.heap.objs.size=Z (stO #[] 0 (.fresh 0 0 (!byT w))):=hS1 _ O;refine Ba (its:=its) (ns:=ns) (b:=byT w) (i.trans g) m hb (nG1 a) (nN1 (bI _)) (nG1 (Nat.lt_succ_of_lt a)) _ 0 _ O (br _) ?_ ?_ ?_ λh' tk k x=>n _ (q h' tk (λc o e=>k c o (nN1 (hL1 e)) (nN1 (Nat.lt_succ_of_lt (hL1 e))) (hP1 _ (hP1 _ e))) x)
 ·refine⟨{cls:=.type "list_iterator",data:=.fields #[.ref l,.int 0 0]},?_,O,O⟩;have this:((s.heap.push (stO #[] 0 (.fresh 0 0 (!byT w)))).push {cls:=.type "list_iterator",data:=.fields #[.ref l,.int 0 0]}).get? (s.heap.push (stO #[] 0 (.fresh 0 0 (!byT w)))).objs.size=Z {cls:=.type "list_iterator",data:=.fields #[.ref l,.int 0 0]}:=hS1 _ O;rw[f]at this;exact this
 ·obtain⟨o,e,r⟩:=d;exact⟨o,hP1 _ (hP1 _ e),r⟩
 ·refine⟨#[],0,_,!byT w,hP1 _ p,⟨λe j=>by simp at j,.refl _⟩,by decide,O,AR _,λh=>by rw[h];rfl⟩
end
theorem jX:Slot "set_iterator" "__next__" "set_iterator.__next__":=
 .of (owner:="set_iterator") (n:="__next__") (by rw[typeLookup_type,builtinLookup_eq_fast];kernel_rfl) (by decide+kernel) (by decide+kernel) (by decide+kernel) (by first|exact .inl (by decide+kernel)|exact .inr (by decide+kernel)) (by rw[isSubtype_type];kernel_rfl)
theorem sf:entryFor table "set_iterator.__next__"=Z Builtin.«set_iterator.__next__» :=entryFor_of_tree (by kernel_rfl)
theorem vR(x:cZ):argsOk "set_iterator.__next__" ⟨[x],[]⟩:=by unfold argsOk;kernel_rfl
theorem vA:entryFor table "set.__iter__"=Z Builtin.«frozenset.__iter__» :=entryFor_alias (id':="frozenset.__iter__") (by kernel_rfl) O (by decide+kernel) (by kernel_rfl)
abbrev JI(h:df)(it a:c4)(f:cZ)(i n ep:Nat):Prop:=h.get? it=Z {cls:=.type "set_iterator",dict:=Y,data:=.fields #[f,.int i 0,.ref a,.int n 0,.int ep 0],slots:= #[]}
def my(t:SetTable)(i:Nat):Nat:=match i with
 |0=>0
 |i+1=>t.place.getD i 0+1
inductive vU (w:c7)(h:df)(a:c4)(es:Array (Int×cZ))(ep:Nat)(t:SetTable):cZ->Nat->List cZ->Prop
 |txt (b:byT w=true) (i:Nat) (sl:Nat):vU w h a es ep t (.int sl 0) i ((pickOrder (w.params.setOrder a ep) es).toList.map (·.2))
 |drw (b:byT w=false) (d:(!t.plain&&decide (es.size>1))=true) (i:Nat) (tp:c4) (ps:List Nat) (e:h.get? tp=some {cls:=.type "tuple",data:=.seq (ps.map λj=>Value.int (j:Nat) 0).toArray}) (pm:ps.Perm (af es.size)):vU w h a es ep t (.ref tp) i (ps.map λj=>(es[j]?.map (·.2)).getD .none)
 |plc (b:byT w=false) (d:(!t.plain&&decide (es.size>1))=false) (ld:t.led=true) (up:xz t.place) (i:Nat):vU w h a es ep t (.int (my t i) 0) i (es.toList.map (·.2))
theorem rB{α:Type}(f:Nat->Nat):∀(n k:Nat) (l:List α) (out:Array α),l.length=n->(pickOrder.go f n k l out).toList.Perm (out.toList++l)
 |0,k,l,out,h=>by
  rw[pickOrder.go,ca.mp h,aN]
 |n+1,k,l,out,h=>by
  have b:f k%l.length<l.length:=Nat.mod_lt _ (by lia);rw[pickOrder.go,gG1 b];refine(rB f n (k+1) _ _ (by rw[cp b];lia)).trans ?_;rw[cc,bf];refine List.Perm.append_left _ ?_;have c:l=l.take (f k%l.length)++l[f k%l.length]::l.drop (f k%l.length+1):=by rw[List.getElem_cons_drop,List.take_append_drop]
  rw[List.eraseIdx_eq_take_drop_succ];refine List.Perm.trans ?_ (List.Perm.of_eq c.symm);exact(cq (l₁:=l.take (f k%l.length)) (l₂:=l.drop (f k%l.length+1)) (a:=l[f k%l.length])).symm
theorem vU.perm{w:c7}{h:df}{a:c4}{es:Array (Int×cZ)}{ep:Nat}{t:SetTable}{f:cZ}{i:Nat}{pl:List cZ}(y:vU w h a es ep t f i pl):pl.Perm (es.toList.map (·.2)):=by
 cases y with
 |txt=>exact(rB _ _ _ _ _ O).map _
 |drw _ _ _ d ps e c=>
  refine(c.map _).trans ?_;have:(af es.size).map (λj=>(es[j]?.map (·.2)).getD .none)=es.toList.map (·.2):=by
   apply b4;intro j;rw[gP1,gP1,aT1 (xs:=es)];by_cases b:j<es.size
   ·rw[cr b,oP1,aG1 b];rfl
   ·rw[b5 (by simpa using b),cu (by lia)];rfl
  rw[this]
 |plc=>exact .refl _
theorem vU.len{w:c7}{h:df}{a:c4}{es:Array (Int×cZ)}{ep:Nat}{t:SetTable}{f:cZ}{i:Nat}{pl:List cZ}(y:vU w h a es ep t f i pl):pl.length=es.size:=by
 rw[y.perm.length_eq,lM1,aI]
section
variable{P:c5}{w:c7}{A:c6}{E:cZ->c3->Prop}{s:c3}{it a:c4}{f:cZ}{i ep:Nat}{es:Array (Int×cZ)}{t:SetTable}{pl:List cZ}
theorem sG{Q:Bool->c3->Prop}(q:Q (byT w) s):db (model P w) A setsByText Q E s:=by unfold setsByText;exact wB1 (wpAny_askSetting (wP1 q))
theorem A6{sl:Nat}{Q:Option (cZ×Nat)->c3->Prop}(b:byT w=M)(ho:s.heap.get? a=Z (stO es ep t))(hf:t.fits es.size=M)(q:Q (((pickOrder (w.params.setOrder a ep) es)[i]?).map λe=>(e.2,sl)) s):db (model P w) A (setNext a sl i ep) Q E s:=by
 unfold setNext;refine wB1 (wpAny_setState_of ho O hf (wB1 (sG ?_)));rw[b,ak O,aj (by simp)];refine wB1 ?_;unfold setWalk;refine wB1 (wpAny_setState_of ho O hf (wB1 (sG ?_)));rw[b,ak O];exact wB1 (wpAny_askSetting (wP1 (wP1 q)))
theorem FR(b:xz t.place)(hi:i<=t.place.size):SetTable.below t.place (my t i)=i:=by
 cases i with
 |zero=>exact Dd b
 |succ j=>
  have a:j<t.place.size:=hi;show SetTable.below t.place (t.place.getD j 0+1)=j+1;rw[show t.place.getD j 0=t.place[j]from by simp[Array.getD,a]];exact FQ b a
theorem A7{Q:Option (cZ×Nat)->c3->Prop}(b:byT w=J)(d:(!t.plain&&decide (es.size>1))=J)(j:t.led=M)(h:xz t.place)(ho:s.heap.get? a=Z (stO es ep t))(hf:t.fits es.size=M)(hi:i<=es.size)(q:Q ((es[i]?).map λe=>(e.2,my t (i+1))) s):db (model P w) A (setNext a (my t i) i ep) Q E s:=by
 have k:t.place.size=es.size:=by
  unfold SetTable.fits at hf;rw[bA1,beq_iff_eq]at hf;exact hf.1
 unfold setNext;refine wB1 (wpAny_setState_of ho O hf (wB1 (sG ?_)));rw[b,aj (by decide)];rw[aj (λz=>by have f:(!t.plain&&decide (es.size>1))=M:=z;rw[d]at f;cases f)];refine wB1 ?_;show db _ _ (if(!t.led && !es.isEmpty)=M then _ else _) _ _ _;rw[aj (by rw[j];simp)];refine wP1 ?_;dsimp only;rw[FR h (by omega)];by_cases c:i<es.size
 ·rw [aG1 c] at q ⊢;rw [aG1 (show i<t.place.size by omega)];have g:my t (i+1)=t.place[i]+1:=by
   show t.place.getD i 0+1=_;rw[show t.place.getD i 0=t.place[i]from by simp[Array.getD,show i<t.place.size by omega]]
  rw[g]at q;exact wP1 q
 ·rw[cu (by omega)]at q ⊢;exact wP1 q
theorem Dz{Q:Option cZ->c3->Prop}(h:JI s.heap it a f i es.size ep)(ho:s.heap.get? a=Z (stO es ep t))(hf:t.fits es.size=M)(y:vU w s.heap a es ep t f i pl){x:cZ}(hx:pl[i]? = Z x)(N:∀ g,f = .ref g->g≠it)(q:∀h' k,JI h' it a k (i+1) es.size ep->(∀c o,c≠it->s.heap.get? c=Z o->h'.get? c=Z o)->vU w h' a es ep t k (i+1) pl->(∀g,k = .ref g->f = .ref g)->Q (Z x) {s with heap:=h'}):db (model P w) A (pyNext (.ref it)) Q E s:=by
 have K:s.TypeIs (.ref it) "set_iterator":=⟨_,h,O⟩;unfold pyNext;refine wB1 (wpAny_attempt (wpAny_callSpecial?_slot (name:=Str.ofString "__next__") K jX (wE1 jX K sf ?_ (vR _))));refine wB1 (wP1 (wB1 (wpAny_fieldsOf h O ?_)));dsimp only;refine wB1 (wpAny_setEntries_of ho O hf ?_);rw[aj (by simp)];have ao:i<es.size:=by have:=(gE1.mp hx).1;rw[y.len]at this;exact this
 have p:∀ (k:cZ),(∀ g,k = .ref g->f = .ref g)->(∀ h',(∀ c o,c≠it->s.heap.get? c=some o->h'.get? c=some o)->vU w h' a es ep t k (i+1) pl) ->
   db (model P w) A.in1 (setField (.ref it) 0 k >>= fun _=>setField (.ref it) 1 (rawInt ((i:Int)+1)) >>= fun _=>ret x) (fun B s'=>∃ v,B=Fin.done (Flow.ret v)/\db (model P w) A (pure (some v)) Q E s') (fun e s'=>db (model P w) A (do
     let y<-isInstance e (.type "StopIteration")
     if y=M then pure Y else throw e) Q E s') s:=λk R S=>by
  refine wB1 (wS1 h (by simp) λh1 au u=>wB1 (wS1 (s:={s with heap:=h1}) au (by simp) λh2 r l=>wP1 ⟨_,O,wP1 ?_⟩));have m:∀c o,c≠it->s.heap.get? c=Z o->h2.get? c=Z o:=λc o hc e=>l.extBut c o hc (u.extBut c o hc e);refine q h2 k ?_ m (S h2 m) R;have e:((i+1:Nat):Int)=(i:Int)+1:=by lia
  unfold JI;rw[e];simpa[rawInt]using r
 cases y with
 |txt b _ D=>
  refine wB1 (A6 (i:=i) (sl:=D) (ep:=ep) b ho hf ?_);rw[gP1,aT1]at hx;obtain⟨e,C,rfl⟩:=oM1.mp hx;rw[C];exact p (.int D 0) (λg z=>by cases z) λh' _=>.txt b _ D
 |plc b d am I _=>
  refine wB1 (A7 (i:=i) b d am I ho hf (by lia) ?_);rw[gP1,aT1]at hx;obtain⟨e,C,rfl⟩:=oM1.mp hx;rw[C];exact p (.int (my t (i+1)) 0) (λg z=>by cases z) λh' _=>.plc b d am I _
 |drw b d _ g ps e L=>
  rw[gP1]at hx;obtain⟨j,G,rfl⟩:=oM1.mp hx;have n:j<es.size:=by have:=L.mem_iff.mp (gM1 G);simpa using this
  refine wB1 (wpAny_seqItems e O ?_);have F:((ps.map λj=>Value.int (j:Nat) 0).toArray)[((i:Int)).toNat]?=Z (.int (j:Nat) 0):=by
   rw[Int.toNat_natCast,cv,gP1,G];rfl
  dsimp only;rw[F];dsimp only;refine wB1 ?_;unfold setNextDrawn;refine wB1 (wpAny_setState_of ho O hf ?_);dsimp only;rw[aj (by simp),Int.toNat_natCast,aG1 n];refine wP1 (wB1 (wS1 h (by simp) λh2 r l=>wP1 ⟨_,O,wP1 ?_⟩));have m:∀c o,c≠it->s.heap.get? c=Z o->h2.get? c=Z o:=λc o hc e=>l.extBut c o hc e;have H:=q h2 (.ref g) ?_ m (.drw b d _ g ps (m g _ (N g O) e) L) λ_ z=>z
  ·rw[aG1 n]at H;exact H
  ·have e:((i+1:Nat):Int)=(i:Int)+1:=by lia
   unfold JI;rw[e];simpa[rawInt]using r
theorem wt{Q:Option cZ->c3->Prop}{G:Fin->c3->Prop}(d:A.handled=none)(q:∀ h',(∀ c o,s.heap.get? c=some o->h'.get? c=some o)->Q none {s with heap:=h'}):
  db (model P w) A.in1 (newExc (.type "StopIteration") [] >>= fun e=>raiseNew e) G (fun e s'=>db (model P w) A (do
     let y<-isInstance e (.type "StopIteration")
     if y=M then pure Y else throw e) Q E s') s:=by
 refine wB1 ?_;simp only[newExc,newTuple];refine wB1 (wO1 ?_ (by size_fits));refine wB1 (m:=firstArgMember _ _) (wpAny_of_eq (a:=Value.none) (by first|rfl|(simp only[firstArgMember];rfl)) ?_);refine wO1 ?_ (by size_fits);simp only[raiseNew];refine wB1 (wpAny_handled ?_);rw[show A.in1.handled=Y from d];refine wB1 (wP1 (wpAny_throw (?_:_)));refine wB1 (wpAny_isInstance (b:=M) (T:="StopIteration") ⟨_,hS1 _ O,O⟩ isSubtype_stop (?_:_));exact wP1 (q _ λb o e=>hP1 _ (hP1 _ e))
theorem GL{Q:Option cZ->c3->Prop}(n:A.handled=Y)(g:JI s.heap it a f es.size es.size ep)(ho:s.heap.get? a=Z (stO es ep t))(hf:t.fits es.size=M)(y:vU w s.heap a es ep t f es.size pl)(q:∀h',(∀c o,c≠it->s.heap.get? c=Z o->h'.get? c=Z o)->Q Y {s with heap:=h'}):db (model P w) A (pyNext (.ref it)) Q E s:=by
 have u:s.TypeIs (.ref it) "set_iterator":=⟨_,g,O⟩;unfold pyNext;refine wB1 (wpAny_attempt (wpAny_callSpecial?_slot (name:=Str.ofString "__next__") u jX (wE1 jX u sf ?_ (vR _))));refine wB1 (wP1 (wB1 (wpAny_fieldsOf g O ?_)));dsimp only;refine wB1 (wpAny_setEntries_of ho O hf ?_);rw[aj (by simp)];have l:=y.len;cases y with
 |txt b _ x=>
  refine wB1 (A6 (i:=es.size) (sl:=x) (ep:=ep) b ho hf ?_);rw[cu (by rw[lM1,aI]at l;lia)];refine wB1 (wS1 g (by simp) λh1 r h=>?_);exact wt (s:={s with heap:=h1}) n λh' k=>q h' λc o hc e=>k c o (h.extBut c o hc e)
 |plc b d v z _=>
  refine wB1 (A7 (i:=es.size) (ep:=ep) b d v z ho hf (nR1 _) ?_);rw[cu (nR1 _)];refine wB1 (wS1 g (by simp) λh1 r h=>?_);exact wt (s:={s with heap:=h1}) n λh' k=>q h' λc o hc e=>k c o (h.extBut c o hc e)
 |drw b d _ B ps e D=>
  refine wB1 (wpAny_seqItems e O ?_);have p:((ps.map λj=>Value.int (j:Nat) 0).toArray)[((es.size:Int)).toNat]?=Y:=by
   rw[Int.toNat_natCast,cv,b5 (by rw[lM1]at l ⊢;lia)]
  dsimp only;rw[p];dsimp only;refine wB1 (wS1 g (by simp) λh1 r h=>?_);refine wB1 (wS1 (s:={s with heap:=h1}) r (by simp) λh2 C m=>?_);exact wt (s:={s with heap:=h2}) n λh' k=>q h' λc o hc e=>k c o (m.extBut c o hc (h.extBut c o hc e))
theorem C9{a:Source}{n:Nat}{Q:Nat->c3->Prop}(hn:n≠0)(q:∀i c,i<n->Q i {s with drawn:=c}):db (model P w) A (choose a n) Q E s:=fun Γ p b=>by
 unfold choose;rw[Sem.wp_choose];refine⟨hn,?_⟩;exact wP1 (A:=A) (E:=E) (q _ _ (Nat.mod_lt _ (Nat.pos_of_ne_zero hn))) Γ p b
theorem draw_W{α:Type}:∀(n:Nat) (xs:List α) (s:c3) (Q:List α->c3->Prop),xs.length=n->(∀ys b,ys.Perm xs->Q ys {s with drawn:=b})->db (model P w) A (drawOrder n xs) Q E s
 |0,xs,s,Q,h,q=>by
  have:=ca.mp h;subst this;exact wP1 (q [] s.drawn (.refl _))
 |n+1,[],s,Q,h,q=>by simp at h
 |n+1,x::xs,s,Q,h,q=>by
  rw[drawOrder];refine wB1 (C9 (by simp) λi b hi=>?_);rw[gG1 hi];dsimp only;refine wB1 (draw_W n _ _ _ (by rw[cp hi];lia) λys a c=>wP1 (q _ a ?_));refine(c.cons _).trans ?_;have d:x::xs=(x::xs).take i++(x::xs)[i]::(x::xs).drop (i+1):=by rw[List.getElem_cons_drop,List.take_append_drop]
  rw[List.eraseIdx_eq_take_drop_succ];refine List.Perm.trans ?_ (List.Perm.of_eq d.symm);exact cq.symm
  all_goals simp
theorem DB{l:Bool}{Q:cZ->c3->Prop}(ho:s.heap.get? a=some (stO es ep t))(hf:t.fits es.size=true)(hz:es.size<scanBound)(D:TS l t)(F:byT w=false->l=true)(q:∀it h' h f pl,(∀c o,s.heap.get? c=some o->h'.get? c=some o)->s.heap.objs.size<=it->JI h' it a f 0 es.size ep->vU w h' a es ep t f 0 pl->(∀b,f = .ref b->b≠it/\s.heap.objs.size<=b)->Q (.ref it) {s with heap:=h',drawn:=h}):
  db (model P w) A (pyIter (.ref a)) Q E s:=by
 have y:s.TypeIs (.ref a) "set":=⟨_,ho,rfl⟩;refine wpAny_pyIter_slot y PySem.F.slot_set_iter (wE1 PySem.F.slot_set_iter y vA ?_ (PySem.F.args_set_iter_1 _));unfold Builtin.«frozenset.__iter__»;refine wB1 (m:=Builtin.Frozenset.slot0 _ _) (wP1 ?_);unfold Builtin.Frozenset.sizeOf;refine wB1 (wB1 (wpAny_setEntries_of ho rfl hf (wP1 ?_)));unfold setDrawn;refine wB1 (wB1 (wpAny_setState_of ho rfl hf (wB1 (sG (wP1 ?_)))));show db _ _ (if (!byT w&&(!t.plain&&decide (es.size>1)))=true then _ else _) _ _ _;have d:∀ (h1:df) (h:Drawn) (f:cZ) (pl:List cZ),(∀ c o,s.heap.get? c=some o->h1.get? c=some o)->s.heap.objs.size<=h1.objs.size->(∀ b,f = .ref b->b<h1.objs.size/\s.heap.objs.size<=b)->(∀ h',(∀ c o,h1.get? c=some o->h'.get? c=some o)->vU w h' a es ep t f 0 pl) ->
   db (model P w) A.in1 (setEpoch a >>= λe=>newFields "set_iterator" [f,rawInt 0,.ref a,rawInt es.size,rawInt e] >>= λr=>ret r) (λd s'=>∃r,d=Fin.done (Flow.ret r) /\ ∃T g,s'.TypeIs r T/\typeLookup (.type T) "__next__"=pure (Z g)/\Q r s') E {s with heap:=h1,drawn:=h}:=by
  intro h1 h f pl B x u G;refine wB1 (wpAny_setEpoch_of (B a _ ho) O hf (wB1 (wO1 (wP1 ⟨_,O,"set_iterator",_,⟨_,hS1 _ O,O⟩,jX.lookup,?_⟩) (by size_fits))));refine q h1.objs.size _ h f pl (λc o e=>hP1 _ (B c o e)) x ?_ (G _ λc o e=>hP1 _ e) λb e=>⟨nN1 (u b e).1,(u b e).2⟩;have:=hS1 h1 (o:={cls:=.type "set_iterator",data:=.fields #[f,.int 0 0,.ref a,.int es.size 0,.int ep 0]}) O;exact this
 by_cases n:byT w=M
 ·rw[aj (by rw[n];simp)];refine wB1 (wP1 ?_);exact d s.heap s.drawn _ _ (λ_ _ e=>e) (nR1 _) (λb z=>by cases z) λh' _=>.txt n 0 0
 ·have n:byT w=J:=by simpa using n
  by_cases p:(!t.plain&&decide (es.size>1))=M
  ·rw[ak (by rw[n,p];rfl)];refine wB1 (draw_W es.size (af es.size) s _ (by simp) λys h C=>?_);refine wB1 (m:=newTuple _) (wO1 (s:={s with drawn:=h}) ?_ ?_)
   ·refine d (s.heap.push {cls:=.type "tuple",data:=.seq (ys.map λ(i:Nat)=>rawInt i).toArray}) h (.ref s.heap.objs.size) (ys.map λj=>(es[j]?.map (·.2)).getD .none) (λc o e=>hP1 _ e) (by rw[hZ1];exact bc _) (λb z=>by cases z;exact⟨by rw[hZ1];exact bI _,nR1 _⟩) λh' k=>?_;exact .drw n p 0 _ ys (k _ _ (hS1 _ O)) C
   ·have:=C.length_eq;have v:=fits_of_scanBound hz;simp[sizeOk,this,v]
  ·have p:(!t.plain&&decide (es.size>1))=J:=by simpa using p
   rw[aj (by rw[p];simp)];refine wB1 (wP1 ?_);exact d s.heap s.drawn _ _ (λ_ _ e=>e) (nR1 _) (λb z=>by cases z) λh' _=>.plc n p (by rw[D.ld];exact F n) D.up 0
end
theorem vU.keep{w:c7}{h h':df}{a:c4}{es:Array (Int×cZ)}{ep:Nat}{t:SetTable}{f:cZ}{i:Nat}{pl:List cZ}(y:vU w h a es ep t f i pl)(k:∀c o,f = .ref c->h.get? c=Z o->h'.get? c=Z o):vU w h' a es ep t f i pl:=by
 cases y with
 |txt b _ g=>exact .txt b _ g
 |drw b d _ c ps e l=>exact .drw b d _ c ps (k c _ O e) l
 |plc b d m j _=>exact .plc b d m j _
section
variable{P:c5}{w:c7}{A:c6}{E:cZ->c3->Prop}
theorem DA{it a S:c4}{ep:Nat}{es:Array (Int×cZ)}{t:SetTable}{pl:List cZ}{B:cZ}{R:Result->c3->Prop}(Q:A.handled=none)(hf:t.fits es.size=true)(h1:it≠a)(h2:S≠a)(F:S≠it)(hn:es.size<=da):
  ∀(k i:Nat) (s:c3) (f:cZ) (acc:Array cZ) (c:Nat),es.size-i=k->i<=es.size->JI s.heap it a f i es.size ep->s.heap.get? a=Z (stO es ep t)->vU w s.heap a es ep t f i pl->(∀g,f = .ref g->g≠it/\g≠S) ->
  s.heap.get? S=Z {cls:=.type "list",dict:=Y,data:=.seq acc c,slots:= #[]}->acc.toList=pl.take i ->
  (∀h' d K,(∀b u,b≠it->b≠S->s.heap.get? b=Z u->h'.get? b=Z u)->h'.get? S=Z {cls:=.type "list",dict:=Y,data:=.seq d K,slots:= #[]}->d.toList=pl->R (.ok (.ret B)) {s with heap:=h'}) ->
  de (model P w) A (.builtin "list.extend.loop" ⟨[.ref S,.ref it,B],[]⟩) R s:=by
 intro k
 induction k with
 |zero=>
  intro i s f acc c V hi l E y D L C H;have e:i=es.size:=by lia
  subst e;have j:=y.len;refine wD1 PySem.F.entry_extend_loop (?_:_);rw[Around.under_plainId PySem.F.plain_extend_loop _];show db _ A.in1 (pyNext (.ref it) >>= _) _ _ s;refine wB1 (GL Q l E hf y λh' keep=>wP1 ?_);exact H h' acc c (λb u n _ e=>keep b u n e) (keep S _ F L) (by rw[C,<- j,b0])
 |succ k ih=>
  intro i s f acc c V hi l E y D L C H;have I:i<es.size:=by lia
  have j:=y.len;obtain⟨x,N⟩:∃x,pl[i]?=some x:=⟨_,gG1 (by lia)⟩;have v:acc.size=i:=by rw[<- aI,C,aR];lia
  refine wD1 PySem.F.entry_extend_loop (?_:_);rw[Around.under_plainId PySem.F.plain_extend_loop _];show db _ A.in1 (pyNext (.ref it) >>= _) _ _ s;refine wB1 (Dz l E hf y N (λg e=>(D g e).1) λh' U z keep T au=>?_);have p:=keep S _ F L;show db _ A.in1 (updateSeq S (·.push x) >>= _) _ _ _;refine wB1 (wpAny_updateSeq (s:={s with heap:=h'}) p O ?_ (by rw[v];lia) (by show(acc.push _).size<=da+1;rw[Array.size_push,v];lia));have h:∀b u,b≠S->h'.get? b=Z u->(h'.update S (Obj.mapSeq (·.push x))).get? b=Z u:=λb u n e=>by rw[hU1 _ _ _ _ n];exact e
  refine wP1 ⟨plainId_quiet PySem.F.plain_extend_loop _,ih (i+1) {s with heap:=h'.update S (Obj.mapSeq (·.push x))} U (acc.push x) _ (by lia) I (h it _ (Ne.symm F) z) (h a _ (Ne.symm h2) (keep a _ (Ne.symm h1) E)) (T.keep λg o e q=>h g o (D g (au g e)).2 q) (λg e=>D g (au g e)) (hW1 _ p O) ?_ ?_⟩
  ·rw[cc,C,cj,N];rfl
  ·intro am d K m G ao;exact H am d K (λb u n r e=>m b u n r (h b u r (keep b u n e))) G ao
theorem Bc:typeLookup (.type "set") "__len__"=pure (Z (.builtin "set.__len__")):=by rw[typeLookup_type,builtinLookup_eq_fast];kernel_rfl
theorem DC {s:c3}{v:c4}{Q:Bool->c3->Prop}(c:s.TypeIs (.ref v) "set")(q:Q J s):db (model P w) A (Builtin.List.listLengthHint (.ref v)) Q E s:=by
 unfold Builtin.List.listLengthHint;refine wB1 (wpAny_specialOf c Bc (?_:_));generalize a:("set.__len__":String)=id0
 wp_delta
 rw[show splitId id0=Z ("set","__len__")from by subst a;decide+kernel];subst a;refine wB1 (wpAny_isInstance (b:=M) c (by rw[isSubtype_type];kernel_rfl) (?_:_));rw[aj (by decide)];dsimp only;rw[ak (by decide+kernel)];exact wB1 (wpAny_typeOf c (wP1 q))
theorem wc{s:c3}{a:c4}{ns:List Int}{Q:List cZ->c3->Prop}(V:A.handled=Y)(hx:kn (byT w) a ns s.heap)(q:∀h' p vs R,(∀b u,s.heap.get? b=Z u->h'.get? b=Z u)->s.heap.objs.size<=h'.objs.size->IntsAre vs R->R.Perm ns->Q vs {s with heap:=h',drawn:=p}):db (model P w) A (collect (.ref a)) Q E s:=by
 obtain⟨es,ep,t,l,I,au,ao,N,wq,aq⟩:=hx;have m:a<s.heap.objs.size:=hL1 I;unfold collect;refine wB1 (wpAny_runValue (wD1 PySem.F.entry_proto_collect (?_:_)));rw[Around.under_plainId PySem.F.plain_proto_collect _];show db _ A.in1 (newList [] >>= λl=>again (.builtin "list.__iadd__" ⟨[l,.ref a],[]⟩)) _ _ s;refine wB1 (wO1 (?_:_));refine wP1 ⟨plainId_quiet PySem.F.plain_list_iadd _,wD1 PySem.F.entry_list_iadd (?_:_)⟩;rw[Around.under_plainId PySem.F.plain_list_iadd _];have x:(s.heap.push {cls:=.type "list",data:=.seq ([]:List cZ).toArray}).get? s.heap.objs.size=Z {cls:=.type "list",data:=.seq ([]:List cZ).toArray}:=hS1 _ O;have g:∀b u,s.heap.get? b=Z u->(s.heap.push {cls:=.type "list",data:=.seq ([]:List cZ).toArray}).get? b=Z u:=λb u e=>hP1 _ e;have r:(s.heap.push {cls:=.type "list",data:=.seq ([]:List cZ).toArray}).objs.size=s.heap.objs.size+1:=by rw[hZ1]
 have L:s.heap.objs.size≠a:=nG1 m;have h1:Builtin.List.listSameRef (.ref s.heap.objs.size) (.ref a)=J:=by simp[Builtin.List.listSameRef,L]
 show db _ A.in1 (Builtin.List.listExtendWith (.ref s.heap.objs.size) (.ref a) (.ref s.heap.objs.size)) _ _ {s with heap:=s.heap.push {cls:=.type "list",data:=.seq ([]:List cZ).toArray}};generalize s.heap.push {cls:=.type "list",data:=.seq ([]:List cZ).toArray}=h₁ at *
 unfold Builtin.List.listExtendWith;refine wB1 (wpAny_typeOf (T:="set") ⟨_,g a _ I,O⟩ ?_);rw[aj (by rw[h1];decide)];refine wB1 (DB (s:={s with heap:=h₁}) (g a _ I) N ao wq aq λit c p f pl h d K y F=>?_);dsimp only at h d F;have i:=h _ _ x;have z:Shared.TypeIs {s with heap:=c,drawn:=p} (.ref a) "set":=⟨_,h _ _ (g a _ I),O⟩;refine wB1 (wpAny_holding (DC z ?_));rw[ak (by decide+kernel)];refine wB1 (wpAny_rule (wB1 ?_));show db _ A.in1 (updateSeq s.heap.objs.size (·.push .none) >>= λ_=>updateSeq s.heap.objs.size (·.pop)) _ _ _;refine wB1 (wpAny_updateSeq (s:={s with heap:=c,drawn:=p}) i O ?_);have j:=hW1 (Obj.mapSeq (·.push Value.none)) i O;refine wpAny_updateSeq (s:={s with heap:=c.update s.heap.objs.size (Obj.mapSeq (·.push Value.none)),drawn:=p}) j O ?_;have B:=hW1 (Obj.mapSeq (·.pop)) j O;have n:∀b u,b≠s.heap.objs.size->c.get? b=Z u->((c.update s.heap.objs.size (Obj.mapSeq (·.push Value.none))).update s.heap.objs.size (Obj.mapSeq (·.pop))).get? b=Z u:=λb u C e=>by
  rw[hU1 _ _ _ _ C,hU1 _ _ _ _ C];exact e
 rw[r]at d F;have S:=y.perm;refine wP1 ⟨plainId_quiet PySem.F.plain_extend_loop _,DA (it:=it) (pl:=pl) V N (nG1 (bq m d)) (nG1 m) (nN1 d) (fits_of_scanBound ao) es.size 0
  {s with heap:=(c.update s.heap.objs.size (Obj.mapSeq (·.push Value.none))).update s.heap.objs.size (Obj.mapSeq (·.pop)),drawn:=p} f _ _ O (br _) (n _ _ (nG1 d) K) (n a _ (nN1 m) (h _ _ (g a _ I))) (y.keep λG o e q=>n G o (nG1 (F G e).2) q) (λG e=>⟨(F G e).1,nG1 (F G e).2⟩) B O λh' H c' keep D U=>?_⟩
 show db _ A (load s.heap.objs.size >>= _) _ _ {s with heap:=h',drawn:=p};refine wB1 (wpAny_load D ?_);have hI:∀v∈pl,∃k t,v=Value.int k t:=λv am=>by
  obtain⟨e,X,rfl⟩:=ci.mp (S.mem_iff.mp am);obtain⟨k,t,rfl⟩:=au.el e X;exact⟨k,t,O⟩
 have all:∀vs:List cZ,(∀v∈vs,∃k t,v=Value.int k t)->IntsAre vs (vs.map λv=>M3 (0,v)):=by
  intro vs
  induction vs with
  |nil=>intro _;exact .nil
  |cons v vs ih=>
   intro am;obtain⟨k,t,rfl⟩:=am v mS1;exact .cons k t (ih λu W=>am u (mC1 _ W))
 refine wP1 (q h' p H.toList (pl.map λv=>M3 (0,v)) (λb u e=>?_) (Nat.le_of_lt (hL1 D)) (by rw[U];exact all pl hI) ?_)
 ·have C:=hL1 e;exact keep b u (nN1 (bq C d)) (nN1 C) (n b u (nN1 C) (h _ _ (g b u e)))
 ·refine(S.map _).trans ?_;rw[bD];exact au.pm
theorem uB {s:c3}{a:c4}{ns:List Int}{Q:cZ->c3->Prop}(p:A.handled=none)(hx:kn (byT w) a ns s.heap)(g:ns.length<64)
  (q:∀h' f L n out,(∀b u,s.heap.get? b=Z u->h'.get? b=Z u)->s.heap.objs.size<=L->h'.get? L=Z (seqObj "list" out n)->IntsAre out.toList (i4 ns)->Q (.ref L) {s with heap:=h',drawn:=f}):
  db (model P w) A (call (.builtin "sorted") [.ref a]) Q E s:=by
 refine Calls.call_function_entry kind_sorted plain_sorted entry_sorted (args_sorted1 _) (?_:_);unfold Builtin.«sorted»;refine wB1 (m:=checkCount "sorted" 1 1 _) (wP1 (wB1 (wc p hx λh' f vs t keep r k l=>?_)));have d:vs.length<64:=by rw[k.length,l.length_eq];exact g
 refine wB1 (wpAny_newList (hsz:=by rw[sizeLine_eq];lia) ?_);have c:(h'.push (seqObj "list" vs.toArray 0)).get? h'.objs.size=Z (seqObj "list" vs.toArray 0):=hS1 _ O;show db _ _ _ _ _ {s with heap:=h'.push (seqObj "list" vs.toArray 0),drawn:=f};refine wB1 (wpAny_holding (wE1 slot_list_sort ⟨_,c,O⟩ entry_list_sort (list_sort_tree (s:={s with heap:=h'.push (seqObj "list" vs.toArray 0),drawn:=f}) c k d λout i a1 a2 a3=>⟨_,O,?_⟩) (args_list_sort _)));have o:i=i4 ns:=og (a2.trans (l.trans (fI ns).symm)) a3 (lO ns);subst o;obtain⟨n,h⟩:=sortedHeap_at (out:=out) c;refine wP1 ⟨_,O,q _ f h'.objs.size n out (λb u e=>?_) r h a1⟩;have j:=keep b u e;show(sortedHeap (h'.push (seqObj "list" vs.toArray 0)) h'.objs.size vs out).get? b=Z u;rw[sortedHeap_old (nN1 (hL1 j)) (by rw[hZ1];exact Nat.lt_succ_of_lt (hL1 j))];exact hP1 _ j
end
def kb:G1:=λd S=>match dQ S d with
 |some (M,xs)=>(mP xs).bind λns=>if ns.length<64 then Z (.ref S.length,S++[.lst ((i4 (ddI ns)).map D.int)])else Y
 |_=>Y
def Kt(X:Cx)(vs:List V)(H:Hp)(Q:VK):Prop:=∃a xs ns,vs=[.ref a]/\m4 X.K H a xs/\(∀us,d4 xs us->IntsAre us ns)/\ns.length+1<scanBound /\ ∀p,H p=Y->Q (.ref p) (upd H p (.ext (kn (byT X.w) p (ddI ns))))
def Hf(X:Cx)(vs:List V)(H:Hp)(Q:VK):Prop:=∃a ns,vs=[.ref a]/\H a=Z (.ext (kn (byT X.w) a ns))/\ns.length<64 /\ ∀p,H p=Y->Q (.ref p) (upd H p (.lst ((i4 ns).map V.int)))
theorem zJ{ag:List (c4×Obj)}{σ:L2.St}{H:Hp}{s:c3}(I:Inv X ag σ H s)(d:Drawn):Inv X ag σ H {s with drawn:=d}:=⟨I.ok,I.os,I.bare,I.base,I.loc,I.cell,I.free,I.freeC,I.pin,I.hok,I.len⟩
theorem Js(hc:X.calm=M):eM X (.type "set") (Kt X):=by
 intro ag s σ H xs n Q I r h;obtain⟨a,vs,ns,rfl,f,hi,g,q⟩:=h;obtain⟨u,rfl,r2⟩:=io r;cases r2;obtain⟨b,j,p,m⟩:=I.list f;have i:=hi b j;refine Ag (I.ok.hd hc) p.isList (by simpa using i) g λh' tk keep d=>?_;have c:=I.hok.fresh (nR1 s.heap.objs.size);refine⟨.ref s.heap.objs.size,_,I.laid (t':=tk) (o:=.ext (kn (byT X.w) s.heap.objs.size (ddI ns))) keep (nR1 _) ⟨d,?_,λh1 h2 x k=>x.old k⟩,O,q _ c⟩;obtain⟨es,ep,t,l,e,_⟩:=d;exact⟨_,e⟩
theorem FK(hc:X.calm=M):eM X (.builtin "sorted") (Hf X):=by
 intro ag s σ H xs k Q I r h;obtain⟨a,ns,rfl,j,f,q⟩:=h;obtain⟨u,rfl,r2⟩:=io r;cases r2;obtain⟨e,_⟩:=(show eL X.prog X.w H s.heap a (.ext (kn (byT X.w) a ns))from I.hok a _ j);refine uB (I.ok.hd hc) e f λh' g L n out keep d b i=>?_;have c:=I.hok.fresh d;refine⟨.ref L,_,zJ (I.laid (t':=s.toks) (o:=.lst ((i4 ns).map V.int)) keep d ⟨?_,out.toList,n,rY i,by rw[Array.toArray_toList];exact b⟩) g,O,q _ c⟩;rw[lM1,(fI ns).length_eq,sizeLine_eq];lia
theorem Lz(ns:List Int):(ddI ns).length<=ns.length:=by
 have:=pP ns [];unfold ddI;simpa using this
theorem y0 (hc:X.calm=true){o:Expr}{m:FE}{p p2 pos b:Pos}(hg:Gl X "sorted")(hm:X.mg "sorted"=none)(hg2:Gl X "set")(hm2:X.mg "set"=none)(ho:XE X o m)
  (he:autoParam (c9 [.Call (.Name "set" p2) [o] [] b] X.env=[(J,eval (.Call (.Name "set" p2) [o] [] b) X.env)]) cu0) (c:autoParam (c9 [o] X.env=[(J,eval o X.env)]) cu0):XE X (.Call (.Name "sorted" p) [.Call (.Name "set" p2) [o] [] b] [] pos) (mN (b1 kb) (dn m dq)):=
 ⟨eO (pf (FK hc) hg hm (by decide+kernel) (kF (mF (Js hc) hg2 hm2 (by decide+kernel) (kF ho.h pj c) (he:=c)) pj he) (he:=he)) <| by
  rintro σ H Q ⟨r,mu,S,d,F,he,z,hm,g⟩;obtain⟨⟨ds,E⟩,f,hm⟩:=oB1.mp hm;obtain⟨⟨n,C⟩,y,f⟩:=oB1.mp f;cases f;dsimp only[b1,kb]at hm;split at hm
  ·rename_i xs l;obtain⟨ns,B,hm⟩:=oB1.mp hm;split at hm
   ·rename_i k;cases hm;refine⟨r,mu,S,n,_,he,z,y,λv H1 mu1 w s j=>?_⟩;obtain⟨a,vs,rfl,q,t⟩:=dJ s j l;refine⟨a,vs,ns,O,q,λD A=>(zK t A B).1,bq (Nat.succ_lt_succ k) (by decide),λp h=>?_⟩;refine⟨p,ddI ns,O,d8,bK (Lz ns) k,λp2 e=>?_⟩;have x:Ext mu1 mu1 H1 (upd H1 p (.ext (kn (byT X.w) p (ddI ns)))):=Ext.fresh h;have i:=j.fresh (u:=.ext (kn (byT X.w) p (ddI ns))) h;exact g _ _ (mu1++[p2]) (w.trans (x.trans (Ext.new_ e))) (.ref (gh i.len _)) (i.newL (kE _) e)
   ·cases hm
  ·cases hm⟩
section
variable{ag:List (c4×Obj)}{σ:L2.St}{H:Hp}{s:c3}{a:c4}{kvs:List (Key×V)}{k:Key}{v:V}{u r:cZ}{A:c6}{E:cZ->c3->Prop}
end
open AutoSeq1 (wpAny_loadPart')
section
variable{prog:c5}{w:c7}{A:c6}{E:cZ->c3->Prop}{s:c3}
end
section
variable{P:c5}{w:c7}{A:c6}{E:cZ->c3->Prop}{s:c3}
end
section
variable{a b:Expr}{rest:List Expr}{pos:Pos}{ta tb:TE}{f g:FE}
end
theorem KR.len{K:Fg1}{H:Hp}{mu:List c4}{ks:List (Key×D)}{ws:List (Key×V)}(h:KR K H mu ks ws):ws.length=ks.length:=by
 induction h with
 |nil=>rfl
 |cons _ _ ih=>rw[lC1,lC1,ih]
def pL:G1:=λd S=>match d with
 | .ref n=>match S[n]? with
  |some (.dct kvs)=>Z (.int kvs.length,S)
  |_=>eA d S
 |_=>eA d S
theorem Jt:eM X (.builtin "len") (rN X.K (b1 pL)):=by
 intro ag s σ H xs g Q I r h;obtain⟨x,mu,S,d,j,i,c,f,b,a,hc⟩:=zl h;have q:=a;unfold pL at a;split at a
 ·rename_i n;split at a
  ·rename_i ys e;cases a;subst c;cases f with
   |ref k=>
    obtain⟨ws,l,p⟩:=b.dct e k;cases r with
    |cons o rt=>
     cases rt;cases o;refine LA I (Rd.of l) λt s' m=>⟨.int ws.length,H,m,⟨_,O⟩,?_⟩;rw[p.len];exact hc.now (.int _) b
  ·exact eS ag s σ H xs g Q I r (by subst c;exact⟨mu,S,[_],j,i,.cons f .nil,b,(show b1 eA [_] S=_ from a),hc⟩)
 ·exact eS ag s σ H xs g Q I r (by subst c;exact⟨mu,S,[_],j,i,.cons f .nil,b,(show b1 eA [_] S=_ from a),hc⟩)
section
variable{P:c5}{w:c7}{A:c6}{E:cZ->c3->Prop}{b:Bool}
end
theorem w1:∀{a:List cZ} {ns:List Int},IntsAre a ns -> ∃xs:Array (Int×Tok),a.toArray=intItems xs/\xs.toList.map (·.1)=ns:=by
 intro a ns h
 induction h with
 |nil=>exact⟨#[],by simp[intItems],O⟩
 |cons n t _ ih=>
  obtain⟨xs,c,d⟩:=ih;refine⟨((n,t)::xs.toList).toArray,?_,by rw[mP1,d]⟩;have b:=congrArg Array.toList c;unfold intItems at b ⊢;rw[Array.toList_map]at b;rw[List.map_toArray,mP1]
  congr 1
  rw[<- b]
section
variable{prog:c5}{w:c7}{A:c6}{E:cZ->c3->Prop}{s:c3}
end
section
variable{ag:List (c4×Obj)}{σ:L2.St}{H:Hp}{s:c3}{mu:List c4}
end
section
variable{f:c4}{fd:dg}{ps:List Str}{k n:Nat}{sp:Sp}{dvs:List V}{ds:List cZ}{CX:Ay}{E:XK}{t:TA}{e:Expr}{es:List Expr}{p pos:Pos}{i:Nat}{v x:Str}
end
section
variable{prog:c5}{w:c7}{K:Type} [DecidableEq K] {knd:HeapKind prog w K}{A:c6}{E:cZ->c3->Prop}{s:c3}
end
def NN:G1:=λd S=>match d with
 | .ref n=>match S[n]? with
  |some (.dcT kvs)=>Z (.int kvs.length,S)
  |_=>pL d S
 |_=>pL d S
def Mf:G2:=λd e S=>match e with
 | .ref n=>match S[n]? with
  |some (.dct [])=>match keyT d with
   |some _=>Z (.bl M,S)
   |none=>gZ d e S
  |_=>gZ d e S
 |_=>gZ d e S
def zR:G2:=λd e S=>match e with
 | .ref n=>match S[n]? with
  |some (.dct [])=>match keyT d with
   |some _=>Z (.bl J,S)
   |none=>fY d e S
  |_=>fY d e S
 |_=>fY d e S
theorem KU(p:X.A.units+64<cLine):fP X (compareOp .In) (r2 X.K (b2 zR)):=by
 intro ag s σ H x y u w Q I j l h;obtain⟨mu,S,d,e,r,m,o,c,i,a,hc⟩:=qu h;have back:fY d e S=Z (r,m)->db (model X.prog X.w) X.A (compareOp .In u w) (EP X ag σ Q) X.xe s:=λa=>j4 p ag s σ H x y u w Q I j l ⟨mu,S,[d,e],r,m,.cons o (.cons c .nil),i,a,hc⟩;unfold zR at a;split at a
 ·rename_i n;split at a
  ·rename_i q;split at a
   ·rename_i k C;cases a;cases c with
    |ref t=>
     cases l;obtain⟨ws,v,D⟩:=i.dct q t;cases D;obtain⟨z,B,vs,f,A⟩:=yD I.hok v;cases f;obtain⟨b,rfl,rfl,rk,E,hi⟩:=j9 I o j C;have g:s.heap.DictOfH (fX X.prog X.w) _ []:=vB A;refine wpAny_in_heap (jB p) hi B g ?_;exact⟨.bl J,H,I.tok _,O,hc.now (.bl _) i⟩
   ·exact back a
  ·exact back a
 ·exact back a
theorem MJ.fits{es:Array (Int×cZ)}{t:SetTable}(h:MJ es t):t.fits es.size=M:=by
 unfold SetTable.fits SetTable.fill;rw[h.du,h.sz];have:=h.fl;simp;exact this
def L7(h:df)(k:TK)(e:Int×cZ):Prop:=∃a,e=(k.hash,.ref a)/\gz h k (.ref a)/\k.dep<=8
section
variable{prog:c5}{w:c7}{A:c6}{E:cZ->c3->Prop}{s:c3}
end
theorem gz.keepsS{h h':df}{p:c4}{es:Array (Int×cZ)}{ep:Nat}{t:SetTable}(ho:h.get? p=some (stO es ep t))(hs:∀ a o,a≠p->h.get? a=some o->h'.get? a=some o):∀ {k:TK} {v:cZ},gz h k v->gz h' k v:=fun e=>e.rec (motive_1:=fun k v _=>gz h' k v) (motive_2:=fun k v _=>iw h' k v) .non .int
  (λ{a} _ _ _ _ c c1 d _ ih=>.tup (hs a _ (λz=>by subst z;rw[c]at ho;cases ho;cases d) c) c1 d ih) .nil (λ_ _ a b=>.cons a b)
theorem gz.grows{h h':df}(hs:∀ a o,h.get? a=some o->h'.get? a=some o):∀ {k:TK} {v:cZ},gz h k v->gz h' k v:=fun c=>c.rec (motive_1:=fun k v _=>gz h' k v) (motive_2:=fun k v _=>iw h' k v) .non .int
  (λ{a} _ _ _ _ d c1 e _ ih=>.tup (hs a _ d) c1 e ih) .nil (λ_ _ a b=>.cons a b)
theorem L7.keep{h h':df}{p:c4}{es:Array (Int×cZ)}{ep:Nat}{t:SetTable}(ho:h.get? p=Z (stO es ep t))(hs:∀a o,a≠p->h.get? a=Z o->h'.get? a=Z o){k:TK}{e:Int×cZ}(x:L7 h k e):L7 h' k e:=by
 obtain⟨a,b,c,d⟩:=x;exact⟨a,b,c.keepsS ho hs,d⟩
def LY(h:df)(xs:List (TK×c4×cZ)):Prop:=∀z∈xs,gz h z.1 (.ref z.2.1)/\z.1.dep<=8
theorem LY.el{h:df}{xs:List (TK×c4×cZ)}{es:Array (Int×cZ)}(c:LY h xs)(a:∀e∈es.toList,∃z∈xs,e=(z.1.hash,.ref z.2.1)):∀e∈es.toList,∃f,L7 h f e:=λe d=>by
 obtain⟨z,b,rfl⟩:=a e d;exact⟨z.1,z.2.1,O,(c z b).1,(c z b).2⟩
section
variable{P:c5}{w:c7}{A:c6}{E:cZ->c3->Prop}{s:c3}{p:c4}{xs:List (TK×c4×cZ)}
end
section
variable{P:c5}{w:c7}{A:c6}{E:cZ->c3->Prop}
end
section
variable{pos:Pos}
theorem ce{op:CmpOp}{x y:Expr}{f:FN}{a b:FE}(ho:fP X (compareOp op) (r2 X.K f))(hx:XE X x a)(hy:XE X y b)(hm:behindInMarks op y=J:=by exact BX _):XE X (.Compare x [op] [y] pos) (m2 f a b):=Dy ho hx hy hm
theorem ct{op:CmpOp}{x y:Expr}{f:FN}{a b:FE}(ho:fP X (compareOp op) (r2 X.K f))(hx:XE X x a)(hy:XE X y b)(hm:autoParam (behindInMarks op y=J) ce._auto_1):XT X (.Compare x [op] [y] pos) (mB (m2 f a b)):=qX ho hx hy hm
theorem kc{a:dj}{i:Nat}{l:List Nat}(x:Str)(r:∀i∈l,∃x,X.N[i]?=Z x/\a.names.lookup x=Z .free/\(X.env.kindOf x=Z .cell\/X.env.kindOf x=Z .free)/\(x,NameKind.cell)∉a.names)(h1:autoParam (X.N[i]?=Z x) cu0)(h2:autoParam (a.names.lookup x=Z .free) cu0)(c:autoParam (X.env.kindOf x=Z .cell\/X.env.kindOf x=Z .free) au0)(b:autoParam ((x,NameKind.cell)∉a.names) eu0):∀j∈i::l,∃x,X.N[j]?=Z x/\a.names.lookup x=Z .free/\(X.env.kindOf x=Z .cell\/X.env.kindOf x=Z .free)/\(x,NameKind.cell)∉a.names:=List.forall_mem_cons.mpr ⟨⟨x,h1,h2,c,b⟩,r⟩
end
structure dY (K:Fg1)(x:Str)(st:di)(f:c4):Prop where
 ns:wN1 K c8 x=some (some (.ref f))
 fn:∃fd,yY K x x st f fd
theorem Lp{K:Fg1}{x:Str}{st:di}{f:c4}{j:cZ}{h g:Option c4}{d:Array (Option cZ)}{kV e i b ct:cZ}(a:wN1 K c8 x=Z (Z (.ref f)))(l:K.lookup f=Z ⟨j,h,.func (wF1 x x (i9 st) (fA st) (dX st) .none kV e i g b ct),d⟩)(c:wC1 K b x=M)(k:wK1 K (.ref f)=M):dY K x st f:=⟨a,_,CO l c k⟩
theorem xo{P:c5}{w:c7}{K:Fg1}{mg:Str->Option cZ}{base h:df}{x:Str}{st:di}{f:c4}{N ps:List Str}{k n:Nat}{b:FS}(X:K.In h)(G:h.Ns c8 mg)(F:dY K x st f)(S:hC N ps (dX st))(hb:∀(kV g l:cZ) (j:Option c4) (a ct:cZ) (e:List cZ),e.length=ps.length->bindArgs (wF1 x x (i9 st) (fA st) (dX st) .none kV g l j a ct) ⟨e,[]⟩=pure (ps.zip e))(d:∀(f:c4) (a:cZ) (A:c6) (c:List Env) (s:c3) (H:Hp) (E:XK),ge k (A.deeper (envOfC x (dX st) s.heap.objs.size f a)) ->
   xr (nV vW P w K mg base N x (dX st) f a A c s H E).nox (fA st) b)(hn:autoParam (ps.length=n) cu0):Own P w K mg base (k+1) x n (gH N.length b):=by
 obtain⟨fd,i⟩:=F.fn;exact xF i (i.binds hb) (wM1 X G F.ns) S hn (d f)
section
variable{ag:List (c4×Obj)}{σ:L2.St}{H:Hp}{s:c3}{mu:List c4}
end
section
variable{P:c5}{w:c7}{A:c6}{E:cZ->c3->Prop}{s:c3}{a x:c4}{xs:List (TK×c4×cZ)}{k:TK}
end
section
variable{o e:Expr}{es:List Expr}{to:TE}{t:TA}{name:Str}{apos cpos:Pos}{id:String}{r:V->List V->Hp->VK->Prop}
end
section
variable{x y z u:Expr}{pos:Pos}{f g k:FN}{a b c d:FE}{op op' op'':CmpOp}{ta tb tc td:TE}
end
structure Blt (L:List Str)(mg:Str->Option cZ):Prop where
 h:∀x∈L,mg x=none
theorem bz{L:List Str}{mg:Str->Option cZ}{x:Str}(B:Blt L mg)(h:autoParam (x∈L) bu0):mg x=Y:=B.h x h
theorem sk{N P:List Str}{sc:dj}(h1:autoParam (sc.kind = .function) cu0)(h2:autoParam (sc.isCoroutine=J) cu0)(a:autoParam (sc.isGenerator=J) cu0)(b:autoParam (N.Nodup) eu0)(e:autoParam (N.take P.length=P) cu0)(d:autoParam (∀x∈P,sc.names.lookup x=Z .local\/sc.names.lookup x=Z .cell) eu0)(c:autoParam (∀y∈sc.names,y.2 ≠ .free) eu0):hC N P sc:=⟨h1,h2,a,b,e,d,c⟩
def LW(K:Fg1):List Str->Prop
 |[]=>True
 |x::l=>wN1 K c8 x=Z Y/\LW K l
theorem LW.blt{K:Fg1}{mg:Str->Option cZ}{h:df}(X:K.In h)(G:h.Ns c8 mg):∀{L:List Str},LW K L->Blt L mg
 |[],_=>⟨λ_ m=>nomatch m⟩
 |_::_,z=>⟨λ_ m=>match m with
  | .head _=>PySem.W.mg_none_of X G z.1
  | .tail _ m=>(LW.blt X G z.2).h _ m⟩
def L9:List Str->Bool
 |[]=>M
 |x::l=> !l.contains x&&L9 l
theorem gI:∀{l:List Str},L9 l=M->l.Nodup
 |[],_=>bA
 |x::l,h=>by
  obtain⟨a,b⟩:=(bA1 _ _).mp h;exact aO.mpr ⟨λm=>(by rw[cw.mpr m]at a;cases a),gI b⟩
section
variable{pos:Pos}{k:Nat}{x:Str}{i:Nat}{e y:Expr}{es:List Expr}{m b:FE}{a:FA}{p:Pos}
theorem xv (hN:autoParam (X.N[i]?=Z x) cu0)(hv:autoParam (Vis X.env.scope x) au0)(hd:autoParam ((x == ("__debug__":Str))=J) bu0)(hcd:autoParam ((x == ("__classdict__":Str))=J) bu0):XE X (.Name x pos) (mV i):=NY i hN hv hd hcd
theorem gq(hN:autoParam (L9 X.N=M) cu0)(hi:autoParam (X.N[i]?=Z x) cu0)(hx:autoParam (xC X.env.scope x) au0)(hf:autoParam (X.fn x=M\/X.env.scope.names.lookup x=Z .local) au0):XG X (.Name x pos) (gN i):=qO i (gI hN) hi hx hf
theorem sq(he:XE X e m)(hN:autoParam (L9 X.N=M) cu0)(hi:autoParam (X.N[i]?=Z x) cu0)(hx:autoParam (xC X.env.scope x) au0)(hs:autoParam (swapsWith e (Z (.Name x p)) pos.line X.env=pure J) cu0)(hf:autoParam (X.fn x=M\/X.env.scope.names.lookup x=Z .local) au0):XS X (.Assign [.Name x p] e pos) (dH m (gN i)):=qY i (gI hN) hi hx he hs hf
theorem jq(hx:XE X e m)(hy:XE X y b)(hr:autoParam (ge k X.A) fu0)(hs:oA y:=by intro _ _;rfl):XE X (.Subscript e y pos) (m2 (b2 dz) m b):=qJ (qP hr.units) hx hy hs
theorem oq{au:Prop}(o:X.A.units+64<cLine->au)(hr:autoParam (ge k X.A) fu0):au:=o hr.units
theorem wn {k' n:Nat}{f:FN}(h:Own X.prog X.w X.K X.mg X.base k x n f)(ha:XA X (e::es) a)(hr:autoParam (ge k' X.A) fu0)(hk:k<=k':=by first|decide|omega)(hg:autoParam (Gl X x) cu0)(hdb:autoParam ((x == ("__debug__":Str))=J) bu0)(he:autoParam (c9 (e::es) X.env=(J,eval e X.env)::c9 es X.env) cu0)(hpl:autoParam ((backTo pos (c9 es X.env)).any (·.1)=J) cu0):XE X (.Call (.Name x p) (e::es) [] pos) (mN (dv n f) a):=qH h hr hk hg ha hdb he hpl
theorem cn {id:String}{f:FN}(hc:eM X (.builtin id) (rN X.K f))(ha:XA X (e::es) a)(hm:X.mg x=Y:=by exact bz (by assumption))(hg:autoParam (Gl X x) cu0)(hv:autoParam (bootBuiltins x=Z (.builtin id)) eu0)(hn:autoParam (x≠"__name__") bu0)(hdb:autoParam ((x == ("__debug__":Str))=J) bu0)(he:autoParam (c9 (e::es) X.env=(J,eval e X.env)::c9 es X.env) cu0)(hpl:autoParam ((backTo pos (c9 es X.env)).any (·.1)=J) cu0):XE X (.Call (.Name x p) (e::es) [] pos) (mN f a):=qD hc hg hm hv ha hn hdb he hpl
theorem cz {T:String}{f:FN}(hc:eM X (.type T) (rN X.K f))(ha:XA X (e::es) a)(hm:autoParam (X.mg x=Y) cn._auto_1)(hg:autoParam (Gl X x) cu0)(hv:autoParam (bootBuiltins x=Z (.type T)) eu0)(hn:autoParam (x≠"__name__") bu0)(hdb:autoParam ((x == ("__debug__":Str))=J) bu0)(he:autoParam (c9 (e::es) X.env=(J,eval e X.env)::c9 es X.env) cu0)(hpl:autoParam ((backTo pos (c9 es X.env)).any (·.1)=J) cu0):XE X (.Call (.Name x p) (e::es) [] pos) (mN f a):=qE hc hg hm hv ha hn hdb he hpl
theorem a1(h:XE X e m)(hs:autoParam (c9 [e] X.env=(J,eval e X.env)::c9 [] X.env) cu0):XA X [e] (dn m dq):=qA h qN hs
theorem a2(h:XE X e m)(g:XE X y b)(hs:autoParam (c9 [e,y] X.env=(J,eval e X.env)::c9 [y] X.env) cu0)(hs2:autoParam (c9 [y] X.env=(J,eval y X.env)::c9 [] X.env) cu0):XA X [e,y] (dn m (dn b dq)):=qA h (a1 g hs2) hs
theorem a3{z:Expr}{c:FE}(h:XE X e m)(g:XE X y b)(l:XE X z c)(hs:autoParam (c9 [e,y,z] X.env=(J,eval e X.env)::c9 [y,z] X.env) cu0)(hs2:autoParam (c9 [y,z] X.env=(J,eval y X.env)::c9 [z] X.env) cu0)(a:autoParam (c9 [z] X.env=(J,eval z X.env)::c9 [] X.env) cu0):XA X [e,y,z] (dn m (dn b (dn c dq))):=qA h (a2 g l hs2 a) hs
theorem ir (ha:XA X [e] a)(hm:autoParam (X.mg "range"=Y) cn._auto_1)(hg:autoParam (Gl X "range") cu0)(hs:autoParam (c9 [e] X.env=[(J,eval e X.env)]) cu0):XI X y (.Call (.Name "range" p) [e] [] pos) (nS a):=wa hg hm ha hs
theorem ie {elts:List Expr}{b:Nat}{tpos:Pos}(ha:XA X [e] a)(hm:autoParam (X.mg "enumerate"=Y) cn._auto_1)(hg:autoParam (Gl X "enumerate") cu0)(hs:autoParam (c9 [e] X.env=[(J,eval e X.env)]) cu0):XI X (.Tuple elts b tpos) (.Call (.Name "enumerate" p) [e] [] pos) (Au a):=AC hg hm ha hs
theorem ii {T:Ty}{p2:Pos}(h:XE X e m)(hm:autoParam (X.mg "isinstance"=Y) cn._auto_1)(hm2:autoParam (X.mg x=Y) cn._auto_1)(hg:autoParam (Gl X "isinstance") cu0)(hg2:autoParam (Gl X x) cu0)(hv2:autoParam (bootBuiltins x=Z (.type T.nm)) eu0)(hn:autoParam (x≠"__name__") bu0)(hd:autoParam ((x == ("__debug__":Str))=J) bu0)(hs1:autoParam (c9 [e,.Name x p2] X.env=(J,eval e X.env)::c9 [.Name x p2] X.env) cu0)(hs2:autoParam (c9 [.Name x p2] X.env=(J,eval (.Name x p2) X.env)::c9 [] X.env) cu0)(hpl:autoParam ((backTo pos (c9 [.Name x p2] X.env)).any (·.1)=J) cu0):XE X (.Call (.Name "isinstance" p) [e,.Name x p2] [] pos) (gy T m):=wb T hg hm hg2 hm2 hv2 h hn hd hs1 hs2 hpl
structure Lm (X:Cx)(name:Str)(id:String)(f:FN):Prop where
 s:Slot "list" name id
 t:typeOf (.builtin id)=pure (.type "method_descriptor")
 m:JM X id (λx xs H Q=>rN X.K f (x::xs) H Q)
theorem ap:Lm X "append" "list.append" (b2 kY):=⟨PySem.F.slot_list_append,PySem.F.type_list_append,J8⟩
theorem lq{f:FN}{name:Str}{apos:Pos}{id:String}(s:Lm X name id f)(ho:XE X y m)(ha:XA X (e::es) a)(hbase:autoParam (attributeBase y name X.env (eval y X.env)=eval y X.env) cu0)(hfew:autoParam (((backTo pos (c9 (e::es) X.env)).all (λx=> !x.1)&&(backToKw pos (keywordEach [] X.env)).all (λx=>x.1.isSome)&&decide ((e::es).length+([]:List Keyword).length+(if([]:List Keyword).isEmpty then 0 else 1)<30))=M) cu0)(hline:autoParam ((apos.endLine == pos.line)=M) cu0)(hs:autoParam (c9 (e::es) X.env=(J,eval e X.env)::c9 es X.env) cu0)(hplain:autoParam ((backTo pos (c9 es X.env)).any (·.1)=J) cu0):XS X (.Expr (.Call (.Attribute y name apos) (e::es) [] pos) p) (fj (uj f m a)):=oC (qe s.s s.t s.m ho ha hbase hfew hline hs hplain)
theorem fo{tg iter:Expr}{a:List di}{m:FI}{g:FG}{b:FS}(hi:XI X tg iter m)(hg:XG X tg g)(hb:xr X a b)(hp:PassesOwn (model X.prog X.w) X.A X.env X.xe:=by exact PassesOwn.never)(hc:autoParam (X.calm=M) cu0)(hs:autoParam (∀x,foldedSetIterable iter X.env x=pure x) du0):XS X (.For tg iter a [] pos) (fC m g b):=qW hp hc hi hg hb hs
theorem tg2{d:Expr}{g h:FG}{a:Nat}(h1:XG X e g)(h2:XG X d h)(hc:autoParam (X.calm=M) cu0)(hs:autoParam ((assignEach [e,d] X.env).map (·.2)=assign e X.env::(assignEach [d] X.env).map (·.2)) cu0)(hs2:autoParam ((assignEach [d] X.env).map (·.2)=assign d X.env::(assignEach [] X.env).map (·.2)) cu0)(hn:autoParam ((assignEach [e,d] X.env).length=2) cu0)(hst:autoParam ((assignEach [e,d] X.env).findIdx? (·.1)=Y) cu0):XG X (.Tuple [e,d] a pos) (gT 2 (eT g (eT h i8))):=gW hc (dP h1 (dP h2 fZ hs2) hs) hn hst
def Ma(x:Str):List (Str×NameKind)->Bool
 |[]=>M
 |(y,.cell)::l=> !(y == x)&&Ma x l
 |_::l=>Ma x l
omit k i in
theorem B1:∀{l:List (Str×NameKind)},Ma x l=M->(x,NameKind.cell)∉l
 |[],_,m=>nomatch m
 |(y,c)::l,h,m=>by
  rcases aE.mp m with e|a
  ·cases e;have h:=((bA1 _ _).mp h).1;rw[beq_self_eq_true]at h;cases h
  ·cases c with
   |cell=>exact B1 ((bA1 _ _).mp h).2 a
   |_=>exact B1 (l:=l) h a
theorem kz{a:dj}{l:List Nat}(r:∀i∈l,∃x,X.N[i]?=Z x/\a.names.lookup x=Z .free/\(X.env.kindOf x=Z .cell\/X.env.kindOf x=Z .free)/\(x,NameKind.cell)∉a.names)(h1:autoParam (X.N[i]?=Z x) cu0)(h2:autoParam (a.names.lookup x=Z .free) cu0)(c:autoParam (X.env.kindOf x=Z .cell\/X.env.kindOf x=Z .free) au0)(b:autoParam (Ma x a.names=M) cu0):∀j∈i::l,∃x,X.N[j]?=Z x/\a.names.lookup x=Z .free/\(X.env.kindOf x=Z .cell\/X.env.kindOf x=Z .free)/\(x,NameKind.cell)∉a.names:=kc x r h1 h2 c (B1 b)
def NS(X:Cx)(sc:dj):List (Str×c4):=(kZ X.env.cells sc.names []).getD []
theorem fk{elt tg iter:Expr}{ifs:List Expr}{scope:dj}(T:List Str){keep:List Nat}{m:FI}{g:FG}{t:FT}{e:FE}(hi:XI X tg iter m)(hb:∀ {s H d},Nn (cxC X scope (NS X scope) T keep s H d) X.K tg ifs elt g t e)(free:∀i∈keep,∃x,X.N[i]?=Z x/\scope.names.lookup x=Z .free/\(X.env.kindOf x=Z .cell\/X.env.kindOf x=Z .free)/\(x,NameKind.cell)∉scope.names:=by repeat first|exact cy _|refine kz ?_)(hc:autoParam (X.calm=M) cu0)(b:autoParam (scope.kind = .function) cu0)(a:autoParam (∀x∈scope.names,x.2 = .local->scope.names.lookup x.1=Z .local) eu0)(c:autoParam (kZ X.env.cells scope.names []=Z (NS X scope)) cu0)(hs:autoParam (∀x,foldedSetIterable iter X.env x=pure x) du0):XE X (.ListComp elt [⟨tg,iter,ifs,0⟩] scope pos) (d5 T.length keep m g t (dU e)):=qZ hc ⟨b,a,free⟩ c hi (λ_ _ _=>hb) hs
end
theorem xq{P:c5}{w:c7}{K:Fg1}{mg:Str->Option cZ}{base h:df}{x:Str}{st:di}{f:c4}{k n:Nat}{b:FS}(N:List Str)(X:K.In h)(G:h.Ns c8 mg)(F:dY K x st f)(d:∀{f:c4} {a:cZ} {A:c6} {c:List Env} {s:c3} {H:Hp} {E:XK},ge k (A.deeper (envOfC x (dX st) s.heap.objs.size f a)) ->
   xr (nV vW P w K mg base N x (dX st) f a A c s H E).nox (fA st) b)(S:hC N (N.take n) (dX st):=by exact sk)(hb:∀(kV i m:cZ) (j:Option c4) (a ct:cZ) (e:List cZ),e.length=(N.take n).length->bindArgs (wF1 x x (i9 st) (fA st) (dX st) .none kV i m j a ct) ⟨e,[]⟩=pure ((N.take n).zip e):=by
   intro _ _ _ _ _ _ e g;first|exact NK g λ_=>rfl|exact NJ g λ_ _=>rfl|exact M0 g λ_ _ _=>rfl|exact NI g λ_ _ _ _=>rfl)(hn:autoParam ((N.take n).length=n) cu0):Own P w K mg base (k+1) x n (gH N.length b):=xo X G F S hb (λ_ _ _ _ _ _ _ l=>d l) hn
open AutoSeq1 (wpAny_loadPart')
mutual
def pl:D->Bool
 | .non=>M
 | .bl _=>M
 | .int _=>M
 | .str _=>M
 | .tup xs=>NE xs
 |_=>J
def NE:List D->Bool
 |[]=>M
 |x::xs=>pl x&&NE xs
end
section
variable{ag:List (c4×Obj)}{σ:L2.St}{H:Hp}{s:c3}{mu:List c4}{S:dr}
end
section
variable{prog:c5}{w:c7}{A:c6}{E:cZ->c3->Prop}{s:c3}
end
section
variable{ag:List (c4×Obj)}{σ:L2.St}{H:Hp}{s:c3}{mu:List c4}{S:dr}
end
section
variable{prog:c5}{w:c7}{A:c6}{E:cZ->c3->Prop}{s:c3}
end
abbrev rk(ws:List cZ)(p:Keyed):Nat:=ND ws p.1
section
variable{prog:c5}{w:c7}{A:c6}{E:cZ->c3->Prop}{s:c3}{κ:SortKind}{ws:List cZ}{a₀:Array Keyed}
end
structure Sm (st st':SortSt):Prop where
 k:kindOf st'=kindOf st
 a:arrOf st'=arrOf st
 p:pendingOf st'=pendingOf st
 f:failedOf st'=failedOf st
theorem Sm.rfl{st:SortSt}:Sm st st:=⟨_root_.rfl,_root_.rfl,_root_.rfl,_root_.rfl⟩
theorem Sm.g{st st':SortSt}(h:Sm st st')(g:Nat):Sm st (SortSt.mk' (kindOf st') (arrOf st') (pendingOf st') g (failedOf st')):=⟨h.k,h.a,h.p,h.f⟩
def Dt(ws:List cZ)(xs:List Keyed):Prop:=xs.Pairwise λp q=>rk ws p<rk ws q
def As(ws:List cZ)(xs ys:List Keyed):Prop:=∀x∈xs,∀y∈ys,rk ws x<rk ws y
section
variable{ws:List cZ}{a b out xs ys zs:List Keyed}{i j k:Nat}
theorem Dt.app(h1:Dt ws xs)(h2:Dt ws ys)(h:As ws xs ys):Dt ws (xs++ys):=List.pairwise_append.mpr ⟨h1,h2,h⟩
theorem As.app(h1:As ws xs zs)(h2:As ws ys zs):As ws (xs++ys) zs:=λx b y a=>(aF.mp b).elim (λh=>h1 x h y a) λh=>h2 x h y a
def OE(ws:List cZ)(a b r:List Keyed):Prop:=r.Perm (a++b)/\Dt ws r
end
section
variable{prog:c5}{w:c7}{A:c6}{E:cZ->c3->Prop}{s:c3}{κ:SortKind}{ws:List cZ}{a₀:Array Keyed}
end
section
variable{ws:List cZ}{a b out xs ys zs:List Keyed}{i j k t:Nat}
theorem As.to(h1:As ws xs ys)(h2:As ws xs zs):As ws xs (ys++zs):=λx a y b=>(aF.mp b).elim (λh=>h1 x a y h) λh=>h2 x a y h
structure K0 (ws:List cZ)(a b out:List Keyed)(i j:Nat):Prop where
 la:i<=a.length
 lb:j<=b.length
 len:out.length+(i+j)=a.length+b.length
 pm:(a.take i++b.take j++out.reverse).Perm (a++b)
 so:Dt ws out.reverse
 ba:As ws (a.take i) out
 bb:As ws (b.take j) out
theorem K0.fs(h:K0 ws a b out i j)(e:Dt ws a)(f:Dt ws b)(hb:As ws (b.take j) (a.take i)):OE ws a b (b.take j++a.take i++out.reverse):=by
 refine⟨(List.perm_append_comm.append_right _).trans h.pm,?_⟩;exact(Dt.app (f.sublist (aU _ _)) (e.sublist (aU _ _)) hb).app h.so (As.app (λx d y c=>h.bb x d y (List.mem_reverse.mp c)) λx d y c=>h.ba x d y (List.mem_reverse.mp c))
end
section
variable{prog:c5}{w:c7}{A:c6}{E:cZ->c3->Prop}{s:c3}{κ:SortKind}{ws:List cZ}{a₀:Array Keyed}
end
def BA:Nat->List (List Keyed)->List (Nat×Nat×Nat)->Prop
 |_,[],[]=>True
 |s,r::rs,(t,n,_)::p=>t=s/\n=r.length/\BA (s+r.length) rs p
 |_,_,_=>False
structure SR (ws:List cZ)(κ:SortKind)(a₀:Array Keyed)(rs:List (List Keyed))(rest:List Keyed)(st:SortSt):Prop where
 k:kindOf st=κ
 f:failedOf st=none
 pm:(arrOf st).Perm a₀
 ar:(arrOf st).toList=rs.flatten++rest
 so:∀r∈rs,Dt ws r/\r≠[]
 pe:BA 0 rs (pendingOf st).toList
section
variable{prog:c5}{w:c7}{A:c6}{E:cZ->c3->Prop}{s:c3}{κ:SortKind}{ws:List cZ}{a₀:Array Keyed}
end
section
variable{prog:c5}{w:c7}{A:c6}{E:cZ->c3->Prop}{s:c3}{κ:SortKind}{ws:List cZ}{a₀:Array Keyed}{lo:Nat}{st0:SortSt}
end
section
variable{prog:c5}{w:c7}{A:c6}{E:cZ->c3->Prop}{s:c3}{κ:SortKind}{ws:List cZ}{a₀:Array Keyed}{rs:List (List Keyed)}{rest:List Keyed}{st st':SortSt}
theorem SR.size(h:SR ws κ a₀ rs rest st):rs.flatten.length+rest.length=a₀.size:=by
 have:=congrArg List.length h.ar;rw[aI,h.pm.size_eq,lA1]at this;exact this.symm
end
section
variable{prog:c5}{w:c7}{A:c6}{E:cZ->c3->Prop}{s:c3}
end
theorem kO:entryFor table "dict.update.loop"=Z Builtin.«dict.update.loop» :=entryFor_of_tree (by kernel_rfl)
theorem gM:plainId "dict.update.loop"=M:=by decide+kernel
theorem zv:typeLookup (.type "list") (Str.ofString "keys")=pure Y:=by rw[typeLookup_type,builtinLookup_eq_fast];kernel_rfl
section
variable{P:c5}{w:c7}{A:c6}{E:cZ->c3->Prop}{s:c3}
theorem Ak {a:c4}{xs:Array cZ}{k:Nat}{sl:Array (Option cZ)}{Q:Option cZ->c3->Prop}(hx:s.heap.get? a=some {cls:=.type "list",dict:=none,data:=.seq xs k,slots:=sl})(l:A.handled=none)
  (h:∀h' tk,(∀b o,s.heap.get? b=Z o->h'.get? b=Z o)->Q Y {s with heap:=h',toks:=tk}):db (model P w) A (getAttr? (.ref a) (Str.ofString "keys")) Q E s:=by
 obtain⟨j,g,d,tk,m⟩:=s;have i:∀c,(⟨j,g,d,c,m⟩:c3).TypeIs (.ref a) "list":=λ_=>⟨_,hx,O⟩;have t:=sub_AttributeError;have r:=PySem.F.slot_list_getattribute.lookup;have u:=PySem.F.slot_list_getattribute.bind (.ref a);have v:=am_list_getattr_none;unfold getAttr? getAttrBy? getAttrBy
 repeat(any_goals (first|assumption|exact i _|((with_reducible show db _ _ (call (Value.builtin "list.__getattribute__") _ _) _ _ _);refine call_meets PySem.F.slot_list_getattribute (i _) am_entry_list_getattribute (PySem.F.args_list_getattribute_2 _ _) (meets_getattribute_miss_list a xs k sl _ _ zv (by decide) (by decide)) ⟨hx,l,λh' c e f=>?_⟩)|wp_step))
 obtain⟨n,q,p⟩:=f.there;show db _ _ (getattributeRaised _ _ _ _ _ _ _) _ _ _;unfold getattributeRaised
 repeat(any_goals (first|assumption|wp_step))
 exact h _ _ f.keeps
variable{K:Type} [DecidableEq K] {knd:HeapKind P w K}
abbrev v4(K:Type):=K×c4×cZ
def iq(ps:List (v4 K)):List (v4 K):=ps.foldl (λa q=>storedH a q.1 q.2.1 q.2.2) []
theorem uy(xs:List (v4 K))(k:K)(a:c4)(v:cZ):(storedH xs k a v).length<=xs.length+1:=by
 unfold storedH;split
 ·rw[lM1];exact bc _
 ·rw[lA1];exact nR1 _
theorem sb:∀(ps acc:List (v4 K)),(ps.foldl (λa q=>storedH a q.1 q.2.1 q.2.2) acc).length<=acc.length+ps.length
 |[],acc=>nR1 _
 |p::ps,acc=>by
  rw[bg,lC1];have h1:=sb ps (storedH acc p.1 p.2.1 p.2.2);have h2:=uy acc p.1 p.2.1 p.2.2;lia
theorem xb{ps:List (v4 K)}{i:Nat}{q:v4 K}(h:ps[i]?=Z q):iq (ps.take (i+1))=storedH (iq (ps.take i)) q.1 q.2.1 q.2.2:=by
 unfold iq;rw[cj,h,cm];rfl
theorem vr{F:v4 K->Prop}(c:∀(k:K) (a:c4) (v e:cZ),F (k,a,v)->F (k,a,e)):∀(ps acc:List (v4 K)),(∀x∈ps,F x)->(∀x∈acc,F x) -> ∀x∈ps.foldl (λa q=>storedH a q.1 q.2.1 q.2.2) acc,F x
 |[],acc,_,h=>h
 |p::ps,acc,hp,h=>by
  rw[bg];refine vr c ps _ (λx b=>hp x (mC1 _ b)) λx b=>?_;unfold storedH at b;split at b
  ·obtain⟨y,d,rfl⟩:=ci.mp b;unfold putAt;split
   ·exact c _ _ y.2.2 _ (h y d)
   ·exact h y d
  ·rcases aF.mp b with z|z
   ·exact h x z
   ·simp at z;subst z;exact hp p mS1
theorem CP{h:df}{ps:List (v4 K)}(hp:∀x∈ps,knd.is h x.1 x.2.1):∀x∈iq ps,knd.is h x.1 x.2.1:=
 vr (F:=λx=>knd.is h x.1 x.2.1) (λ_ _ _ _ z=>z) ps [] hp λx a=>by cases a
theorem zZ{d l it:c4}{h0:df}{its:Array cZ}{ps:List (v4 K)}{R:Result->c3->Prop}(hh:A.handled=none)(hu:knd.room A.in1)(t:its.size=ps.length)(hps:ps.length<=da)(U:h0.IsList l its)(nd:h0.get? d=none)(wq:h0.get? it=none)(g:d≠it)(f:∀(h:df) (k:K) (a:c4),(∀c o,h0.get? c=some o->h.get? c=some o)->knd.is h0 k a->knd.is h k a)(V:∀(i:Nat) (q:v4 K),ps[i]?=some q -> ∃D:c4,its[i]?=some (Value.ref D)/\h0.IsTuple D #[Value.ref q.2.1,q.2.2]/\knd.is h0 q.1 q.2.1):
  ∀(n i:Nat) (s:c3),its.size-i=n->i<=its.size->(∀c o,h0.get? c=Z o->s.heap.get? c=Z o)->s.heap.IsListIter it l i->s.heap.DictOfH knd d (iq (ps.take i)) ->
  (∀h' tk,(∀c o,h0.get? c=Z o->h'.get? c=Z o)->h'.DictOfH knd d (iq ps)->R (.ok (.ret .none)) {s with heap:=h',toks:=tk})->de (model P w) A (.builtin "dict.update.loop" ⟨[.ref d,.ref it,.int i 0,.none],[]⟩) R s:=by
 have C:∀{c:c4} {o:Obj},h0.get? c=Z o->c≠d/\c≠it:=λ{c o} e=>⟨λz=>(by rw[z,nd]at e;cases e),λz=>(by rw[z,wq]at e;cases e)⟩;have v:∀i,∀x∈iq (ps.take i),knd.is h0 x.1 x.2.1:=λi=>CP λx p=>by
  obtain⟨j,hj⟩:=bB (cA p);obtain⟨_,_,_,h⟩:=V j x hj;exact h
 intro n
 induction n with
 |zero=>
  intro i s hk hi keep st au q;have e:i=its.size:=by lia
  subst e;have m:s.heap.IsList l its:=by obtain⟨o,e,r⟩:=U;exact⟨o,keep _ _ e,r⟩
  refine wD1 kO (?_:_);rw[Around.under_plainId gM _];show db _ A.in1 (pyNext (.ref it) >>= _) _ _ s;refine wB1 (wpAny_pyNext_list_end (by simpa using hh) st m (by simp) λh' H=>?_);refine wB1 (wP1 (wP1 ?_));refine q h' s.toks (λc o e=>H c o (C e).2 (keep c o e)) ?_;have y:h'.DictOfH knd d (iq (ps.take its.size)):=by
   obtain⟨o,es,ep,am,E,I,N,g5,ao⟩:=au;have k2:∀x∈iq (ps.take its.size),knd.is h' x.1 x.2.1:=λx p=>f _ _ _ (λc o e=>H c o (C e).2 (keep c o e)) (v _ x p);exact⟨o,es,ep,H d o g am,E,I,N,k2,ao⟩
  rw[t,b0]at y;exact y
 |succ n ih=>
  intro i s hk hi keep st au q;have G:i<its.size:=by lia
  have m:s.heap.IsList l its:=by obtain⟨o,e,r⟩:=U;exact⟨o,keep _ _ e,r⟩
  obtain⟨pr,u⟩:∃pr,ps[i]?=some pr:=⟨_,gG1 (by lia)⟩;obtain⟨D,p,⟨op,S,hc,np,hd⟩,Q⟩:=V i pr u;refine wD1 kO (?_:_);rw[Around.under_plainId gM _];show db _ A.in1 (pyNext (.ref it) >>= _) _ _ s;refine wB1 (wpAny_pyNext_list_item st m p λh' st' W=>?_);have b:∀c o,h0.get? c=Z o->h'.get? c=Z o:=λc o e=>by rw[W.2 c (C e).2];exact keep c o e
  have F:h'.DictOfH knd d (iq (ps.take i)):=by
   obtain⟨o,es,ep,am,E,I,N,g5,ao⟩:=au;exact⟨o,es,ep,by rw[W.2 d g];exact am,E,I,N,λx p=>f _ _ _ b (v _ x p),ao⟩
  show db _ A.in1 (holding [Value.ref D] _ >>= _) _ _ _;refine wB1 (wpAny_holding (wB1 (wpAny_tryCatch ?_)));unfold Builtin.Dict.pairItems;refine wB1 (wpAny_typeOf (T:="tuple") ⟨op,b _ _ S,hc⟩ ?_);rw[ak (by decide)];refine wB1 (wpAny_seqItems (b _ _ S) hd (wP1 ?_));dsimp only[cB];refine wpAny_holding (wpAny_dictSet_heap (s:={s with heap:=h'}) hu (f _ _ _ b Q) F (λh2 L B=>?_) ?_)
  ·refine wP1 ⟨plainId_quiet gM _,?_⟩;have hq:=ih (i+1) {s with heap:=h2,toks:=s.toks+knd.draws pr.1} (by lia) G (fun c o e=>by rw [B.2 c (C e).1];exact b c o e) (by
    obtain⟨o,X,e2⟩:=st';exact⟨o,by rw[B.2 it (Ne.symm g)];exact X,e2⟩) (by rw[xb u];exact L) λaq tk k3 x3=>q aq tk k3 x3
   exact hq
  ·have:=sb (ps.take i) [];unfold iq;rw[aR]at this;simp at this;lia
theorem p7 {l:c4}{xs:Array cZ}{i:Nat}{sl:Array (Option cZ)}{Q:cZ->c3->Prop}(n:A.handled=none)(hx:s.heap.get? l=some {cls:=.type "list",dict:=none,data:=.seq xs i,slots:=sl})
  (m:∀(k:c6) (h1:df) (tk:Nat) (it:c4),k.handled=Y->k.units<=A.units+2->(∀b o,s.heap.get? b=Z o->h1.get? b=Z o)->s.heap.get? it=Y->s.heap.objs.size≠it->h1.IsListIter it l 0->h1.DictOfH knd s.heap.objs.size [] ->
   ∀R:Result->c3->Prop,(∀s',Q (.ref s.heap.objs.size) s'->R (.ok (.ret .none)) s')->de (model P w) k (.builtin "dict.update.loop" ⟨[.ref s.heap.objs.size,.ref it,.int 0 0,.none],[]⟩) R {s with heap:=h1,toks:=tk}):
  db (model P w) A (call (.type "dict") [.ref l]) Q E s:=by
 refine callType_codes (Q₁:=λh c=>h = .ref s.heap.objs.size/\c={s with heap:=s.heap.push {cls:=.type "dict",data:=.dict #[]}}) PySem.F.kt_called_dict (PySem.F.kt_typeCall_dict_1 _) PySem.F.entry_dict_init (kt_code_dict_new _ ⟨O,O⟩) ?_;rintro h c ⟨rfl,rfl⟩;have d:(s.heap.push {cls:=.type "dict",data:=.dict #[]}).DictOfH knd s.heap.objs.size []:=Heap.DictOfH.new s.heap;have r:Shared.TypeIs {s with heap:=s.heap.push {cls:=.type "dict",data:=.dict #[]}} (.ref s.heap.objs.size) "dict":=d.typeIs;have g:(s.heap.push {cls:=.type "dict",data:=.dict #[]}).get? l=Z {cls:=.type "list",dict:=Y,data:=.seq xs i,slots:=sl}:=hP1 _ hx;refine⟨r,PySem.F.args_dict_init_2 _ _,?_⟩;unfold Builtin.«dict.__init__»;refine wB1 ?_;unfold Builtin.Dict.selfAndRest;refine wB1 (wpAny_notOrdered_dict r ?_);show db _ _ (pure (s.heap.objs.size,[Value.ref l])) _ _ _;refine wP1 ?_;show db _ _ (Builtin.Dict.updateFrom "dict.__init__" s.heap.objs.size (.ref l) [] .none) _ _ _;unfold Builtin.Dict.updateFrom;refine wB1 (wpAny_typeOf (T:="list") ⟨_,g,O⟩ ?_);rw[ak (by decide)];refine wB1 (Ak (s:={s with heap:=s.heap.push {cls:=.type "dict",data:=.dict #[]}}) g (by simpa using n) λh1 tk keep=>?_);rw[ak (show(Y:Option cZ).isNone=M from rfl)];have a:∀b o,s.heap.get? b=Z o->h1.get? b=Z o:=λb o e=>keep b o (hP1 _ e);have z:h1.IsList l xs:=⟨_,a _ _ hx,O,i,O⟩;refine wB1 (wpAny_rule (wB1 (wpAny_pyIter_list (s:={s with heap:=h1,toks:=tk}) z ?_)));obtain⟨t,es,ep,y,u,v,C,D,B⟩:=d;have p:=keep _ _ y;have j:=hL1 p;have f:h1.get? h1.objs.size=Y:=Heap.get?_none_of_le (nR1 _);refine wB1 (wP1 (wP1 ⟨plainId_quiet gM _,?_⟩));refine m A.in1 _ tk h1.objs.size (by simpa using n) (bc _) (λb o e=>hP1 _ (a b o e)) ?_ (nN1 j) ?_ ?_ _ λs' q=>⟨O,q⟩
 ·cases e:s.heap.get? h1.objs.size with
  |none=>rfl
  |some o=>rw[a _ _ e]at f;cases f
 ·exact⟨_,hS1 _ O,O,O⟩
 ·exact⟨t,es,ep,hP1 _ p,u,v,C,(λx hx=>by cases hx),B⟩
end
def NR(F:List (TK×D)):Ob:=match F with
 |[]=>.dct []
 |_=>.dcT F
def x9:D->Option (TK×D)
 | .tup [k,v]=>(keyT k).map λk=>(k,v)
 |_=>Y
def j0:List D->Option (List (TK×D))
 |[]=>Z []
 |x::xs=>(x9 x).bind λp=>(j0 xs).map (p :: ·)
def ny(ps:List (TK×D)):List (TK×D):=ps.foldl (λF p=>eX F p.1 p.2) []
def pO:G1:=λd S=>match dQ S d with
 |some (M,xs)=>(j0 xs).bind λps=>if xs.length<=100000 then Z (.ref S.length,S++[NR (ny ps)])else Y
 |_=>Y
section
variable{ag:List (c4×Obj)}{σ:L2.St}{H:Hp}{s:c3}{mu:List c4}
theorem BG(I:Inv X ag σ H s){d:D}{v:V}{u:cZ}{p:TK×D}(r:eP X.K H mu d v)(q:dS v u)(h:x9 d=some p):
  ∃w:v4 TK,(p.1=w.1/\p.1.dep<=8/\eP X.K H mu (tkD p.1) (.ref w.2.1) /\ ∃v,dS v w.2.2/\eP X.K H mu p.2 v) /\ ∃g:c4,u = .ref g/\s.heap.IsTuple g #[Value.ref w.2.1,w.2.2]/\(fX X.prog X.w).is s.heap w.1 w.2.1:=by
 unfold x9 at h;split at h
 ·rename_i k x;obtain⟨l,t,e⟩:=oM1.mp h;subst e;cases r with
  | @tup _ a vs h1 h2=>
   cases q;obtain⟨j,y,o,_⟩:=I.tuple h1;cases h2 with
   |cons z f=>cases f with
    |cons r2 c=>
     cases c;cases y with
     |cons i f=>cases f with
      |cons m c=>
       cases c;obtain⟨b,rfl,rfl,rk,n,hi⟩:=j9 I z i t;exact⟨(l,b,_),⟨O,n,rk,_,m,r2⟩,_,O,o,hi⟩
 ·cases h
theorem rE(I:Inv X ag σ H s):∀ {ds:List D} {vs:List V} {b:List cZ} {ps:List (TK×D)},dI X.K H mu ds vs->d4 vs b->j0 ds=some ps ->
  ∃ws:List (v4 TK),KT X.K H mu ps ws/\ws.length=b.length /\ ∀(i:Nat) (q:v4 TK),ws[i]?=Z q -> ∃a:c4,b[i]?=Z (Value.ref a)/\s.heap.IsTuple a #[Value.ref q.2.1,q.2.2]/\(fX X.prog X.w).is s.heap q.1 q.2.1
 |[],_,_,ps,.nil,.nil,h=>by cases h;exact⟨[],.nil,O,λi q h=>by simp at h⟩
 |d::ds,_,_,ps,.cons r t,.cons q e,h=>by
  rw[j0]at h;obtain⟨p,c,h⟩:=oB1.mp h;obtain⟨m,k,h⟩:=oM1.mp h;subst h;obtain⟨w,f,a,n,l,j⟩:=BG I r q c;obtain⟨ws,h1,h2,g⟩:=rE I t e k;refine⟨w::ws,.cons f h1,by rw[lC1,lC1,h2],λi q h=>?_⟩;cases i with
  |zero=>simp at h;subst h;exact⟨a,by rw[n];rfl,l,j⟩
  |succ i=>exact g i q (by simpa using h)
theorem KT.fold{K:Fg1}:∀{ps:List (TK×D)} {ws:List (v4 TK)} {as:List (TK×D)} {bs:List (v4 TK)},KT K H mu ps ws->KT K H mu as bs->KT K H mu (ps.foldl (λF p=>eX F p.1 p.2) as) (ws.foldl (λa q=>storedH a q.1 q.2.1 q.2.2) bs):=by
 intro ps ws as bs h
 induction h generalizing as bs with
 |nil=>exact λg=>g
 | @cons p q ps ws r t ih=>
  intro g;obtain⟨e,b,rk,v,c,r2⟩:=r;rw[bg,bg,<- e];exact ih (g.put b rk c r2)
theorem zT(ps:List (TK×D)):(ny ps).length<=ps.length:=by
 have:∀(ps a:List (TK×D)),(ps.foldl (λF p=>eX F p.1 p.2) a).length<=a.length+ps.length:=by
  intro ps
  induction ps with
  |nil=>intro a;exact nR1 _
  |cons p ps ih=>
   intro a;rw[bg,lC1];have h1:=ih (eX a p.1 p.2);have h2:=nw a p.1 p.2;lia
 have:=this ps [];simpa[ny]using this
theorem pi:∀{ds:List D} {ps:List (TK×D)},j0 ds=Z ps->ps.length=ds.length
 |[],ps,h=>by cases h;rfl
 |d::ds,ps,h=>by
  rw[j0]at h;obtain⟨p,c,h⟩:=oB1.mp h;obtain⟨b,a,h⟩:=oM1.mp h;subst h;rw[lC1,lC1,pi a]
theorem FP{k:Nat}(hr:ge k X.A):eM X (.type "dict") (rN X.K (b1 pO)):=by
 intro ag s σ H xs us Q I r h;obtain⟨x,mu,S,d,r',S',rfl,V,D,f,hc⟩:=zl h;unfold pO at f;split at f
 ·rename_i ds P;obtain⟨ps,ep,f⟩:=oB1.mp f;split at f
  ·rename_i hl;cases f;obtain⟨a,vs,rfl,q,t⟩:=dJ V D P;obtain⟨u,rfl,r2⟩:=io r;cases r2;obtain⟨A,N,ht,hz⟩:=I.list q;obtain⟨ws,wq,v,hP⟩:=rE I t N ep;have m:A.length=ds.length:=by rw[<- N.length,<- t.length]
   obtain⟨ol,n,ao,C,B,c⟩:=ht;obtain⟨oc,od,oa,os⟩:=ol;dsimp only at C B c
   subst C B c
   have hu:=hr.un;refine p7 (knd:=fX X.prog X.w) hr.hd ao λaq h1 tk it G hAu keep T ne st hD R W=>?_;have L:ws.length<=100000:=by rw[v,m];exact hl
   have big:ws.length<=da:=aC L (by decide);refine zZ (knd:=fX X.prog X.w) (h0:=s.heap) (its:=A.toArray) (ps:=ws) G (by show aq.units+1+8<cLine;lia) (by rw[sT1];exact v.symm) big ⟨_,ao,O,n,O⟩ (Heap.get?_none_of_le (nR1 _)) T ne
    (λh k a e z=>⟨z.1.grows e,z.2⟩) (λi q e=>?_) _ 0 _ O (br _) keep st (by simpa[iq]using hD) λh' E b g=>W _ ?_
   ·obtain⟨pa,au,e2,e3⟩:=hP i q e;exact⟨pa,by rw[cv];exact au,e2,e3⟩
   ·have w:H s.heap.objs.size=none:=I.fresh;have j:KT X.K H mu (ny ps) (iq ws):=KT.fold wq .nil;have l:(s.heap.objs.size == sysModules)=false:=beq_eq_false_iff_ne.mpr (Ne.symm (nN1 I.big));have y:(iq ws).length<=da:=by
     rw[<- j.length];have h1:=zT ps;have h2:=pi ep;exact aC (by lia:(ny ps).length<=100000) (by decide)
    cases ef:ny ps with
    |nil=>
     rw[ef]at j hc;generalize iq ws=fw at j g y;cases j;obtain⟨o,es,am,g1,U,g3,g4,g5,g6⟩:=g;have K:es = #[]:=Array.toList_inj.mp (by simpa using g4);subst K;refine⟨.ref s.heap.objs.size,upd H s.heap.objs.size (.dK []),I.laid (t':=E) (o:=.dK []) b (nR1 _) ⟨br _,l,[],.nil,o,#[],am,g1,U,g3,?_,?_,bA⟩,O,hc _ _ (mu++[s.heap.objs.size]) (Ext.new_ w) (.ref (gh D.len _)) (D.new w ⟨[],d8,.nil⟩)⟩
     ·intro e K;simp at K
     ·exact .nil
    |cons p F=>
     rw[ef]at j hc;refine⟨.ref s.heap.objs.size,upd H s.heap.objs.size (.ext (iX s.heap.objs.size (iq ws))),I.laid (t':=E) b (nR1 _) (tS l g),O,hc _ _ (mu++[s.heap.objs.size]) (Ext.new_ w) (.ref (gh D.len _)) (D.new w ⟨_,d8,j.ext (Ext.new_ w),y⟩)⟩
  ·cases f
 ·cases f
end
section
variable{K:Fg1}{H:Hp}{mu nu:List c4}{a:c4}{h:Nat}
end
def CJ:G2:=λd e S=>match d,e with
 | .int i,.int j=>if 0<=j/\j<=1000000/\i.natAbs<2^64 then Z (.int (i*2^j.toNat),S)else Y
 |_,_=>Y
def CI:G2:=λd e S=>match d,e with
 | .int i,.int j=>if 0<=j then Z (.int (i/2^j.toNat),S)else Y
 |_,_=>Y
def yA:G2:=λd e S=>match d,e with
 | .int i,.int j=>Z (.int (Builtin.bitAnd i j),S)
 |_,_=>Y
def pM:G2:=λd e S=>match d,e with
 | .int i,.int j=>if 0<j/\j<2^64 then Z (.int (i/j),S)else Y
 |_,_=>Y
def vp:G1:=λd S=>match dQ S d with
 |some (M,xs)=>(l5 xs).bind λns=>Z (.int ns.sum,S)
 |_=>Y
theorem Ea:∀(l:List (Int×Tok)),preSum (numAt l.toArray) l.length=(l.map (·.1)).sum:=by
 intro l;have h:∀k,k<=l.length->preSum (numAt l.toArray) k=((l.map (·.1)).take k).sum:=by
  intro k
  induction k with
  |zero=>intro _;rfl
  |succ k ih=>
   intro a;rw[preSum,ih (by lia),List.take_add_one,List.sum_append,numAt_eq]
   congr 1
   have:k<(l.map (·.1)).length:=by rw[lM1];lia
   rw[bM,gG1 this];simp
 rw[h _ (nR1 _),b7 (by simp)]
theorem KO:fP X (binaryOp .LShift) (r2 X.K (b2 CJ)):=jF (c:=F9) (v:=λi j=>.int (i*2^j.toNat)) (λd e S r a h=>by
 unfold CJ at h;split at h
 ·split at h
  ·rename_i q;cases h;exact⟨_,_,O,O,q,O,O⟩
  ·cases h
 ·cases h) (λ_ _ _ _ _=>.int _) HN
theorem KN:fP X (binaryOp .RShift) (r2 X.K (b2 CI)):=jF (c:=λ_ j=>0<=j) (v:=λi j=>.int (i/2^j.toNat)) (λd e S r a h=>by
 unfold CI at h;split at h
 ·split at h
  ·rename_i q;cases h;exact⟨_,_,O,O,q,O,O⟩
  ·cases h
 ·cases h) (λ_ _ _ _ _=>.int _) HM
theorem Ie:fP X (binaryOp .BitAnd) (r2 X.K (b2 yA)):=j2 (v:=λi j=>.int (Builtin.bitAnd i j)) (λd e S r a h=>by
 unfold yA at h;split at h
 ·cases h;exact⟨_,_,O,O,O,O⟩
 ·cases h) (λ_ _ _ _ _=>.int _) HW
theorem wN:fP X (binaryOp .FloorDiv) (r2 X.K (b2 pM)):=jF (c:=λ_ j=>0<j/\j<2^64) (v:=λi j=>.int (i/j)) (λd e S r b h=>by
 unfold pM at h;split at h
 ·split at h
  ·rename_i q;cases h;exact⟨_,_,O,O,q,O,O⟩
  ·cases h
 ·cases h) (λ_ _ _ _ _=>.int _) (opI λi j _ _ _ _ _ hc q=>by
  have h1:(0:Int)<j:=hc.1;refine floordiv_int (by lia) (by rw[Int.fdiv_eq_ediv_of_nonneg i (by lia)];exact q) (.inl (PyProof.noPylong_of_log2 ?_));have h2:j.natAbs<2^64:=by have:=hc.2;lia
  have a:j.natAbs≠0:=by lia
  have:=(Nat.log2_lt a).mpr h2;lia)
theorem Jr(c:X.calm=M):eM X (.builtin "sum") (rN X.K (b1 vp)):=by
 intro ag s σ H xs z Q I r h;obtain⟨x,mu,S,d,A,y,rfl,n,e,b,hc⟩:=zl h;unfold vp at b;split at b
 ·rename_i ds g;obtain⟨ns,f,b⟩:=oB1.mp b;cases b;obtain⟨a,vs,rfl,q,t⟩:=dJ n e g;obtain⟨u,rfl,r2⟩:=io r;cases r2;obtain⟨j,m,k,w⟩:=I.list q;have o:=rW t m f;obtain⟨xs,l,p⟩:=w1 o;refine sum_intListG (I.ok.hd c) (by rw[<- l];exact k.isList) λh' tk v keep=>?_;have i:preSum (numAt xs) xs.size=ns.sum:=by rw[<- p];exact Ea xs.toList
  rw[i];exact⟨.int ns.sum,H,I.kept keep,⟨_,O⟩,hc.now (.int _) e⟩
 ·cases b
section
variable{ag:List (c4×Obj)}{σ:L2.St}{H:Hp}{s:c3}{mu:List c4}{S:dr}
end
open AutoSeq1 (wpAny_loadPart')
section
variable{P:c5}{w:c7}{A:c6}{E:cZ->c3->Prop}{s:c3}
def md(ps:List (Key×cZ)):List (Key×cZ):=ps.foldl (λa q=>stored a q.1 q.2) []
theorem xa{ps:List (Key×cZ)}{i:Nat}{q:Key×cZ}(h:ps[i]?=Z q):md (ps.take (i+1))=stored (md (ps.take i)) q.1 q.2:=by
 unfold md;rw[cj,h,cm];rfl
theorem mT:∀(ps acc:List (Key×cZ)),(ps.foldl (λa q=>stored a q.1 q.2) acc).length<=acc.length+ps.length
 |[],acc=>nR1 _
 |p::ps,acc=>by
  rw[bg,lC1];have h1:=mT ps (stored acc p.1 p.2);have h2:=stored_length_le acc p.1 p.2;lia
theorem xh{d l it:c4}{h0:df}{its:Array cZ}{ps:List (Key×cZ)}{R:Result->c3->Prop}(am:A.handled=none)(g:its.size=ps.length)(S:ps.length<=da)(E:h0.IsList l its)(nd:h0.get? d=none)(I:h0.get? it=none)(b:d≠it)(Q:∀(i:Nat) (q:Key×cZ),ps[i]?=some q -> ∃(m:c4) (y:cZ),its[i]?=some (Value.ref m)/\h0.IsTuple m #[y,q.2]/\(eE P w).is q.1 y=true):
  ∀(n i:Nat) (s:c3),its.size-i=n->i<=its.size->(∀c o,h0.get? c=Z o->s.heap.get? c=Z o)->s.heap.IsListIter it l i->s.heap.DictOf (eE P w) d (md (ps.take i)) ->
  (∀h' tk,(∀c o,h0.get? c=Z o->h'.get? c=Z o)->h'.DictOf (eE P w) d (md ps)->R (.ok (.ret .none)) {s with heap:=h',toks:=tk})->de (model P w) A (.builtin "dict.update.loop" ⟨[.ref d,.ref it,.int i 0,.none],[]⟩) R s:=by
 have u:∀{c:c4} {o:Obj},h0.get? c=Z o->c≠d/\c≠it:=λ{c o} e=>⟨λz=>(by rw[z,nd]at e;cases e),λz=>(by rw[z,I]at e;cases e)⟩;intro n
 induction n with
 |zero=>
  intro i s U hi keep st x q;have e:i=its.size:=by lia
  subst e;have f:s.heap.IsList l its:=by obtain⟨o,e,r⟩:=E;exact⟨o,keep _ _ e,r⟩
  refine wD1 kO (?_:_);rw[Around.under_plainId gM _];show db _ A.in1 (pyNext (.ref it) >>= _) _ _ s;refine wB1 (wpAny_pyNext_list_end (by simpa using am) st f (by simp) λh' D=>?_);refine wB1 (wP1 (wP1 ?_));refine q h' s.toks (λc o e=>D c o (u e).2 (keep c o e)) ?_;have j:=x.extBut D b;rw[g,b0]at j;exact j
 |succ n ih=>
  intro i s U hi keep st x q;have t:i<its.size:=by lia
  have f:s.heap.IsList l its:=by obtain⟨o,e,r⟩:=E;exact⟨o,keep _ _ e,r⟩
  obtain⟨pr,h⟩:∃pr,ps[i]?=some pr:=⟨_,gG1 (by lia)⟩;obtain⟨m,y,L,⟨op,C,hc,W,K⟩,B⟩:=Q i pr h;refine wD1 kO (?_:_);rw[Around.under_plainId gM _];show db _ A.in1 (pyNext (.ref it) >>= _) _ _ s;refine wB1 (wpAny_pyNext_list_item st f L λh' st' F=>?_);have a:∀c o,h0.get? c=Z o->h'.get? c=Z o:=λc o e=>by rw[F.2 c (u e).2];exact keep c o e
  have p:=x.sameBut F b;show db _ A.in1 (holding [Value.ref m] _ >>= _) _ _ _;refine wB1 (wpAny_holding (wB1 (wpAny_tryCatch ?_)));unfold Builtin.Dict.pairItems;refine wB1 (wpAny_typeOf (T:="tuple") ⟨op,a _ _ C,hc⟩ ?_);rw[ak (by decide)];refine wB1 (wpAny_seqItems (a _ _ C) K (wP1 ?_));dsimp only[cB];refine wpAny_holding (wpAny_dictSet_pairs (s:={s with heap:=h'}) B p (λh2 v k=>?_) ?_)
  ·refine wP1 ⟨plainId_quiet gM _,?_⟩;have au:=ih (i+1) {s with heap:=h2,toks:=s.toks+1} (by lia) t (fun c o e=>by rw [k.2 c (u e).1];exact a c o e) (by
    obtain⟨o,G,ao⟩:=st';exact⟨o,by rw[k.2 it (Ne.symm b)];exact G,ao⟩) (by rw[xa h];exact v) λH tk N V=>q H tk N V
   exact au
  ·have:=mT (ps.take i) [];unfold md;rw[aR]at this;simp at this;lia
end
def BI:D->Option (Key×D)
 | .tup [k,v]=>(qL k).map λk=>(k,v)
 |_=>Y
def mG:List D->Option (List (Key×D))
 |[]=>Z []
 |x::xs=>(BI x).bind λp=>(mG xs).map (p :: ·)
def vw(ps:List (Key×D)):List (Key×D):=ps.foldl (λF p=>eX F p.1 p.2) []
def pN:G1:=λd S=>match dQ S d with
 |some (M,xs)=>(mG xs).bind λps=>if xs.length<=100000 then Z (.ref S.length,S++[.dct (vw ps)])else Y
 |_=>Y
section
variable{ag:List (c4×Obj)}{σ:L2.St}{H:Hp}{s:c3}{mu:List c4}
theorem BH(I:Inv X ag σ H s){d:D}{v:V}{u:cZ}{p:Key×D}(r:eP X.K H mu d v)(q:dS v u)(h:BI d=some p):
  ∃(y:V) (g i:cZ) (f:c4),eP X.K H mu p.2 y/\dS y i/\dS (kV p.1) g/\u = .ref f/\s.heap.IsTuple f #[g,i]:=by
 unfold BI at h;split at h
 ·rename_i k x;obtain⟨z,o,e⟩:=oM1.mp h;subst e;cases r with
  | @tup _ a vs h1 h2=>
   cases q;obtain⟨l,t,n,_⟩:=I.tuple h1;cases h2 with
   |cons w c=>cases c with
    |cons r2 b=>
     cases b;cases t with
     |cons j c=>cases c with
      |cons m b=>
       cases b;have:=kK w o;subst this;exact⟨_,_,_,_,r2,m,j,O,n⟩
 ·cases h
theorem rF(I:Inv X ag σ H s):∀ {ds:List D} {vs:List V} {c:List cZ} {ps:List (Key×D)},dI X.K H mu ds vs->d4 vs c->mG ds=some ps ->
  ∃(ys:List (Key×V)) (ws:List (Key×cZ)),KR X.K H mu ps ys/\KV ys ws/\ws.length=c.length /\ ∀(i:Nat) (q:Key×cZ),ws[i]?=Z q -> ∃(a:c4) (b:cZ),c[i]?=Z (Value.ref a)/\s.heap.IsTuple a #[b,q.2]/\(eE X.prog X.w).is q.1 b=M
 |[],_,_,ps,.nil,.nil,h=>by cases h;exact⟨[],[],.nil,.nil,O,λi q h=>by simp at h⟩
 |d::ds,_,_,ps,.cons r t,.cons q f,h=>by
  rw[mG]at h;obtain⟨p,e,h⟩:=oB1.mp h;obtain⟨o,m,h⟩:=oM1.mp h;subst h;obtain⟨y,b,z,a,g,u,n,k,j⟩:=BH I r q e;obtain⟨ys,ws,x,l,v,w⟩:=rF I t f m;refine⟨(p.1,y)::ys,(p.1,z)::ws,.cons ⟨O,g⟩ x,.cons ⟨O,u⟩ l,by rw[lC1,lC1,v],λi q h=>?_⟩;cases i with
  |zero=>simp at h;subst h;exact⟨a,b,by rw[k];rfl,j,pF n⟩
  |succ i=>exact w i q (by simpa using h)
theorem KR.fold{K:Fg1}:∀{ps as:List (Key×D)} {ys bs:List (Key×V)},KR K H mu ps ys->KR K H mu as bs->KR K H mu (ps.foldl (λF p=>eX F p.1 p.2) as) (ys.foldl (λa q=>ik a q.1 q.2) bs):=by
 intro ps as ys bs h
 induction h generalizing as bs with
 |nil=>exact λg=>g
 | @cons p q ps ws r t ih=>
  intro g;obtain⟨e,r2⟩:=r;rw[bg,bg,<- e];exact ih (g.put r2)
theorem KV.fold:∀{ys bs:List (Key×V)} {ws cs:List (Key×cZ)},KV ys ws->KV bs cs->KV (ys.foldl (λa q=>ik a q.1 q.2) bs) (ws.foldl (λa q=>stored a q.1 q.2) cs):=by
 intro ys bs ws cs h
 induction h generalizing bs cs with
 |nil=>exact λg=>g
 | @cons p q ps ws r t ih=>
  intro g;obtain⟨e,r2⟩:=r;rw[bg,bg,<- e];exact ih (L2.KV.put g p.1 r2)
theorem FM{k:Nat}(hr:ge k X.A):eM X (.type "dict") (rN X.K (b1 pN)):=by
 intro ag s σ H xs us Q I r h;obtain⟨x,mu,S,d,r',S',rfl,V,D,c,hc⟩:=zl h;unfold pN at c;split at c
 ·rename_i ds au;obtain⟨ps,ep,c⟩:=oB1.mp c;split at c
  ·rename_i hl;cases c;obtain⟨a,vs,rfl,q,t⟩:=dJ V D au;obtain⟨u,rfl,r2⟩:=io r;cases r2;obtain⟨l,L,ht,hz⟩:=I.list q;obtain⟨ys,ws,kr,kv,j,hP⟩:=rF I t L ep;have g:l.length=ds.length:=by rw[<- L.length,<- t.length]
   obtain⟨ol,n,K,p,m,b⟩:=ht;obtain⟨oc,od,oa,os⟩:=ol;dsimp only at p m b
   subst p m b
   refine p7 (knd:=fX X.prog X.w) hr.hd K λA' h1 tk it w hAu keep P ne st hD R W=>?_;have E:ws.length<=100000:=by rw[j,g];exact hl
   have big:ws.length<=da:=aC E (by decide);have F:h1.DictOf (eE X.prog X.w) s.heap.objs.size []:=by
    obtain⟨o,es,y,g1,T,wq,g4,g5,g6⟩:=hD;have z:es = #[]:=Array.toList_inj.mp (by simpa using g4);subst z;exact⟨o,#[],y,g1,T,wq,λ_ z=>by simp at z,Pairs.nil,bA⟩
   refine xh (h0:=s.heap) (its:=l.toArray) (ps:=ws) w (by rw[sT1];exact j.symm) big ⟨_,K,O,n,O⟩ (Heap.get?_none_of_le (nR1 _)) P ne
    (λi q e=>?_) _ 0 _ O (br _) keep st (by simpa[md]using F) λh' G f A=>W _ ?_
   ·obtain⟨pa,uk,N,aq,U⟩:=hP i q e;exact⟨pa,uk,by rw[cv];exact N,aq,U⟩
   ·have B:H s.heap.objs.size=none:=I.fresh;have ao:KR X.K H mu (vw ps) (ys.foldl (fun a q=>ik a q.1 q.2) []):=KR.fold kr .nil;have am:KV (ys.foldl (fun a q=>ik a q.1 q.2) []) (md ws):=KV.fold kv .nil;have v:(s.heap.objs.size == sysModules)=false:=beq_eq_false_iff_ne.mpr (Ne.symm (nN1 I.big));generalize ys.foldl (fun a q=>ik a q.1 q.2) []=yf at ao am;have C:yf.length<=da:=by
     rw[am.length];have h1:=mT ws [];unfold md;simp at h1;exact aC h1 big
    exact⟨.ref s.heap.objs.size,upd H s.heap.objs.size (.dK yf),I.laid (t':=G) (o:=.dK yf) f (nR1 _) ⟨C,v,_,am,A⟩,O,hc _ _ (mu++[s.heap.objs.size]) (Ext.new_ B) (.ref (gh D.len _)) (D.new B ⟨yf,d8,KR.ext (Ext.new_ B) ao⟩)⟩
  ·cases c
 ·cases c
end
theorem Hj{kvs:List (Key×D)}{k:Key}{d:D}:kvs.length<=(eX kvs k d).length:=by
 unfold eX;split
 ·rw[lM1];exact nR1 _
 ·rw[lA1];exact bC _ _
theorem vt:∀(ps acc:List (Key×D)),acc.length<=(ps.foldl (λF p=>eX F p.1 p.2) acc).length
 |[],_=>nR1 _
 |p::ps,acc=>aC Hj (vt ps _)
theorem zS{α:Type}[DecidableEq α]{f:α->Key}(hf:∀x y,f x=f y->x=y){d:D}(x:α)(l:List α):((vw ((x::l).map λy=>(f y,d))).length == 1)=l.all λy=>decide (y=x):=by
 have a:∀l:List α,(((l.map λy=>(f y,d)).foldl (λF p=>eX F p.1 p.2) [(f x,d)]).length == 1)=l.all λy=>decide (y=x):=by
  intro l
  induction l with
  |nil=>rfl
  |cons y l ih=>
   rw[mP1,bg,bS];by_cases h:y=x
   ·subst h;have e:eX [(f y,d)] (f y) d=[(f y,d)]:=by simp[eX]
    rw[ah O,cC,<- ih];dsimp only;rw[e]
   ·have e:eX [(f x,d)] (f y) d=[(f x,d),(f y,d)]:=by
     have:¬ f x=f y:=λz=>h (hf _ _ z).symm;simp[eX,this]
    rw[ai h,aL];dsimp only;rw[e];have:=vt (l.map λy=>(f y,d)) [(f x,d),(f y,d)];simp only[lC1,bo]at this;rw[beq_eq_false_iff_ne];lia
 exact a l
def W{α:Type}(o:Option α)(Q:α->Prop):Prop:=∃x,o=Z x/\Q x
section
variable{α β:Type}{Q:α->Prop}
theorem dA{x:α}:W (Z x) Q↔Q x:=⟨λ⟨_,e,h⟩=>(by cases e;exact h),λh=>⟨x,O,h⟩⟩
theorem lJ:W (Y:Option α) Q↔False:=⟨λ⟨_,e,_⟩=>(by cases e),False.elim⟩
theorem dw{o:Option β}{f:β->Option α}:W (o.bind f) Q↔W o λx=>W (f x) Q:=by
 cases o with
 |none=>exact⟨λ⟨_,e,_⟩=>(by cases e),λ⟨_,e,_⟩=>(by cases e)⟩
 |some x=>exact⟨λh=>⟨x,O,h⟩,λ⟨_,e,h⟩=>by cases e;exact h⟩
theorem lr{o:Option β}{f:β->α}:W (o.map f) Q↔W o λx=>Q (f x):=by
 cases o with
 |none=>exact⟨λ⟨_,e,_⟩=>(by cases e),λ⟨_,e,_⟩=>(by cases e)⟩
 |some x=>exact⟨λ⟨_,e,h⟩=>(by cases e;exact⟨x,O,h⟩),λ⟨_,e,h⟩=>(by cases e;exact⟨_,O,h⟩)⟩
theorem vV{c:Prop}[Decidable c]{a b:Option α}:W (if c then a else b) Q↔if c then W a Q else W b Q:=by split<;>exact Iff.rfl
theorem W.mono{o:Option α}{Q':α->Prop}(h:W o Q)(k:∀x,Q x->Q' x):W o Q':=let ⟨x,e,q⟩:=h;⟨x,e,k x q⟩
theorem W.of{o:Option α}{x:α}(e:o=Z x)(h:Q x):W o Q:=⟨x,e,h⟩
end
theorem d1{a b:FS}{r:Ev}{S:dr}{Q:Fl×Ev×dr->Prop}(R:Ev->dr->Prop)(h1:W (a r S) λp=>p.1 = .nx/\R p.2.1 p.2.2)(h2:∀r S,R r S->W (b r S) Q):W (dG a b r S) Q:=by
 obtain⟨⟨f,g,h⟩,e,c,d⟩:=h1;dsimp only at c d;subst c;unfold dG;rw[e];exact h2 g h d
theorem jg{n:Nat}{b:FS}{ds:List D}{S:dr}{Q:D×dr->Prop}(h:W (b (fH n ds) S) fun p=>match p.1 with
  | .rt d=>Q (d,p.2.2)
  | .nx=>Q (.non,p.2.2)
  |_=>False):W (gH n b ds S) Q:=by
 obtain⟨⟨f,a,c⟩,e,q⟩:=h;unfold gH;rw[e];cases f with
 |rt d=>exact⟨_,O,q⟩
 |nx=>exact⟨_,O,q⟩
 |bk=>exact q.elim
 |ct=>exact q.elim
theorem jR{n:Nat}{f:FN}{ds:List D}{S:dr}{Q:D×dr->Prop}(hn:ds.length=n)(a:D.unds 0 ds=J)(h:W (f ds S) λp=>Q (gc S.length p)):W (dv n f ds S) Q:=by
 obtain⟨⟨d,b⟩,e,q⟩:=h;exact⟨_,sm e hn a,q⟩
theorem jx{n:Nat}{f:FN}{ds:List D}{S:dr}{Q:D×dr->Prop}(hn:ds.length=n)(c:D.unds 0 ds=M)(h:W (f ds []) λp=>p.1.und 0=M/\Q (p.1,S)):W (dv n f ds S) Q:=by
 obtain⟨⟨d,g⟩,e,a,b⟩:=h;exact⟨_,Ae e hn c a,b⟩
mutual
theorem e6{n:Nat}:∀{d:D},d.und 0=M->d.und n=M
 | .non,_=>rfl
 | .bl _,_=>rfl
 | .int _,_=>rfl
 | .str _,_=>rfl
 | .tup xs,h=>by rw[D.und]at h ⊢;exact fm h
 | .rol xs,h=>by rw[D.und]at h ⊢;exact fm h
 | .fn _,_=>rfl
 | .ref k,h=>by simp[D.und]at h
theorem fm{n:Nat}:∀{ds:List D},D.unds 0 ds=M->D.unds n ds=M
 |[],_=>rfl
 |d::ds,h=>by
  rw[D.unds,bA1]at h ⊢;exact⟨e6 h.1,fm h.2⟩
end
theorem fz{c:List (Nat×List D)}{g:FG}{b:FS}{Q:Fl×Ev×dr->Prop}(I:Nat->Ev->dr->Prop):∀ (items:List D) (k:Nat) (r:Ev) (S:dr),I k r S ->
  (∀i r S,I i r S->qC S c=M) ->
  (∀i d,items[i]?=Z d -> ∀r S,I (k+i) r S->W (g d r S) λp=>W (b p.1 p.2) λq=>q.1 = .nx/\I (k+i+1) q.2.1 q.2.2) ->
  (∀r S,I (k+items.length) r S->Q (.nx,r,S))->W (jQ c g b items r S) Q
 |[],k,r,S,hi,hok,_,hq=>by rw[jQ];dsimp only;rw[ak (hok _ _ _ hi),dA];exact hq r S (by simpa using hi)
 |d::ds,k,r,S,hi,hok,hs,hq=>by
  rw[jQ];dsimp only;rw[ak (hok _ _ _ hi),dw];obtain⟨p,h,h1⟩:=hs 0 d O r S (by simpa using hi);refine⟨p,h,?_⟩;dsimp only;rw[dw];obtain⟨⟨f,n,j⟩,m,h2,e⟩:=h1;refine⟨_,m,?_⟩;dsimp only at h2 e ⊢;subst h2;refine fz I ds (k+1) n j (by simpa using e) hok (λi o l r S a=>?_) λr S a=>hq r S (by rw[lC1,show k+(ds.length+1)=k+1+ds.length by lia];exact a);have:=hs (i+1) o (by simpa using l) r S (by rw[show k+(i+1)=k+1+i by lia];exact a);rw[show k+(i+1)+1=k+1+i+1 by lia]at this;exact this
theorem iB{c:List (Nat×List D)}{g:FG}{t:FT}{e:FE}{Q:List D×Ev×dr->Prop}(I:Nat->List D->Ev->dr->Prop):∀ (items:List D) (k:Nat) (acc:List D) (r:Ev) (S:dr),I k acc r S ->
  (∀i acc r S,I i acc r S->qC S c=M) ->
  (∀i d,items[i]?=Z d -> ∀acc r S,I (k+i) acc r S->W (g d r S) λp=>W (t p.1 p.2) λb=>if b.1=M then W (e p.1 b.2) λx=>I (k+i+1) (acc++[x.1]) p.1 x.2 else I (k+i+1) acc p.1 b.2) ->
  (∀xs r S,I (k+items.length) (acc++xs) r S->Q (xs,r,S))->W (fV c g t (dU e) items r S) Q
 |[],k,acc,r,S,hi,hok,_,hq=>by rw[fV];dsimp only;rw[ak (hok _ _ _ _ hi),dA];exact hq [] r S (by simpa using hi)
 |d::ds,k,acc,r,S,hi,hok,hs,hq=>by
  rw[fV];dsimp only;rw[ak (hok _ _ _ _ hi),dw];obtain⟨p,j,h1⟩:=hs 0 d O acc r S (by simpa using hi);refine⟨p,j,?_⟩;dsimp only;rw[dw];obtain⟨⟨b,l⟩,o,h2⟩:=h1;refine⟨_,o,?_⟩;have step:∀i f,ds[i]?=Z f -> ∀acc r S,I (k+1+i) acc r S->W (g f r S) λp=>W (t p.1 p.2) λb=>if b.1=M then W (e p.1 b.2) λx=>I (k+1+i+1) (acc++[x.1]) p.1 x.2 else I (k+1+i+1) acc p.1 b.2:=λi f n acc r S a=>by
   have:=hs (i+1) f (by simpa using n) acc r S (by rw[show k+(i+1)=k+1+i by lia];exact a);rw[show k+(i+1)+1=k+1+i+1 by lia]at this;exact this
  dsimp only at h2 ⊢;cases b with
  |true=>
   rw[ak O]at h2 ⊢;rw[dw,dU,lr];obtain⟨⟨x,m⟩,q,h⟩:=h2;refine⟨_,q,?_⟩;dsimp only at h ⊢;rw[lr];refine iB I ds (k+1) (acc++[x]) p.1 m (by simpa using h) hok step λxs r S a=>?_;refine hq _ r S ?_;rw[lC1,show k+(ds.length+1)=k+1+ds.length by lia];simpa using a
  |false=>
   rw[aj (by decide)]at h2 ⊢;refine iB I ds (k+1) acc p.1 l (by simpa using h2) hok step λxs r S a=>?_;refine hq _ r S ?_;rw[lC1,show k+(ds.length+1)=k+1+ds.length by lia];exact a
theorem mx{S:dr}{b:Bool}:wr S (.bl b)=Z b:=rfl
theorem L3{S:dr}:wr S .non=Z J:=rfl
theorem L4{S:dr}{i:Int}:wr S (.int i)=Z (i != 0):=rfl
theorem Ft{x y:Int}{S:dr}:gEq (.int x) (.int y) S=Z (.bl (x == y),S):=rfl
theorem Fn{x y:Int}{S:dr}:zQ (.int x) (.int y) S=Z (.bl (!(x == y)),S):=rfl
theorem Fp{x y:Int}{S:dr}:w8 (.int x) (.int y) S=Z (.bl (decide (x<y)),S):=rfl
theorem yz{x y:Str}{S:dr}:gEq (.str x) (.str y) S=Z (.bl (x == y),S):=rfl
theorem Mg{x y:Str}{S:dr}:zQ (.str x) (.str y) S=Z (.bl (!(x == y)),S):=rfl
theorem ite_and'{c p:Prop}[Decidable c]:(if c then p else False)↔c/\p:=by split<;>simp[*]
def Av(j:Int):Bool:=decide (-(2^62)<=j)&&decide (j<2^62)
theorem gG{n:Nat}(h:n<2^60):Av n=M:=by
 unfold Av;rw[bA1,al,al];lia
theorem t8{j:Int}(h: -(2^60)<=j)(h':j<2^60):Av j=M:=by
 unfold Av;rw[bA1,al,al];lia
def Bi(p:List D×dr)(Q:Aq×dr->Prop):Prop:=match p.1 with
 |[.int j]=>Av j=M/\Q (⟨jo 0 j.toNat,[]⟩,p.2)
 |_=>False
def L8(p:List D×dr)(Q:Aq×dr->Prop):Prop:=match p.1 with
 |[.int i,.int j]=>Av i=M/\Av j=M/\Q (⟨jo i (j-i).toNat,[]⟩,p.2)
 |_=>False
theorem nL{m:FA}{r:Ev}{S:dr}{Q:Aq×dr->Prop}:W (nS m r S) Q↔W (m r S) λp=>Bi p Q:=by
 unfold nS;rw[dw];constructor
 ·refine λh=>h.mono λp q=>?_;unfold Bi;split at q
  ·rename_i j e
   try rw[e]
   rw[vV]at q;split at q
   ·rename_i hc;exact⟨by unfold Av;rw[bA1,al,al];exact hc,dA.mp q⟩
   ·exact(lJ.mp q).elim
  ·exact(lJ.mp q).elim
 ·refine λh=>h.mono λp q=>?_;unfold Bi at q;split at q
  ·rename_i j e;obtain⟨a,b⟩:=q;unfold Av at a;rw[bA1,al,al]at a
   try rw[e]
   try dsimp only
   rw[ak a];exact dA.mpr b
  ·exact q.elim
theorem LR{m:FA}{r:Ev}{S:dr}{Q:Aq×dr->Prop}:W (JR m r S) Q↔W (m r S) λp=>L8 p Q:=by
 unfold JR;rw[dw];constructor
 ·refine λh=>h.mono λp q=>?_;unfold L8;split at q
  ·rename_i i j e
   try rw[e]
   rw[vV]at q;split at q
   ·rename_i hc;refine⟨?_,?_,dA.mp q⟩
    ·unfold Av;rw[bA1,al,al];exact⟨hc.1,hc.2.1⟩
    ·unfold Av;rw[bA1,al,al];exact hc.2.2
   ·exact(lJ.mp q).elim
  ·exact(lJ.mp q).elim
 ·refine λh=>h.mono λp q=>?_;unfold L8 at q;split at q
  ·rename_i i j e;obtain⟨a,b,c⟩:=q;unfold Av at a b;rw[bA1,al,al]at a b
   try rw[e]
   try dsimp only
   rw[ak ⟨a.1,a.2,b⟩];exact dA.mpr c
  ·exact q.elim
def fits(n:Nat):Bool:=decide (n<=da)
theorem dB{n:Nat}(h:n<=100000):fits n=M:=by unfold fits;rw[al];exact aC h (by decide)
theorem vx{n:Nat}:fits n=M↔n<=da:=by unfold fits;rw[al]
theorem NP:fits 0=M:=dB (by decide)
theorem NO:fits 1=M:=dB (by decide)
theorem Nd:fits 2=M:=dB (by decide)
theorem Nc:fits 3=M:=dB (by decide)
theorem OB:fits 4=M:=dB (by decide)
theorem OA:fits 5=M:=dB (by decide)
theorem OG:fits 6=M:=dB (by decide)
theorem Oz:fits 7=M:=dB (by decide)
theorem Oy:fits 8=M:=dB (by decide)
theorem jf{α:Type}{n:Nat}{o:Option α}{Q:α->Prop}:W (if n<=da then o else Y) Q↔fits n=M/\W o Q:=by
 rw[vx,vV];split
 ·rename_i h;exact⟨λq=>⟨h,q⟩,λq=>q.2⟩
 ·rename_i h;exact⟨λq=>(lJ.mp q).elim,λq=>absurd q.1 h⟩
theorem qr{a:FA}{r:Ev}{S:dr}{Q:D×dr->Prop}:W (d7 a r S) Q↔W (a r S) λp=>fits p.1.length=M/\Q (.tup p.1,p.2):=by
 unfold d7;rw[dw];exact⟨λh=>h.mono λp q=>(jf.mp q).imp_right dA.mp,λh=>h.mono λp q=>jf.mpr (q.imp_right dA.mpr)⟩
theorem uc{a:FA}{r:Ev}{S:dr}{Q:D×dr->Prop}:W (eY a r S) Q↔W (a r S) λp=>fits p.1.length=M/\Q (.ref p.2.length,p.2++[.lst p.1]):=by
 unfold eY;rw[dw];exact⟨λh=>h.mono λp q=>(jf.mp q).imp_right dA.mp,λh=>h.mono λp q=>jf.mpr (q.imp_right dA.mpr)⟩
theorem fc{k:Nat}{keep:List Nat}{m:FI}{g:FG}{t:FT}{b:FV}{r:Ev}{S:dr}{Q:D×dr->Prop}:W (d5 k keep m g t b r S) Q↔W (m r S) λp=>W (fV p.1.chk g t b p.1.items (jv k keep r) p.2) λq=>fits q.1.length=M/\Q (.ref q.2.2.length,q.2.2++[.lst q.1]):=by
 unfold d5;rw[dw];refine⟨λh=>h.mono λp q=>?_,λh=>h.mono λp q=>?_⟩
 ·rw[dw]at q;exact q.mono λz w=>(jf.mp w).imp_right dA.mp
 ·rw[dw];exact q.mono λz w=>jf.mpr (w.imp_right dA.mpr)
theorem JF{xs ys:List D}{S:dr}{Q:D×dr->Prop}:W (eD (.tup xs) (.tup ys) S) Q↔fits (xs.length+ys.length)=M/\Q (.tup (xs++ys),S):=
 ⟨λq=>(jf.mp q).imp_right dA.mp,λq=>jf.mpr (q.imp_right dA.mpr)⟩
theorem JG{x y:Int}{S:dr}{Q:D×dr->Prop}:W (eD (.int x) (.int y) S) Q↔Q (.int (x+y),S):=dA
theorem xw{a b:Nat}{xs ys:List D}{S:dr}{Q:D×dr->Prop}(h1:S[a]?=Z (.lst xs))(h2:S[b]?=Z (.lst ys)):W (eD (.ref a) (.ref b) S) Q↔fits (xs.length+ys.length)=M/\Q (.ref S.length,S++[.lst (xs++ys)]):=by
 rw[eD];simp only[h1,h2];exact⟨λq=>(jf.mp q).imp_right dA.mp,λq=>jf.mpr (q.imp_right dA.mpr)⟩
theorem ls{n:Nat}{v:D}{xs:List D}{S:dr}{Q:D×dr->Prop}(h:S[n]?=Z (.lst xs)):W (kY (.ref n) v S) Q↔fits (xs.length+1)=M/\Q (.non,S.set n (.lst (xs++[v]))):=by
 rw[kY];simp only[h];rw[vV,vx];split
 ·rename_i a;exact⟨λq=>⟨a,dA.mp q⟩,λq=>dA.mpr q.2⟩
 ·rename_i a;exact⟨λq=>(lJ.mp q).elim,λq=>absurd q.1 a⟩
theorem nK{n:Nat}{i:Nat}{xs:List D}{x:D}{S:dr}{Q:D×dr->Prop}(h:S[n]?=Z (.lst xs))(hx:xs[i]?=Z x)(q:Q (x,S)):W (dz (.ref n) (.int i) S) Q:=by
 refine W.of (x:=(x,S)) ?_ q;have a:=(gE1.mp hx).1;simp only[dz,mS,CL,h,dQ,vZ,wX,oS1,ak (show(0:Int)<=i by lia)];rw[ak (by lia)];simp[hx]
theorem jV{i:Nat}{xs:List D}{x:D}{S:dr}{Q:D×dr->Prop}(hx:xs[i]?=Z x)(q:Q (x,S)):W (dz (.tup xs) (.int i) S) Q:=by
 refine W.of (x:=(x,S)) ?_ q;have a:=(gE1.mp hx).1;simp only[dz,mS,CL,dQ,vZ,wX,oS1,ak (show(0:Int)<=i by lia)];rw[ak (by lia)];simp[hx]
theorem JB{n:Nat}{i:Nat}{xs:List D}{v:D}{S:dr}{Q:D×dr->Prop}(h:S[n]?=Z (.lst xs))(hx:i<xs.length)(q:Q (.non,S.set n (.lst (xs.set i v)))):W (gJ (.ref n) (.int i) v S) Q:=by
 refine W.of (x:=(.non,S.set n (.lst (xs.set i v)))) ?_ q;simp only[gJ,l8,ke,h,wX,ak (show(0:Int)<=i by lia)];rw[ak (by lia)];simp
theorem Op:aP 0 (Y:Option D)=[]:=rfl
theorem NC:aP 1 (Y:Option D)=[Y]:=rfl
theorem Of:aP 2 (Y:Option D)=[Y,Y]:=rfl
theorem Od:aP 3 (Y:Option D)=[Y,Y,Y]:=rfl
theorem Oc:aP 4 (Y:Option D)=[Y,Y,Y,Y]:=rfl
theorem Oa:aP 5 (Y:Option D)=[Y,Y,Y,Y,Y]:=rfl
theorem N9:aP 6 (Y:Option D)=[Y,Y,Y,Y,Y,Y]:=rfl
theorem N8:aP 7 (Y:Option D)=[Y,Y,Y,Y,Y,Y,Y]:=rfl
theorem N7:aP 8 (Y:Option D)=[Y,Y,Y,Y,Y,Y,Y,Y]:=rfl
theorem OF:aP 9 (Y:Option D)=[Y,Y,Y,Y,Y,Y,Y,Y,Y]:=rfl
theorem Oo:aP 10 (Y:Option D)=[Y,Y,Y,Y,Y,Y,Y,Y,Y,Y]:=rfl
theorem MM:aP 11 (Y:Option D)=[Y,Y,Y,Y,Y,Y,Y,Y,Y,Y,Y]:=rfl
theorem On:aP 12 (Y:Option D)=[Y,Y,Y,Y,Y,Y,Y,Y,Y,Y,Y,Y]:=rfl
theorem Om:aP 13 (Y:Option D)=[Y,Y,Y,Y,Y,Y,Y,Y,Y,Y,Y,Y,Y]:=rfl
theorem Ol:aP 14 (Y:Option D)=[Y,Y,Y,Y,Y,Y,Y,Y,Y,Y,Y,Y,Y,Y]:=rfl
theorem ML:aP 15 (Y:Option D)=[Y,Y,Y,Y,Y,Y,Y,Y,Y,Y,Y,Y,Y,Y,Y]:=rfl
theorem Oj:aP 16 (Y:Option D)=[Y,Y,Y,Y,Y,Y,Y,Y,Y,Y,Y,Y,Y,Y,Y,Y]:=rfl
theorem Oi:aP 17 (Y:Option D)=[Y,Y,Y,Y,Y,Y,Y,Y,Y,Y,Y,Y,Y,Y,Y,Y,Y]:=rfl
theorem Oh:aP 18 (Y:Option D)=[Y,Y,Y,Y,Y,Y,Y,Y,Y,Y,Y,Y,Y,Y,Y,Y,Y,Y]:=rfl
theorem Og:aP 19 (Y:Option D)=[Y,Y,Y,Y,Y,Y,Y,Y,Y,Y,Y,Y,Y,Y,Y,Y,Y,Y,Y]:=rfl
theorem Oe:aP 20 (Y:Option D)=[Y,Y,Y,Y,Y,Y,Y,Y,Y,Y,Y,Y,Y,Y,Y,Y,Y,Y,Y,Y]:=rfl
theorem gF{α:Type}{T G:List α}{k:Nat}:(T++G)[T.length+k]?=G[k]?:=by rw[gR1 (by lia)];congr 1;lia
theorem dL{α:Type}{T G:List α}:(T++G)[T.length]?=G[0]?:=by rw[gR1 (by lia)];congr 1;lia
theorem yw{S:dr}{i j:Nat}{xs:List D}(h:S[i]?=Z (.lst xs))(h':S[j]?=Z (.lst [])):zQ (.ref i) (.ref j) S=Z (.bl (!xs.isEmpty),S):=by
 unfold zQ fb;rw[show(60:Nat)=59+1 from rfl,lE];simp only[dQ,h,h'];cases xs with
 |nil=>simp[vY]
 |cons x xs=>simp
theorem tE:∀(n:Nat) (lo:Int),jo lo n=(af n).map λi:Nat=>D.int (lo+i)
 |0,lo=>rfl
 |n+1,lo=>by
  rw[jo,tE n (lo+1),List.range_succ_eq_map,mP1,bD]
  congr 1
  ·simp
  ·apply cD;intro i _;simp only[Function.comp_apply,cE]
   congr 1
   push_cast
   lia
theorem jP(n:Nat):jo 0 n=(af n).map λi:Nat=>D.int i:=by
 rw[tE];apply cD;intro i _;simp
theorem kW{α:Type}{c:List (Nat×List D)}{g:FG}{t:FT}{e:FE}{S:dr}{f:α->D}{Q:List D×Ev×dr->Prop}(F:α->D)(P:Ev->Prop)(d:qC S c=true):∀ (xs:List α) (r:Ev),P r ->
  (∀a∈xs,∀r,P r->W (g (f a) r S) λp=>W (t p.1 p.2) λb=>b.1=M/\W (e p.1 b.2) λx=>x.1=F a/\x.2=S/\P p.1) ->
  (∀i,P i->Q (xs.map F,i,S))->W (fV c g t (dU e) (xs.map f) r S) Q
 |[],r,hr,_,h=>by rw[bj,fV];dsimp only;rw[ak d,dA];exact h r hr
 |a::xs,r,hr,hs,h=>by
  rw[mP1,fV];dsimp only;rw[ak d,dw];obtain⟨p,l,⟨b,q,o,⟨x,u,m,k,n⟩⟩⟩:=hs a mS1 r hr;refine⟨p,l,?_⟩;dsimp only;rw[dw];refine⟨b,q,?_⟩;dsimp only;rw[ak o,dw,dU,lr];refine⟨x,u,?_⟩;dsimp only;rw[k,lr];refine kW F P d xs p.1 n (λa s=>hs a (mC1 _ s)) λi j=>?_;have:=h i j;rw[mP1,<- m]at this;exact this
theorem iC{α:Type}{c:List (Nat×List D)}{g:FG}{t:FT}{e:FE}{S:dr}{f:α->D}{Q:List D×Ev×dr->Prop}(k:α->Bool)(F:α->D)(P:Ev->Prop)(d:qC S c=true):∀ (xs:List α) (r:Ev),P r ->
  (∀a∈xs,∀r,P r->W (g (f a) r S) λp=>W (t p.1 p.2) λb=>b.1=k a/\b.2=S/\P p.1/\(k a=M->W (e p.1 S) λx=>x.1=F a/\x.2=S)) ->
  (∀j,P j->Q ((xs.filter k).map F,j,S))->W (fV c g t (dU e) (xs.map f) r S) Q
 |[],r,hr,_,h=>by rw[bj,fV];dsimp only;rw[ak d,dA];exact h r hr
 |a::xs,r,hr,hs,h=>by
  rw[mP1,fV];dsimp only;rw[ak d,dw];obtain⟨p,u,⟨b,v,s,o,q,l⟩⟩:=hs a mS1 r hr;refine⟨p,u,?_⟩;dsimp only;rw[dw];refine⟨b,v,?_⟩;dsimp only;cases hk:k a with
  |true=>
   rw[s,hk,ak O,dw,dU,lr,o];obtain⟨x,w,l,n⟩:=l hk;refine⟨x,w,?_⟩;dsimp only;rw[n,lr];refine iC k F P d xs p.1 q (λa m=>hs a (mC1 _ m)) λj i=>?_;have:=h j i;rw[cF,hk,ak O,mP1,<- l]at this;exact this
  |false=>
   rw[s,hk,aj (by decide),o];refine iC k F P d xs p.1 q (λa m=>hs a (mC1 _ m)) λj i=>?_;have:=h j i;rw[cF,hk,aj (by decide)]at this;exact this
theorem vT{α:Type}{f:α->Bool}:∀xs:List α,Mi.Dm (xs.map λx=>D.bl (f x))=Z (xs.all f)
 |[]=>rfl
 |x::xs=>by rw[mP1,Mi.Dm,vT xs];rfl
mutual
theorem AM{n m:Nat}(h:n<=m):∀{d:D},d.und n=M->d.und m=M
 | .non,_=>rfl
 | .bl _,_=>rfl
 | .int _,_=>rfl
 | .str _,_=>rfl
 | .tup xs,q=>by rw[D.und]at q ⊢;exact i3 h q
 | .rol xs,q=>by rw[D.und]at q ⊢;exact i3 h q
 | .fn _,_=>rfl
 | .ref k,q=>by simp[D.und]at q ⊢;lia
theorem i3{n m:Nat}(h:n<=m):∀{ds:List D},D.unds n ds=M->D.unds m ds=M
 |[],_=>rfl
 |d::ds,q=>by
  rw[D.unds,bA1]at q ⊢;exact⟨AM h q.1,i3 h q.2⟩
end
theorem gC{n m:Nat}(h:n<=m):∀{o:Ob},o.und n=M->o.und m=M
 | .lst xs,q=>by rw[Ob.und]at q ⊢;exact i3 h q
 | .dct xs,q=>by rw[Ob.und]at q ⊢;exact i3 h q
 | .dcT xs,q=>by rw[Ob.und]at q ⊢;exact i3 h q
 | .dcF xs,q=>by rw[Ob.und]at q ⊢;exact i3 h q
 | .iset _,_=>rfl
 | .tst _,_=>rfl
theorem dW{α:Type}{n:Nat}{f:α->D}:∀{xs:List α},(∀x∈xs,(f x).und n=M)->D.unds n (xs.map f)=M
 |[],_=>rfl
 |x::xs,h=>by rw[mP1,D.unds,h x mS1,dW λy a=>h y (mC1 _ a)];rfl
theorem OD{x:Nat}:x+1+1=x+2:=rfl
theorem OM{x:Nat}:x+2+1=x+3:=rfl
theorem OL{x:Nat}:x+3+1=x+4:=rfl
theorem OK{x:Nat}:x+4+1=x+5:=rfl
theorem OJ{x:Nat}:x+5+1=x+6:=rfl
theorem OI{x:Nat}:x+6+1=x+7:=rfl
theorem OC{x:Nat}:x+1+2=x+3:=rfl
theorem gY{xs:List D}{S:dr}:eA (.tup xs) S=Z (.int xs.length,S):=rfl
theorem Mc{xs:List D}{S:dr}:eA (.rol xs) S=Z (.int xs.length,S):=rfl
theorem K9{S:dr}:eA (.str "") S=Z (.int 0,S):=rfl
theorem xR{xs:List D}{S:dr}:dQ S (.tup xs)=Z (J,xs):=rfl
theorem L6{xs:List D}{S:dr}:dQ S (.rol xs)=Z (M,xs):=rfl
theorem yJ{xs:List D}{S:dr}:kg S (.tup xs)=[]:=rfl
theorem Mj{xs:List D}{S:dr}:kg S (.rol xs)=[]:=rfl
theorem fQ{n:Nat}{xs:List D}{S:dr}(h:S[n]?=Z (.lst xs)):dQ S (.ref n)=Z (M,xs):=by simp only[dQ,h]
theorem yK{n:Nat}{xs:List D}{S:dr}(h:S[n]?=Z (.lst xs)):kg S (.ref n)=[(n,xs)]:=by simp only[kg,h]
def sW(S:dr)(d:D)(Q:List D×List (Nat×List D)->Prop):Prop:=W (dQ S d) λq=>Q (q.2,kg S d)
theorem gg{xs:List D}{S:dr}{Q:List D×List (Nat×List D)->Prop}:sW S (.tup xs) Q↔Q (xs,[]):=dA
theorem eh{n:Nat}{xs:List D}{S:dr}{Q:List D×List (Nat×List D)->Prop}(h:S[n]?=Z (.lst xs))(q:Q (xs,[(n,xs)])):sW S (.ref n) Q:=by
 unfold sW;rw[fQ h,yK h,dA];exact q
theorem iW{m:FE}{r:Ev}{S:dr}{Q:Aq×dr->Prop}:W (eZ m r S) Q↔W (m r S) λp=>sW p.2 p.1 λq=>Q (⟨q.1,q.2⟩,p.2):=by
 unfold eZ;rw[dw];refine⟨λh=>h.mono λp q=>?_,λh=>h.mono λp q=>?_⟩
 ·rw[dw]at q;exact q.mono λz w=>dA.mp w
 ·rw[dw];exact W.mono (show W (dQ p.2 p.1) _ from q) λz w=>dA.mpr w
theorem qs{d:D}{S:dr}{Q:D×dr->Prop}:W (Mi.gTup d S) Q↔sW S d λq=>Q (.tup q.1,S):=by
 unfold Mi.gTup;rw[lr];exact Iff.rfl
theorem LP{n:Nat}{S:dr}{Q:D×dr->Prop}:W (eA (.ref n) S) Q↔sW S (.ref n) λq=>Q (.int q.1.length,S):=by
 unfold eA sW;rw[lr]
def pD(e:Nat×Nat):D:=.tup [.int e.1,.int e.2]
theorem kl{f:FN}{o:FE}{a:FA}{r:Ev}{S:dr}{Q:D×dr->Prop}(h:W (o r S) λp=>∃n xs,p.1 = .ref n/\p.2[n]?=Z (.lst xs)/\W (a r p.2) λq=>W (f (.ref n::q.1) q.2) Q):W (uj f o a r S) Q:=by
 unfold uj;rw[dw];refine h.mono ?_;rintro⟨d,b⟩ ⟨n,xs,rfl,e,q⟩;dsimp only at e q ⊢;rw[e];dsimp only;rw[dw];exact q
def fq(row:List (Nat×Nat)):Ob:=.lst (row.map pD)
theorem iE{n:Nat}{row:List (Nat×Nat)}:(fq row).und n=M:=by
 unfold fq;rw[Ob.und];exact dW λ_ _=>rfl
structure WS (t m:Nat)(T:dr)(E:List (List (Nat×Nat)))(P:List (Nat×Nat))(U:dr):Prop where
 tl:T.length=t
 low:U.take t=T
 el:E.length=m
 row:∀i row,E[i]?=some row->U[t+i]?=some (fq row)
 ends:U[t+m]?=some (.lst (jb (t+1) m))
 prs:U[t+m+1]?=some (.lst (P.map pD))
theorem WS.app{t m:Nat}{T:dr}{E:List (List (Nat×Nat))}{P:List (Nat×Nat)}{U G:dr}(w:WS t m T E P U):WS t m T E P (U++G):=by
 have b:t+m+1<U.length:=(gE1.mp w.prs).1;refine⟨w.tl,?_,w.el,λi a h=>?_,?_,?_⟩
 ·rw[cG (by omega)];exact w.low
 ·have:=w.row i a h;rw[gL1 (gE1.mp this).1];exact this
 ·rw[gL1 (by omega)];exact w.ends
 ·rw[gL1 (by omega)];exact w.prs
theorem lT:∀{k n i:Nat},i<k->(jb n k)[i]?=Z (.ref (n+i))
 |k+1,n,0,_=>rfl
 |k+1,n,i+1,h=>by rw[jb,gC1,lT (Nat.lt_of_succ_lt_succ h),show n+1+i=n+(i+1) by lia]
theorem jm:∀k n:Nat,(jb n k).length=k
 |0,_=>rfl
 |k+1,n=>by rw[jb,lC1,jm]
def tot(E:List (List (Nat×Nat))):Nat:=(E.map List.length).sum
theorem AS:∀{E:List (List (Nat×Nat))} {k:Nat},k<=E.length->(∀i b,i<k->E[i]?=Z b->4<=b.length)->4*k<=tot E
 |E,0,_,_=>by lia
 |[],k+1,h,_=>by simp at h
 |a::E,k+1,h,q=>by
  have h1:=q 0 a (by lia) O;have h2:=AS (E:=E) (k:=k) (by simpa using h) λi b hi c=>q (i+1) b (by lia) (by simpa using c);simp[tot]at h2 ⊢;lia
def nmD(rs:List Nat):List D:=rs.map λi:Nat=>D.int i
theorem ff(rs:List Nat):(nmD rs).length=rs.length:=by simp[nmD]
theorem fx(rs:List Nat):D.unds 0 (nmD rs)=M:=dW λ_ _=>rfl
abbrev Wk:=Nat×Nat×Nat
def eN(w:Wk):D:=.tup [.int w.1,.int w.2.1,.int w.2.2]
def eg(ws:List Wk):List D:=ws.map eN
theorem n3(ws:List Wk):(eg ws).length=ws.length:=by simp[eg]
theorem xH(ws:List Wk):D.unds 0 (eg ws)=M:=dW λ_ _=>rfl
def dM(ws:List Wk)(cs:List Nat):D:=.tup [.tup (eg ws),.tup (nmD cs)]
theorem gL{ws:List Wk}{cs:List Nat}:(dM ws cs).und 0=M:=by simp[dM,D.und,D.unds,xH,fx]
def fW(a b c d:Bool):List D:=(if a then[.str "came"]else[])++(if b then[.str "chalk"]else[])++(if c then[.str "doors"]else[])++(if d then[.str "others"]else[])
theorem pS(a b c d:Bool):D.unds 0 (fW a b c d)=M:=by cases a<;>cases b<;>cases c<;>cases d<;>rfl
theorem Fj{a b c d:Bool}{S:dr}:fY (.str "came") (.tup (fW a b c d)) S=Z (.bl a,S):=by cases a<;>cases b<;>cases c<;>cases d<;>rfl
theorem Cz{a b c d:Bool}{S:dr}:fY (.str "chalk") (.tup (fW a b c d)) S=Z (.bl b,S):=by cases a<;>cases b<;>cases c<;>cases d<;>rfl
theorem Cy{a b c d:Bool}{S:dr}:fY (.str "doors") (.tup (fW a b c d)) S=Z (.bl c,S):=by cases a<;>cases b<;>cases c<;>cases d<;>rfl
theorem zN{a b c d:Bool}{S:dr}:fY (.str "others") (.tup (fW a b c d)) S=Z (.bl d,S):=by cases a<;>cases b<;>cases c<;>cases d<;>rfl
theorem tL{S:dr}{n:Nat}{x:Nat}:∀cs:List Nat,Gw (lE S (n+1)) (.int x) (nmD cs)=Z (cs.contains x)
 |[]=>rfl
 |c::cs=>by
  have a:lE S (n+1) (.int c) (.int x)=Z ((c:Int) == (x:Int)):=rfl;have b:((c:Int) == (x:Int))=(x == c):=by
   rw[bT,beq_iff_eq,beq_iff_eq];lia
  have ih:=tL (S:=S) (n:=n) (x:=x) cs;rw[nmD,mP1,Gw,a,b];rw[nmD]at ih;rw[ih,List.contains_cons];rfl
theorem yr{S:dr}{x:Nat}{cs:List Nat}:fY (.int x) (.tup (nmD cs)) S=Z (.bl (cs.contains x),S):=by
 simp only[fY,w9,JS,dQ,oS1,fb,show(60:Nat)=59+1 from rfl,tL,oP1]
def ww(a b c d:Bool)(came chalk doors others:Int):D:=.tup [if a then .int came else .non,if b then .int chalk else .non,if c then .int doors else .non,if d then .int others else .non]
theorem rj{a b c d:Bool}{w x y z:Int}:(ww a b c d w x y z).und 0=M:=by cases a<;>cases b<;>cases c<;>cases d<;>rfl
theorem Cn{κ:Type}[DecidableEq κ]{k:κ}:dZ ([]:List (κ×D)) k=Y:=rfl
theorem fT{κ:Type}[DecidableEq κ]{k a:κ}{d:D}{r:List (κ×D)}:dZ ((a,d)::r) k=if a=k then Z d else dZ r k:=by
 unfold dZ;rw[bm];by_cases h:a=k
 ·simp[h]
 ·simp[h]
theorem vf{κ:Type}[DecidableEq κ]{k:κ}{b:List (κ×D)}:∀{a:List (κ×D)},dZ (a++b) k=(dZ a k).or (dZ b k)
 |[]=>rfl
 |(x,d)::a=>by
  rw[bt,fT,fT,vf (a:=a)];split<;>rfl
theorem rM{κ:Type}[DecidableEq κ]{k:κ}:∀{a:List (κ×D)},(a.any λp=>decide (p.1=k))=J->dZ a k=Y
 |[],_=>rfl
 |(x,d)::a,h=>by
  simp only[bn,Bool.or_eq_false_iff,decide_eq_false_iff_not]at h;rw[fT,aj h.1];exact rM h.2
theorem mL{κ:Type}[DecidableEq κ]{k k':κ}{v:D}:∀{a:List (κ×D)},(a.any λp=>decide (p.1=k))=M->dZ (a.map λp=>if p.1=k then(p.1,v)else p) k'=if k'=k then Z v else dZ a k'
 |[],h=>by simp at h
 |(x,d)::a,h=>by
  rw[mP1];by_cases f:x=k
  ·subst f;rw[ak (show(x,d).1=x from rfl)];rw[fT,fT];by_cases b:k'=x
   ·subst b;simp
   ·rw[aj (Ne.symm b),aj (Ne.symm b),aj b];by_cases g:(a.any λp=>decide (p.1=x))=M
    ·rw[mL g,aj b]
    ·have:(a.map fun p=>if p.1=x then (p.1,v) else p)=a:=by
      have c:(a.any λp=>decide (p.1=x))=J:=Bool.eq_false_iff.mpr g;rw[List.any_eq_false]at c
      conv=>rhs;rw[<- cH a]
      apply cD;intro p i;have:=c p i;simp at this;simp[this]
     rw[this]
  ·simp only[bn,ai f,Bool.false_or]at h;rw[aj (show¬ (x,d).1=k from f)];rw[fT,fT,mL h];by_cases e:x=k'
   ·subst e;simp[f]
   ·simp[e]
theorem ve{κ:Type}[DecidableEq κ]{k k':κ}{v:D}{a:List (κ×D)}:dZ (eX a k v) k'=if k'=k then Z v else dZ a k':=by
 unfold eX;split
 ·rename_i h;exact mL h
 ·rename_i h;have h':(a.any λp=>decide (p.1=k))=J:=Bool.eq_false_iff.mpr h;rw[vf,fT,Cn];by_cases b:k'=k
  ·subst b;rw[rM h',ak O];rfl
  ·rw[aj (Ne.symm b),aj b];cases dZ a k'<;>rfl
theorem put_len{κ:Type}[DecidableEq κ]{k:κ}{v:D}{a:List (κ×D)}:(eX a k v).length<=a.length+1:=by
 unfold eX;split
 ·rw[lM1];lia
 ·rw[lA1];simp
theorem Bm{κ:Type}[DecidableEq κ]{k:κ}{v:D}{a:List (κ×D)}:eX a k v≠[]:=by
 unfold eX;split
 ·rename_i h;intro z;cases a with
  |nil=>simp at h
  |cons x xs=>simp at z
 ·simp
def dO(F:List (TK×D)):Ob:=if F=[]then .dct []else .dcT F
theorem JC{U:dr}{n:Nat}{F:List (TK×D)}{a v:D}{k:TK}{Q:D×dr->Prop}(h:U[n]?=Z (dO F))(hk:keyT a=Z k)(c:F.length<1000)(q:Q (.non,U.set n (dO (eX F k v)))):W (gJ (.ref n) a v U) Q:=by
 refine W.of ?_ q;unfold dO at h ⊢;rw[aj Bm];by_cases b:F=[]
 ·subst b;rw[ak O]at h;simp only[gJ,h,hk];rfl
 ·rw[aj b]at h;simp only[gJ,h,hk,oS1];rw[ak (nL1 c (by decide))]
theorem JE{U:dr}{n:Nat}{F:List (TK×D)}{a v:D}{k:TK}{Q:D×dr->Prop}(h:U[n]?=Z (dO F))(hk:keyT a=Z k)(hv:dZ F k=Z v)(q:Q (v,U)):W (dz (.ref n) a U) Q:=by
 refine W.of ?_ q;unfold dO at h;by_cases b:F=[]
 ·subst b;cases hv
 ·rw[aj b]at h;simp only[dz,h,hk,oS1,hv,oP1]
def uw(e:Nat×Nat):TK:=.tup [.int e.1,.int e.2]
theorem xO{a b:Nat×Nat}(h:uw a=uw b):a=b:=by
 obtain⟨a1,a2⟩:=a;obtain⟨b1,b2⟩:=b;simp[uw]at h
 ext<;>simp<;>lia
theorem ym{e:Nat×Nat}:keyT (pD e)=Z (uw e):=rfl
theorem JD{U:dr}{n i:Nat}{xs:List D}{x:D}{Q:D×dr->Prop}(h:U[n]?=Z (.lst xs))(hx:xs[i]?=Z x)(hb:i<1000)(q:Q (x,U.set n (.lst (xs.eraseIdx i)))):W (CK (.ref n) (.int i) U) Q:=by
 have a:=(gE1.mp hx).1;refine W.of ?_ q;simp only[CK,h];rw[ak ⟨by lia,by lia⟩];simp only[wX,ak (show(0:Int)<=i by lia)];rw[ak (by lia)];simp[hx]
theorem pJ{d:D}{S G:dr}(hd:d.und 0=M)(a:S.all (Ob.und S.length)=M):gc S.length (d,S++G)=(d,S):=by
 unfold gc;dsimp only;rw[cI,ak (by rw[e6 hd,a];rfl)]
theorem w4{d:D}{S V:dr}(hd:d.und 0=M)(a:S.all (Ob.und S.length)=M)(hp:S <+: V):gc S.length (d,V)=(d,S):=by
 obtain⟨G,rfl⟩:=hp;exact pJ hd a
theorem Dn{m:FA}{r:Ev}{S:dr}{xs ys:List D}{n:Nat}{Q:Aq×dr->Prop}(hm:m r S=Z ([.tup xs,.ref n],S))(hn:S[n]?=Z (.lst ys))(q:Q (⟨um xs ys,[(n,ys)]⟩,S)):W (CB m r S) Q:=by
 refine W.of (x:=(⟨um xs ys,[(n,ys)]⟩,S)) ?_ q;simp only[CB,hm,oS1,xR,fQ hn,yJ,yK hn,bi]
theorem v8{α:Type}{f g:α->D}:∀l:List α,um (l.map f) (l.map g)=l.map λx=>D.tup [f x,g x]
 |[]=>rfl
 |a::l=>by rw[mP1,mP1,um,v8 l];rfl
theorem Dq{m:FA}{r:Ev}{S:dr}{xs:List D}{Q:Aq×dr->Prop}(hm:m r S=Z ([.tup xs],S))(q:Q (⟨zX 0 xs,[]⟩,S)):W (Au m r S) Q:=by
 refine W.of (x:=(⟨zX 0 xs,[]⟩,S)) ?_ q;simp only[Au,hm,oS1,xR,yJ]
theorem tT{α:Type}{f:α->D}:∀(l:List α) (k:Nat),zX k (l.map f)=(l.zipIdx k).map λp=>D.tup [.int (p.2:Nat),f p.1]
 |[],_=>rfl
 |a::l,k=>by rw[mP1,zX,tT l (k+1),bN];rfl
theorem kw{α:Type}{l:List α}{p:α×Nat}(h:p∈l.zipIdx):l[p.2]?=Z p.1:=by
 have:=List.mem_zipIdx_iff_getElem?.mp h;exact this
theorem lu{α β:Type}(f:α->β)(l:List α):(l.zipIdx.map λp=>f p.1)=l.map f:=by
 have:(λp:α×Nat=>f p.1)=f∘Prod.fst:=rfl;rw[this,<- bD,List.zipIdx_map_fst]
mutual
theorem wy{n:Nat}:∀{d:D},d.und 0=M->d.sh n=d
 | .non,_=>rfl
 | .bl _,_=>rfl
 | .int _,_=>rfl
 | .str _,_=>rfl
 | .tup xs,h=>by rw[D.und]at h;rw[D.sh,i5 h]
 | .rol xs,h=>by rw[D.und]at h;rw[D.sh,i5 h]
 | .fn _,_=>rfl
 | .ref k,h=>by simp[D.und]at h
theorem i5{n:Nat}:∀{ds:List D},D.unds 0 ds=M->D.shs n ds=ds
 |[],_=>rfl
 |d::ds,h=>by
  rw[D.unds,bA1]at h;rw[D.shs,wy h.1,i5 h.2]
end
theorem GA{n:Nat}{f:FN}{ds:List D}{S:dr}{Q:D×dr->Prop}(hn:ds.length=n)(b:D.unds 0 ds=M)(h:W (f ds []) λp=>∃xs,p=(.ref 0,[.lst xs])/\D.unds 0 xs=M/\Q (.ref S.length,S++[.lst xs])):W (dv n f ds S) Q:=by
 obtain⟨p,e,xs,rfl,c,q⟩:=h;refine⟨_,kh e hn b O,?_⟩;have a:(D.ref 0).sh S.length = .ref S.length:=rfl;have d:[Ob.lst xs].map (Ob.sh S.length)=[Ob.lst xs]:=by rw[mP1,bj,Ob.sh,i5 c]
 rw[a,d];exact q
theorem IA{ns:List Int}{k:Int}:k∈ddI ns↔k∈ns:=by
 have b:∀(ns a:List Int),k∈ns.foldl step_dedup a↔k∈a\/k∈ns:=by
  intro ns
  induction ns with
  |nil=>intro a;simp
  |cons n ns ih=>
   intro a;rw[bg,ih];have:k∈step_dedup a n↔k∈a\/k=n:=by
    unfold step_dedup;split
    ·rename_i h;obtain⟨x,c,e⟩:=bU.mp h;have e:=beq_iff_eq.mp e;subst e;constructor
     ·exact .inl
     ·rintro(z|z)
      ·exact z
      ·rw[z];exact c
    ·simp
   rw[this,aE,or_assoc]
 unfold ddI;rw[b];simp
theorem DP{xs:List Nat}{m:Nat}{f:Nat->Bool}(h:∀r,r∈xs↔r<m/\f r=M):i4 (ddI (xs.map λ(r:Nat)=>(r:Int)))=((af m).filter f).map λ(r:Nat)=>(r:Int):=by
 refine og ?_ (lO _) ?_
 ·refine(fI _).trans ?_;refine(List.perm_ext_iff_of_nodup (vI _ [] bA) ?_).mpr λk=>?_
  ·refine cJ.mpr ((List.nodup_range.filter f).imp λb z=>b (by lia))
  ·show k∈ddI _↔_;rw[IA,ci,ci];constructor
   ·rintro⟨r,a,rfl⟩;exact⟨r,aA.mpr ⟨aB.mpr ((h r).mp a).1,((h r).mp a).2⟩,O⟩
   ·rintro⟨r,a,rfl⟩;obtain⟨h1,h2⟩:=aA.mp a;exact⟨r,(h r).mpr ⟨aB.mp h1,h2⟩,O⟩
 ·refine cJ.mpr ((List.pairwise_lt_range.sublist List.filter_sublist).imp λc=>by lia)
theorem Ff(xs:List Nat):mP (nmD xs)=Z (xs.map λ(r:Nat)=>(r:Int)):=by
 induction xs with
 |nil=>rfl
 |cons x xs ih=>
  show(mP (nmD xs)).map _=_;rw[ih];rfl
theorem An{S:dr}{n:Nat}{xs:List Nat}{m:Nat}{f:Nat->Bool}{Q:D×dr->Prop}(hn:S[n]?=Z (.lst (nmD xs)))(h:∀r,r∈xs↔r<m/\f r=M)(a:xs.length<64)(q:Q (.ref S.length,S++[.lst (nmD ((af m).filter f))])):W (kb (.ref n) S) Q:=by
 refine W.of (x:=(.ref S.length,S++[.lst (nmD ((af m).filter f))])) ?_ q;simp only[kb,fQ hn,Ff,oS1];rw[ak (by rw[lM1];exact a),DP h,bD];rfl
end Mi
end
local macro_rules | `(tactic| walk_at"w") => `(tactic| simp only[Mi.dA,Mi.lJ,Mi.ite_and',Mi.dw,Mi.lr,Mi.vV,Mi.dG,Mi.dH,Mi.fg,Mi.ee,Mi.fj,Mi.kJ,Mi.mN,Mi.dn,Mi.dq,Mi.m2,Mi.m1,Mi.mV,Mi.mC,Mi.qr,Mi.uc,Mi.mB,Mi.mK,Mi.wT,Mi.iA,Mi.gx,Mi.pz,Mi.vb,Mi.d9,Mi.mTr,Mi.mx,Mi.gN,Mi.gT,Mi.eT,Mi.i8,Mi.gS,Mi.b1,Mi.b2,Mi.b3,Mi.fH,Mi.fc,Mi.nL,Mi.LR,Mi.Bi,Mi.L8,Mi.fC,Mi.jv,Mi.JF,Mi.JG,Mi.gSub,Mi.gU,Mi.ma,Mi.Ft,Mi.Fn,Mi.Fp,Mi.yz,Mi.NP,Mi.NO,Mi.Nd,Mi.Nc,Mi.OB,Mi.OA,Mi.Oz,Mi.Oy,true_and,bf,lA1,cK,gC1,List.set_cons_zero,List.set_cons_succ,lC1,bo,mP1,bj,Mi.Op,Mi.NC,Mi.Of,Mi.Od,Mi.Oc,Mi.Oa,Mi.N9,Mi.N8,Mi.N7,Mi.MM,Mi.ML,bi,bt,aN,Nat.reduceAdd,Nat.reduceSub,Option.join_some,oP1,oS1,if_true,if_false,bF1,b6,Bool.not_false,Mi.OD,Mi.OC,Mi.gY,Mi.iW,Mi.qs,Mi.LP])
noncomputable section
namespace Law
local macro_rules | `(tactic| wp_walk using $e,*) => `(tactic| ((try walk_at"w");repeat(simp only[$[$e:term],*];try walk_at"w")))
open PySem PySem.Spec PyProof.Rows L2 Mi
def ja (i:Nat):di:=PySem.Challenge.pw_ringmeet_k69_rounds_looked_at.main.body.getD i (.Pass ⟨0,0,0,0⟩)
abbrev BL:List Str:=["all","any","bool","dict","enumerate","int","isinstance","len","list","max","min","range","set","sorted","str","sum","tuple","zip"]
def ow:D:=(D.tup [(D.tup [(D.str "came"),(D.int 5)]),(D.tup [(D.str "chalk"),(D.int 2)]),(D.tup [(D.str "doors"),(D.int 5)]),(D.tup [(D.str "others"),(D.int 2)])])
section
variable{P:c5}{w:c7}{K:Fg1}{mg:Str->Option cZ}{base h:df}(X:K.In h) (G:h.Ns c8 mg) (B:Blt BL mg)
include X G B
abbrev oN:di:=ja 1
def qg:FS:=(ee (gx (gy .int (mV 0)) (pz (gy .bool (mV 0)))))
def iM:FN:=gH 1 qg
theorem uP {f:c4}(F:dY K "is_whole" oN f):
  Own P w K mg base 1 "is_whole" 1 iM:=xq ["thing"] X G F λa=>
 (qG (qU (gX (ii xv) (i0 (nZ (ii xv))))))
abbrev nb:di:=ja 3
def nD:FS:=(ee (mN (b1 lD) (dn (d5 1 [0] (nS (dn (m2 (b2 gSub) (mN (b1 eA) (dn (mV 0) dq)) (mC (D.int 1))) dq)) (gN 0) d9 (dU (m2 (b2 w8) (m2 (b2 dz) (mV 1) (mV 0)) (m2 (b2 dz) (mV 1) (m2 (b2 eD) (mV 0) (mC (D.int 1))))))) dq)))
def h9:FN:=gH 1 nD
theorem s9 {f:c4}(F:dY K "is_rising" nb f):
  Own P w K mg base 1 "is_rising" 1 h9:=xq ["things"] X G F λa=>
 (qG (qU (cn (qa O) (a1 (fk ["at"] (ir (a1 (qI nr (cn eS (a1 xv)) qK))) ⟨gq,d6,(ce (oq lg) (jq xv xv) (jq xv (qI ek xv qK)))⟩)))))
abbrev oP:di:=ja 7
def lV:FT:=(mB (m2 (b2 w8) (mV 2) (mV 3)))
def lU:FS:=(dG (dH (m2 (b2 vq) (m2 (b2 eD) (mV 2) (mV 3)) (mC (D.int 2))) (gN 4))
  (fg (mB (m2 (b2 w8) (m2 (b2 dz) (m2 (b2 dz) (m2 (b2 dz) (mV 0) (mV 4)) (mC (D.int 0))) (mC (D.int 0))) (mV 1))) (dH (m2 (b2 eD) (mV 4) (mC (D.int 1))) (gN 2)) (dH (mV 4) (gN 3))))
def qi:FS:=(dG (dH (mC (D.int 0)) (gN 2))
  (dG (dH (mN (b1 eA) (dn (mV 0) dq)) (gN 3))
  (dG (ui lV lU 100000)
  (ee (mV 2)))))
def iO:FN:=gH 5 qi
theorem uR {f:c4}(F:dY K "first_of" oP f):
  Own P w K mg base 1 "first_of" 2 iO:=xq ["rows","mood","low","high","middle"] X G F λa=>
 (qF (sq qK) (qF (sq (cn eS (a1 xv))) (qF (ms 100000 PassesOwn.never (ct (oq lg) xv xv) (qF (sq (qI Gr (qI ek xv xv) qK)) (qG (qV (ct (oq lg) (jq (jq (jq xv xv) qK) qK) xv) (qG (sq (qI ek xv qK))) (qG (sq xv)))))) (qG (qU xv)))))
abbrev xW:di:=ja 9
def yR:FS:=(dG (dH (mV 0) (gT 2 (eT (gN 1) (eT (gN 2) i8))))
  (ee (d7 (dn (mN (b1 gTup) (dn (d5 1 [] (eZ (mV 1)) (gN 0) d9 (dU (d7 (dn (mV 0) (dn (mC (D.int 0)) (dn (mC (D.int 0)) dq)))))) dq)) (dn (mV 2) dq)))))
def l0:FN:=gH 3 yR
theorem BP {f:c4}(F:dY K "begun" xW f):
  Own P w K mg base 1 "begun" 1 l0:=xq ["standing","rooms","chalk"] X G F λa=>
 (qF (qR xv (tg2 gq gq)) (qG (qU (dF (a2 (cz eK (a1 (fk ["room"] (qd xv) ⟨gq,d6,(dF (a3 xv qK qK))⟩))) xv)))))
abbrev oM:di:=ja 10
def qf:FS:=(dG (dH (mV 2) (gT 2 (eT (gN 4) (eT (gN 5) i8))))
  (dG (dH (m2 (b2 dz) (mV 4) (mV 3)) (gT 3 (eT (gN 6) (eT (gN 7) (eT (gN 8) i8)))))
  (dG (dH (d5 1 [6] (eZ (mV 4)) (gN 0) (mB (m2 (b2 gEq) (m2 (b2 dz) (mV 0) (mC (D.int 0))) (mV 1))) (dU (mV 0))) (gN 9))
  (dG (dH (pB [((mC (D.str "came")),(mV 7)),((mC (D.str "chalk")),(vb (mB (m2 (b2 fY) (mV 6) (mV 5))) (mC (D.int 1)) (mC (D.int 0)))),((mC (D.str "doors")),(mN (b1 eA) (dn (m2 (b2 dz) (mV 0) (mV 6)) dq))),((mC (D.str "others")),(vb (mB (m2 (b2 (gU λi j=>decide (j<i))) (mN (b1 eA) (dn (mV 9) dq)) (mC (D.int 1)))) (mC (D.int 1)) (mC (D.int 0))))]) (gN 10))
  (ee (mN (b1 gTup) (dn (d5 2 [1,10] (eZ (mC ow)) (gT 2 (eT (gN 0) (eT (gN 1) i8))) d9 (dU (vb (mB (m2 (b2 fY) (mV 0) (mV 2))) (m2 (b2 dz) (mV 3) (mV 0)) (mC D.non)))) dq)))))))
def iL:FN:=gH 11 qf
theorem uO {f:c4}(F:dY K "sight_of" oM f)(a:CGl K mg "PARTS" ow):
  Own P w K mg base 1 "sight_of" 4 iL:=xq ["web","eyes","whole","k","walkers","chalk","room","came","mood","here","parts"] X G F λb=>
 (qF (qR xv (tg2 gq gq)) (qF (qR (jq xv xv) (gW O (dP gq (dP gq (dP gq fZ))))) (qF (gK 9 O (T:=["other"]) (keep:=[6]) ⟨O,by decide+kernel,(kc "room" (cy _))⟩ O (qd xv) (λ_ _ _=>⟨gq,(hH (ct (oq jn) (jq xv qK) xv)),xv⟩) (gI O) O (by first|exact Or.inl rfl|exact Or.inr rfl)) (qF (sq (uq (hE dV xv (hE dV (lz (ct (oq j4) xv xv (by with_unfolding_all rfl)) qK qK) (hE dV (cn eS (a1 (jq xv xv))) (hE dV (lz (ct BV (cn eS (a1 xv)) qK) qK qK) xG)))))) (qG (qU (cz eK (a1 (fk ["eye","many"] (qd (AD a rfl)) ⟨(tg2 gq gq),d6,(lz (ct (oq j4) xv xv (by with_unfolding_all rfl)) (jq xv xv) gB)⟩)))))))))
abbrev ro:di:=ja 13
def sB:FS:=(dG (dH (mV 0) (gT 2 (eT (gN 2) (eT (gN 3) i8))))
  (dG (dH (d5 2 [] (CB (dn (mV 2) (dn (mV 1) dq))) (gT 2 (eT (gN 0) (eT (gN 1) i8))) (mB (m2 (b2 gEq) (m2 (b2 dz) (mV 1) (mC (D.int 1))) (mC (D.str "mark")))) (dU (m2 (b2 dz) (mV 0) (mC (D.int 0))))) (gN 4))
  (dG (dH (d5 2 [] (CB (dn (mV 2) (dn (mV 1) dq))) (gT 2 (eT (gN 0) (eT (gN 1) i8))) (mB (m2 (b2 gEq) (m2 (b2 dz) (mV 1) (mC (D.int 1))) (mC (D.str "wipe")))) (dU (m2 (b2 dz) (mV 0) (mC (D.int 0))))) (gN 5))
  (dG (dH (d5 1 [5] (eZ (mV 3)) (gN 0) (mB (m2 (b2 gZ) (mV 0) (mV 1))) (dU (mV 0))) (gN 6))
  (ee (mN (b1 gTup) (dn (mN (b1 kb) (dn (m2 (b2 eD) (mV 6) (mV 4)) dq)) dq)))))))
def jr:FN:=gH 7 sB
theorem wK {f:c4}(F:dY K "handled" ro f):
  Own P w K mg base 1 "handled" 2 jr:=xq ["whole","deeds","walkers","chalk","marked","wiped","left"] X G F λa=>
 (qF (qR xv (tg2 gq gq)) (qF (gK 4 O (T:=["walker","deed"]) (keep:=[]) ⟨O,by decide+kernel,(cy _)⟩ O (nY O (bz B) (a2 xv xv)) (λ_ _ _=>⟨(tg2 gq gq),(hH (ct (oq jn) (jq xv qK) dV)),(jq xv qK)⟩) (gI O) O (by first|exact Or.inl rfl|exact Or.inr rfl)) (qF (sq (fk ["walker","deed"] (nY rfl (bz B) (a2 xv xv)) ⟨(tg2 gq gq),(hH (ct (oq jn) (jq xv qK) dV)),(jq xv qK)⟩)) (qF (gK 6 rfl (T:=["room"]) (keep:=[5]) ⟨rfl,by decide+kernel,(kc "wiped" (cy _))⟩ rfl (qd xv) (λ_ _ _=>⟨gq,(hH (ct (oq uZ) xv xv (by with_unfolding_all rfl))),xv⟩) (gI O) O (by first|exact Or.inl rfl|exact Or.inr rfl)) (qG (qU (cz eK (a1 (y0 rfl rfl (bz B) rfl (bz B) (qI ek xv xv))))))))))
abbrev rn:di:=ja 14
def sA:FS:=(dG (dH (mV 1) (gT 3 (eT (gN 3) (eT (gN 4) (eT (gN 5) i8)))))
  (dG (dH (mV 2) (gT 3 (eT (gN 6) (eT (gN 7) (eT (gN 8) i8)))))
  (dG (fg (wT (mB (m2 (b2 Fq) (mV 8) (mC D.non))) (mB (m2 (b2 (gU λi j=>decide (j<=i))) (mV 8) (mN (b1 eA) (dn (m2 (b2 dz) (mV 0) (mV 3)) dq))))) (ee (d7 (dn (mV 3) (dn (mV 4) (dn (mV 6) dq))))) kJ)
  (dG (dH (m2 (b2 dz) (m2 (b2 dz) (mV 0) (mV 3)) (mV 8)) (gT 2 (eT (gN 9) (eT (gN 10) i8))))
  (ee (d7 (dn (mV 9) (dn (m2 (b2 eD) (mC (D.int 1)) (mV 10)) (dn (mV 6) dq)))))))))
def jp:FN:=gH 11 sA
theorem wJ {f:c4}(F:dY K "stepped" rn f):
  Own P w K mg base 1 "stepped" 3 jp:=xq ["web","walker","deed","room","came","past","mood","hand","step","there","back"] X G F λa=>
 (qF (qR xv (gW O (dP gq (dP gq (dP gq fZ))))) (qF (qR xv (gW O (dP gq (dP gq (dP gq fZ))))) (qF (qV (iZ (lv (ct KP xv gB) (jz (ct Ic xv (cn eS (a1 (jq xv xv))))))) (qG (qU (dF (a3 xv xv xv)))) qQ) (qF (qR (jq (jq xv xv) xv) (tg2 gq gq)) (qG (qU (dF (a3 xv (qI ek qK xv) xv))))))))
abbrev uE:di:=ja 15
def vQ:FS:=(dG (dH (m2 (b2 dz) (m2 (b2 dz) (m2 (b2 dz) (mV 0) (mC (D.int 0))) (mC (D.int 0))) (mC (D.int 0))) (gN 1))
  (ee (mN (b1 lD) (dn (d5 3 [1] (eZ (m2 (b2 dz) (mV 0) (mC (D.int 0)))) (gT 3 (eT (gN 0) (eT (gN 1) (eT (gN 2) i8)))) d9 (dU (m2 (b2 gEq) (mV 0) (mV 3)))) dq))))
def iN:FN:=gH 2 vQ
theorem zr {f:c4}(F:dY K "is_met" uE f):
  Own P w K mg base 1 "is_met" 1 iN:=xq ["whole","first"] X G F λa=>
 (qF (sq (jq (jq (jq xv qK) qK) qK)) (qG (qU (cn (qa O) (a1 (fk ["room","came","mood"] (qd (jq xv qK)) ⟨(gW O (dP gq (dP gq (dP gq fZ)))),d6,(ce (oq jn) xv xv)⟩))))))
abbrev oW:di:=ja 26
def lH:FS:=(dG (dH (mC (D.int 0)) (gN 2))
  (dG (fg (mB (m2 (b2 w8) (mV 1) (mN (b1 eA) (dn (mV 0) dq)))) (dH (m2 (b2 dz) (mV 0) (mV 1)) (gN 2)) kJ)
  (dG (dH (m2 (b2 kf) (m2 (b2 l9) (mV 2) (m2 (b2 kf) (m2 (b2 w5) (mC (D.int 10)) (mC (D.int 45))) (m2 (b2 w5) (mC (D.int 10)) (mC (D.int 45))))) (mN (b1 ma) (dn (m2 (b2 (gU λi j=>decide (j<=i))) (mV 2) (m2 (b2 w5) (mC (D.int 10)) (mC (D.int 18)))) dq))) (gN 3))
  (ee (eY (dn (mV 3) (dn (m2 (b2 l9) (m2 (b2 eD) (m2 (b2 eD) (m2 (b2 eD) (m2 (b2 l9) (mV 2) (mC (D.int 2305843009213693951))) (m2 (b2 kf) (m2 (b2 kf) (mC (D.int 9973)) (mV 1)) (mV 1))) (m2 (b2 kf) (mC (D.int 17)) (mV 1))) (mC (D.int 5))) (mC (D.int 2305843009213693951))) (dn (mC (D.int 0)) dq))))))))
def gk:FN:=gH 4 lH
theorem uY {f:c4}(F:dY K "_law_box" oW f):
  Own P w K mg base 1 "_law_box" 2 gk:=xq ["_law_script","_law_k","_law_cell","_law_own_here"] X G F λa=>
 (qF (sq qK) (qF (qV (ct (oq lg) xv (cn eS (a1 xv))) (qG (sq (jq xv xv))) qQ) (qF (sq (qI lf (qI nt xv (qI lf (qI BQ qK qK) (qI BQ qK qK))) (cz su (a1 (ce Ic xv (qI BQ qK qK)))))) (qG (qU (er (a3 xv (qI nt (qI ek (qI ek (qI ek (qI nt xv qK) (qI lf (qI lf qK xv) xv)) (qI lf qK xv)) qK) qK) qK)))))))
abbrev nj:di:=ja 27
def kk:FS:=(dG (fg (mB (m2 (b2 (gU fun i j=>decide (j<i))) (m2 (b2 dz) (mV 0) (mC (D.int 0))) (mC (D.int 0)))) (dG (dH (m2 (b2 l9) (m2 (b2 dz) (mV 0) (mC (D.int 0))) (mV 1)) (gN 2))
  (dG (dH (m2 (b2 pM) (m2 (b2 dz) (mV 0) (mC (D.int 0))) (mV 1)) (gS (b3 gJ) (mV 0) (mC (D.int 0))))
  (ee (mV 2)))) kJ)
  (dG (dH (m2 (b2 eD) (m2 (b2 dz) (mV 0) (mC (D.int 2))) (mC (D.int 1))) (gS (b3 gJ) (mV 0) (mC (D.int 2))))
  (dG (dH (m2 (b2 l9) (m2 (b2 eD) (m2 (b2 eD) (m2 (b2 kf) (m2 (b2 dz) (mV 0) (mC (D.int 1))) (mC (D.int 40009))) (m2 (b2 kf) (mC (D.int 7368787)) (m2 (b2 dz) (mV 0) (mC (D.int 2))))) (mC (D.int 12345))) (mC (D.int 2305843009213693951))) (gN 3))
  (dG (dH (m2 (b2 l9) (m2 (b2 eD) (m2 (b2 kf) (mV 3) (m2 (b2 eD) (m2 (b2 l9) (mV 3) (mC (D.int 65537))) (m2 (b2 kf) (mC (D.int 101)) (m2 (b2 dz) (mV 0) (mC (D.int 2)))))) (mC (D.int 9973))) (mC (D.int 2305843009213693921))) (gS (b3 gJ) (mV 0) (mC (D.int 1))))
  (ee (m2 (b2 l9) (m2 (b2 eD) (m2 (b2 pM) (m2 (b2 dz) (mV 0) (mC (D.int 1))) (mC (D.int 4099))) (m2 (b2 pM) (m2 (b2 dz) (mV 0) (mC (D.int 1))) (mC (D.int 2147483659)))) (mV 1)))))))
def dy:FN:=gH 4 kk
theorem tt {f:c4}(F:dY K "_law_draw" nj f):
  Own P w K mg base 1 "_law_draw" 2 dy:=xq ["_law_box_here","_law_many","_law_drawn","_law_once"] X G F λa=>
 (qF (qV (ct BV (jq xv qK) qK) (qF (sq (qI nt (jq xv qK) xv)) (qF (qR (qI wN (jq xv qK) xv) (kA xv qK (mE a.units))) (qG (qU xv)))) qQ) (qF (qR (qI ek (jq xv qK) qK) (kA xv qK (mE a.units))) (qF (sq (qI nt (qI ek (qI ek (qI lf (jq xv qK) qK) (qI lf qK (jq xv qK))) qK) qK)) (qF (qR (qI nt (qI ek (qI lf xv (qI ek (qI nt xv qK) (qI lf qK (jq xv qK)))) qK) qK) (kA xv qK (mE a.units))) (qG (qU (qI nt (qI ek (qI wN (jq xv qK) qK) (qI wN (jq xv qK) qK)) xv)))))))
abbrev ni:di:=ja 30
def nH:FS:=(dG (dH (m2 (b2 vq) (mN (b1 vp) (dn (d5 1 [] (eZ (mV 0)) (gN 0) d9 (dU (mN (b1 eA) (dn (mV 0) dq)))) dq)) (mC (D.int 2))) (gN 3))
  (dG (fj (uj (b2 kY) (m2 (b2 dz) (mV 0) (mV 1)) (dn (d7 (dn (mV 3) (dn (mC (D.int 0)) dq))) dq)))
  (fj (uj (b2 kY) (m2 (b2 dz) (mV 0) (mV 2)) (dn (d7 (dn (mV 3) (dn (mC (D.int 1)) dq))) dq)))))
def gu:FN:=gH 4 nH
theorem tq {f:c4}(F:dY K "_law_join" ni f):
  Own P w K mg base 1 "_law_join" 3 gu:=xq ["_law_ends","_law_one","_law_other","_law_number"] X G F λa=>
 (qF (sq (qI Gr (cn (Jr O) (a1 (fk ["_law_row"] (qd xv) ⟨gq,d6,(cn eS (a1 xv))⟩))) qK)) (qF (lq ap (jq xv xv) (a1 (dF (a2 xv qK)))) (qG (lq ap (jq xv xv) (a1 (dF (a2 xv qK)))))))
abbrev k8:di:=ja 32
def nO:FS:=(dH (m2 (b2 eD) (mV 5) (d5 1 [6] (eZ (mV 4)) (gN 0) d9 (dU (m2 (b2 eD) (mV 1) (d7 (dn (mV 0) dq)))))) (gN 5))
def nN:FS:=(dG (dH (vb (mB (m2 (b2 fY) (mV 2) (mV 0))) (wU (dn (m2 (b2 eD) (mV 3) (mC (D.int 1))) dq)) (eY (dn (mC D.non) dq))) (gN 4))
  (dG (dH (eY dq) (gN 5))
  (dG (fC (eZ (mV 1)) (gN 6) nO)
  (dH (mV 5) (gN 1)))))
def q7:FS:=(dG (dH (eY (dn (d7 dq) dq)) (gN 1))
  (dG (fC (eZ (d7 (dn (d7 (dn (mC (D.str "came")) (dn (mC (D.int 4)) dq))) (dn (d7 (dn (mC (D.str "chalk")) (dn (mC (D.int 1)) dq))) (dn (d7 (dn (mC (D.str "doors")) (dn (mC (D.int 4)) dq))) (dn (d7 (dn (mC (D.str "others")) (dn (mC (D.int 1)) dq))) dq)))))) (gT 2 (eT (gN 2) (eT (gN 3) i8))) nN)
  (ee (mV 1))))
def gb:FN:=gH 7 q7
theorem pu {f:c4}(F:dY K "_law_sights" k8 f):
  Own P w K mg base 1 "_law_sights" 1 gb:=xq ["_law_eyes","_law_found","_law_eye","_law_most","_law_parts","_law_longer","_law_one"] X G F λa=>
 (qF (sq (er (a1 (dF qN)))) (qF (fo (qd (dF (qA (dF (a2 dV qK)) (a3 (dF (a2 dV qK)) (dF (a2 dV qK)) (dF (a2 dV qK)))))) (tg2 gq gq) (qF (sq (lz (ct (oq j4) xv xv (by with_unfolding_all rfl)) (ly O O (bz B) O (bz B) (a1 (qI ek xv qK))) (er (a1 gB)))) (qF (sq (er qN)) (qF (fo (qd xv) gq (qG (sq (qI ek xv (fk ["_law_part"] (qd xv) ⟨gq,d6,(qI ek xv (dF (a1 xv)))⟩))))) (qG (sq xv)))))) (qG (qU xv))))
abbrev lR:di:=ja 37
def ml:FS:=(dG (dH (m2 (b2 dz) (m2 (b2 dz) (mV 2) (mC (D.int 0))) (mV 3)) (gT 3 (eT (gN 4) (eT (gN 5) (eT (gN 6) i8)))))
  (dG (dH (d5 2 [3,4] (Au (dn (m2 (b2 dz) (mV 2) (mC (D.int 0))) dq)) (gT 2 (eT (gN 0) (eT (gN 1) i8))) (mK (mB (m2 (b2 zQ) (mV 0) (mV 2))) (mB (m2 (b2 gEq) (m2 (b2 dz) (mV 1) (mC (D.int 0))) (mV 3)))) (dU (mV 1))) (gN 7))
  (dG (dH (pB [((mC (D.str "came")),(mV 5)),((mC (D.str "chalk")),(mN (b1 ma) (dn (m2 (b2 fY) (mV 4) (m2 (b2 dz) (mV 2) (mC (D.int 1)))) dq))),((mC (D.str "doors")),(mN (b1 eA) (dn (m2 (b2 dz) (mV 0) (mV 4)) dq))),((mC (D.str "others")),(mN (b1 ma) (dn (m2 (b2 zQ) (mV 7) (eY dq)) dq)))]) (gN 8))
  (ee (mN (b1 gTup) (dn (d5 1 [1,8] (eZ (d7 (dn (mC (D.str "came")) (dn (mC (D.str "chalk")) (dn (mC (D.str "doors")) (dn (mC (D.str "others")) dq)))))) (gN 0) d9 (dU (vb (mB (m2 (b2 fY) (mV 0) (mV 1))) (m2 (b2 dz) (mV 2) (mV 0)) (mC D.non)))) dq))))))
def gE:FN:=gH 9 ml
theorem qz {f:c4}(F:dY K "_law_sight" lR f):
  Own P w K mg base 1 "_law_sight" 4 gE:=xq ["_law_web_here","_law_eyes","_law_whole","_law_k","_law_room","_law_came","_law_mood","_law_others","_law_parts"] X G F λa=>
 (qF (qR (jq (jq xv qK) xv) (gW O (dP gq (dP gq (dP gq fZ))))) (qF (gK 7 O (T:=["_law_j","_law_walker"]) (keep:=[3,4]) ⟨O,by decide+kernel,(kc "_law_k" (kc "_law_room" (cy _)))⟩ O (ie (a1 (jq xv qK))) (λ_ _ _=>⟨(tg2 gq gq),(hH (iZ (ix (ct (oq BS) xv xv) (iG (ct (oq jn) (jq xv qK) xv))))),xv⟩) (gI O) O (by first|exact Or.inl rfl|exact Or.inr rfl)) (qF (sq (uq (hE dV xv (hE dV (cz su (a1 (ce (oq j4) xv (jq xv qK) (by with_unfolding_all rfl)))) (hE dV (cn eS (a1 (jq xv xv))) (hE dV (cz su (a1 (ce (oq BS) xv (er qN)))) xG)))))) (qG (qU (cz eK (a1 (fk ["_law_eye"] (qd (dF (qA dV (a3 dV dV dV)))) ⟨gq,d6,(lz (ct (oq j4) xv xv (by with_unfolding_all rfl)) (jq xv xv) gB)⟩))))))))
abbrev oS:di:=ja 38
def ql:FS:=(ee (d7 (dn (m2 (b2 dz) (mV 0) (mC (D.int 0))) (dn (mN (b1 pO) (dn (mN (b1 nT) (dn (m2 (b2 dz) (mV 0) (mC (D.int 1))) dq)) dq)) dq))))
def gi:FN:=gH 1 ql
theorem uU {f:c4}(F:dY K "_law_own" oS f):
  Own P w K mg base 1 "_law_own" 1 gi:=xq ["_law_machine_here"] X G F λa=>
 (qG (qU (dF (a2 (jq xv qK) (cz (FP a) (a1 (cz p9 (a1 (jq xv qK)))))))))
abbrev nk:di:=ja 39
def nI:FS:=(ee (wV (m2 (b2 dz) (mV 0) (mC (D.int 1))) (d7 (dn (mV 1) (dn (mV 2) dq))) (d7 (dn (mV 1) (dn (mC (D.str "leave")) (dn (mC D.non) dq))))))
def ic:FN:=gH 3 nI
theorem tu {f:c4}(F:dY K "_law_deed" nk f):
  Own P w K mg base 1 "_law_deed" 3 ic:=xq ["_law_own_here","_law_mood","_law_sight_here"] X G F λa=>
 (qG (qU (y1 a.units (jq xv qK) (dF (a2 xv xv)) (dF (a3 xv dV gB)))))
abbrev oU:di:=ja 41
def qo:FS:=(ee (m2 (b2 gEq) (mN (b1 pL) (dn (mN (b1 pN) (dn (d5 1 [] (eZ (m2 (b2 dz) (mV 0) (mC (D.int 0)))) (gN 0) d9 (dU (d7 (dn (m2 (b2 dz) (mV 0) (mC (D.int 0))) (dn (mC (D.bl M)) dq))))) dq)) dq)) (mC (D.int 1))))
def gj:FN:=gH 1 qo
theorem uW {f:c4}(F:dY K "_law_met" oU f):
  Own P w K mg base 1 "_law_met" 1 gj:=xq ["_law_whole"] X G F λa=>
 (qG (qU (ce (oq jn) (cn Jt (a1 (cz (FM a) (a1 (fk ["_law_walker"] (qd (jq xv qK)) ⟨gq,d6,(dF (a2 (jq xv qK) gf))⟩))))) qK)))
abbrev lS:di:=ja 42
def mn:FS:=(ee (d7 (dn (mN (b1 gTup) (dn (d5 1 [] (eZ (m2 (b2 dz) (mV 0) (mC (D.int 0)))) (gN 0) d9 (dU (d7 (dn (mV 0) (dn (mC (D.int 0)) (dn (mC (D.int 0)) dq)))))) dq)) (dn (m2 (b2 dz) (mV 0) (mC (D.int 1))) dq))))
def fy:FN:=gH 1 mn
theorem qB {f:c4}(F:dY K "_law_begun" lS f):
  Own P w K mg base 1 "_law_begun" 1 fy:=xq ["_law_standing_here"] X G F λa=>
 (qG (qU (dF (a2 (cz eK (a1 (fk ["_law_room"] (qd (jq xv qK)) ⟨gq,d6,(dF (a3 xv qK qK))⟩))) (jq xv qK)))))
abbrev ip:di:=ja 45
def iu:FS:=(ee (gx (gy .int (mV 0)) (gx (pz (gy .bool (mV 0))) (ER (b2 (gU λi j=>decide (i<=j))) (b2 (gU λi j=>decide (i<=j))) (mV 1) (mV 0) (mV 2)))))
def ew:FN:=gH 3 iu
theorem j3 {f:c4}(F:dY K "_law_whole_number" ip f):
  Own P w K mg base 1 "_law_whole_number" 3 ew:=xq ["_law_thing","_law_low","_law_high"] X G F λa=>
 (qG (qU (gX (ii xv) (gX (nZ (ii xv)) (i0 (rg Ib Ib xv xv xv))))))
abbrev oO:di:=ja 2
def qh:FS:=(ee (gx (mN (dv 1 iM) (dn (mV 0) dq)) (ER (b2 (gU λi j=>decide (i<=j))) (b2 w8) (mC (D.int 0)) (mV 0) (mV 1))))
def gQ:FN:=gH 2 qh
theorem uQ {f:c4}(F:dY K "is_below" oO f)(a:Own P w K mg base 1 "is_whole" 1 iM):
  Own P w K mg base 2 "is_below" 2 gQ:=xq ["thing","bound"] X G F λb=>
 (qG (qU (gX (wn a (a1 xv)) (i0 (rg Ib (oq lg) qK xv xv)))))
abbrev rp:di:=ja 6
def nq:FT:=(mK (mB (m2 (b2 w8) (mV 4) (mN (b1 eA) (dn (mV 3) dq)))) (mB (m2 (b2 gEq) (m2 (b2 dz) (m2 (b2 dz) (m2 (b2 dz) (mV 3) (mV 4)) (mC (D.int 0))) (mC (D.int 0))) (mV 1))))
def no:FS:=(dG (fg (mB (m2 (b2 gEq) (m2 (b2 dz) (m2 (b2 dz) (m2 (b2 dz) (mV 3) (mV 4)) (mC (D.int 0))) (mC (D.int 1))) (mV 2))) (ee (m2 (b2 dz) (m2 (b2 dz) (mV 3) (mV 4)) (mC (D.int 1)))) kJ)
  (ES 4 (b2 CN) (mC (D.int 1))))
def sC:FS:=(dG (dH (m2 (b2 dz) (mV 0) (mC (D.int 1))) (gN 3))
  (dG (dH (mN (dv 2 iO) (dn (mV 3) (dn (mV 1) dq))) (gN 4))
  (dG (ui nq no 100000)
  (ee (d7 (dn (mV 1) (dn (mC (D.str "leave")) (dn (mC D.non) dq))))))))
def js:FN:=gH 5 sC
theorem wL {f:c4}(F:dY K "deed_of" rp f)(a:Own P w K mg base 1 "first_of" 2 iO):
  Own P w K mg base 2 "deed_of" 3 js:=xq ["machine","mood","sight","rows","at"] X G F λb=>
 (qF (sq (jq xv qK)) (qF (sq (wn a (a2 xv xv))) (qF (ms 100000 PassesOwn.never (iZ (ix (ct (oq lg) xv (cn eS (a1 xv))) (iG (ct (oq jn) (jq (jq (jq xv xv) qK) qK) xv)))) (qF (qV (ct (oq jn) (jq (jq (jq xv xv) qK) qK) xv) (qG (qU (jq (jq xv xv) qK))) qQ) (qG (Dx 4 (gI O) O (by first|exact Or.inl rfl|exact Or.inr rfl) qK Fd)))) (qG (qU (dF (a3 xv dV gB)))))))
abbrev xU:di:=ja 11
def yP:FS:=(ee (d5 2 [0,1,2] (Au (dn (m2 (b2 dz) (mV 2) (mC (D.int 0))) dq)) (gT 2 (eT (gN 0) (eT (gN 1) i8))) d9 (dU (d7 (dn (m2 (b2 dz) (mV 1) (mC (D.int 2))) (dn (mN (dv 4 iL) (dn (mV 2) (dn (mV 3) (dn (mV 4) (dn (mV 0) dq))))) dq))))))
def lY:FN:=gH 3 yP
theorem BM {f:c4}(F:dY K "wants" xU f)(a:Own P w K mg base 1 "sight_of" 4 iL):
  Own P w K mg base 2 "wants" 3 lY:=xq ["web","eyes","whole"] X G F λb=>
 (qG (qU (fk ["k","walker"] (ie (a1 (jq xv qK))) ⟨(tg2 gq gq),d6,(dF (a2 (jq xv qK) (wn a (qA xv (a3 xv xv xv)))))⟩)))
abbrev xV:di:=ja 12
def yQ:FS:=(dG (dH (mV 1) (gT 2 (eT (gN 3) (eT (gN 4) i8))))
  (dG (dH (d5 2 [0] (CB (dn (mV 3) (dn (mV 2) dq))) (gT 2 (eT (gN 0) (eT (gN 1) i8))) d9 (dU (mN (dv 3 jp) (dn (mV 2) (dn (mV 0) (dn (mV 1) dq)))))) (gN 5))
  (ee (d7 (dn (mN (b1 gTup) (dn (mV 5) dq)) (dn (mN (dv 2 jr) (dn (mV 1) (dn (mV 2) dq))) dq))))))
def lZ:FN:=gH 6 yQ
theorem BO {f:c4}(F:dY K "moved" xV f)(a:Own P w K mg base 1 "handled" 2 jr)(b:Own P w K mg base 1 "stepped" 3 jp):
  Own P w K mg base 2 "moved" 3 lZ:=xq ["web","whole","deeds","walkers","chalk","behind"] X G F λc=>
 (qF (qR xv (tg2 gq gq)) (qF (gK 5 O (T:=["walker","deed"]) (keep:=[0]) ⟨O,by decide+kernel,(kc "web" (cy _))⟩ O (nY O (bz B) (a2 xv xv)) (λ_ _ _=>⟨(tg2 gq gq),d6,(wn b (a3 xv xv xv))⟩) (gI O) O (by first|exact Or.inl rfl|exact Or.inr rfl)) (qG (qU (dF (a2 (cz eK (a1 xv)) (wn a (a2 xv xv))))))))
abbrev rq:di:=ja 28
def mY:FS:=(ee (m2 (b2 dz) (mV 1) (mN (dv 2 dy) (dn (mV 0) (dn (mN (b1 eA) (dn (mV 1) dq)) dq)))))
def fr:FN:=gH 2 mY
theorem wM {f:c4}(F:dY K "_law_of" rq f)(a:Own P w K mg base 1 "_law_draw" 2 dy):
  Own P w K mg base 2 "_law_of" 2 fr:=xq ["_law_box_here","_law_some_here"] X G F λb=>
 (qG (qU (jq xv (wn a (a2 xv (cn eS (a1 xv)))))))
abbrev jO:di:=ja 29
def i7:FT:=(mB (m2 (b2 zQ) (mV 2) (eY dq)))
def i6:FS:=(fj (uj (b2 kY) (mV 3) (dn (uj (b2 CK) (mV 2) (dn (mN (dv 2 dy) (dn (mV 0) (dn (mN (b1 eA) (dn (mV 2) dq)) dq))) dq)) dq)))
def jT:FS:=(dG (dH (d7 (dn (mN (b1 nT) (dn (mV 1) dq)) (dn (eY dq) dq))) (gT 2 (eT (gN 2) (eT (gN 3) i8))))
  (dG (ui i7 i6 100000)
  (ee (mV 3))))
def ej:FN:=gH 4 jT
theorem mI {f:c4}(F:dY K "_law_shuffled" jO f)(a:Own P w K mg base 1 "_law_draw" 2 dy):
  Own P w K mg base 2 "_law_shuffled" 2 ej:=xq ["_law_box_here","_law_some_here","_law_left","_law_found"] X G F λb=>
 (qF (kx 2 3 O (gI O) O O (by decide) O O (a2 (cz p9 (a1 xv)) (er qN))) (qF (ms 100000 PassesOwn.never (ct (oq BS) xv (er qN)) (qG (lq ap xv (a1 (qe PySem.F.slot_list_pop PySem.F.type_list_pop J4 xv (a1 (wn a (a2 xv (cn eS (a1 xv)))))))))) (qG (qU xv))))
abbrev k9:di:=ja 36
def lp:FS:=(dG (dH (m2 (b2 eD) (mC (D.int 1)) (mN (dv 2 dy) (dn (mV 0) (dn (m2 (b2 gSub) (m2 (b2 CJ) (mC (D.int 1)) (mV 1)) (mC (D.int 1))) dq)))) (gN 2))
  (ee (mN (b1 gTup) (dn (d5 1 [2] (nS (dn (mV 1) dq)) (gN 0) (mB (m2 (b2 gEq) (m2 (b2 yA) (m2 (b2 CI) (mV 1) (mV 0)) (mC (D.int 1))) (mC (D.int 1)))) (dU (mV 0))) dq))))
def eH:FN:=gH 3 lp
theorem pv {f:c4}(F:dY K "_law_choice" k9 f)(a:Own P w K mg base 1 "_law_draw" 2 dy):
  Own P w K mg base 2 "_law_choice" 2 eH:=xq ["_law_box_here","_law_many","_law_bits"] X G F λb=>
 (qF (sq (qI ek qK (wn a (a2 xv (qI nr (qI KO qK xv) qK))))) (qG (qU (cz eK (a1 (fk ["_law_k"] (ir (a1 xv)) ⟨gq,(hH (ct (oq jn) (qI Ie (qI KN xv xv) qK) qK)),xv⟩))))))
abbrev nl:di:=ja 40
def jd:FS:=(dG (dH (m2 (b2 dz) (m2 (b2 dz) (mV 2) (mC (D.int 0))) (mV 7)) (gT 3 (eT (gN 8) (eT (gN 9) (eT (gN 10) i8)))))
  (dG (dH (mN (dv 3 ic) (dn (mV 1) (dn (mV 10) (dn (mN (dv 4 gE) (dn (mV 0) (dn (m2 (b2 dz) (mV 1) (mC (D.int 0))) (dn (mV 2) (dn (mV 7) dq))))) dq)))) (gT 3 (eT (gN 11) (eT (gN 12) (eT (gN 13) i8)))))
  (dG (fg (mB (m2 (b2 gEq) (mV 12) (mC (D.str "mark")))) (fj (uj (b2 kY) (mV 5) (dn (mV 8) dq))) kJ)
  (dG (fg (mB (m2 (b2 gEq) (mV 12) (mC (D.str "wipe")))) (fj (uj (b2 kY) (mV 6) (dn (mV 8) dq))) kJ)
  (dG (fg (mK (mB (m2 (b2 om) (mV 13) (mC D.non))) (mB (m2 (b2 w8) (mV 13) (mN (b1 eA) (dn (m2 (b2 dz) (mV 0) (mV 8)) dq))))) (dH (d7 (dn (m2 (b2 dz) (m2 (b2 dz) (m2 (b2 dz) (mV 0) (mV 8)) (mV 13)) (mC (D.int 0))) (dn (m2 (b2 eD) (mC (D.int 1)) (m2 (b2 dz) (m2 (b2 dz) (m2 (b2 dz) (mV 0) (mV 8)) (mV 13)) (mC (D.int 1)))) dq))) (gT 2 (eT (gN 8) (eT (gN 9) i8)))) kJ)
  (dH (d7 (dn (mV 8) (dn (mV 9) (dn (mV 11) dq)))) (gS (b3 gJ) (mV 4) (mV 7))))))))
def nJ:FS:=(dG (dH (d7 (dn (mN (b1 nT) (dn (m2 (b2 dz) (mV 2) (mC (D.int 0))) dq)) (dn (eY dq) (dn (eY dq) dq)))) (gT 3 (eT (gN 4) (eT (gN 5) (eT (gN 6) i8)))))
  (dG (fC (eZ (mV 3)) (gN 7) jd)
  (dG (dH (d5 1 [5,2,6] (nS (dn (mN (b1 eA) (dn (mV 0) dq)) dq)) (gN 0) (wT (mB (m2 (b2 fY) (mV 0) (mV 1))) (mK (mB (m2 (b2 fY) (mV 0) (m2 (b2 dz) (mV 2) (mC (D.int 1))))) (mB (m2 (b2 gZ) (mV 0) (mV 3))))) (dU (mV 0))) (gN 14))
  (ee (d7 (dn (mN (b1 gTup) (dn (mV 4) dq)) (dn (mN (b1 gTup) (dn (mV 14) dq)) dq)))))))
def fM:FN:=gH 15 nJ
theorem tz {f:c4}(F:dY K "_law_beat" nl f)(c:Own P w K mg base 1 "_law_deed" 3 ic)(a:Own P w K mg base 1 "_law_sight" 4 gE):
  Own P w K mg base 2 "_law_beat" 4 fM:=xq ["_law_web_here","_law_own_here","_law_whole","_law_choice_here","_law_walkers","_law_marked","_law_wiped","_law_k","_law_room","_law_came","_law_mood","_law_later","_law_hand","_law_step","_law_chalk"] X G F λb=>
 (qF (qR (dF (a3 (cz p9 (a1 (jq xv qK))) (er qN) (er qN))) (gW O (dP gq (dP gq (dP gq fZ))))) (qF (fo (qd xv) gq (qF (qR (jq (jq xv qK) xv) (gW O (dP gq (dP gq (dP gq fZ))))) (qF (qR (wn c (a3 xv xv (wn a (qA xv (a3 (jq xv qK) xv xv))))) (gW O (dP gq (dP gq (dP gq fZ))))) (qF (qV (ct (oq jn) xv dV) (qG (lq ap xv (a1 xv))) qQ) (qF (qV (ct (oq jn) xv dV) (qG (lq ap xv (a1 xv))) qQ) (qF (qV (iZ (ix (ct BU xv gB) (iG (ct (oq lg) xv (cn eS (a1 (jq xv xv))))))) (qG (kx 8 9 O (gI O) O O (by decide) O O (a2 (jq (jq (jq xv xv) xv) qK) (qI ek qK (jq (jq (jq xv xv) xv) qK))))) qQ) (qG (qR (dF (a3 xv xv xv)) (kA xv xv (mE b.units)))))))))) (qF (gK 14 O (T:=["_law_room"]) (keep:=[5,2,6]) ⟨O,by decide+kernel,(kc "_law_marked" (kc "_law_whole" (kc "_law_wiped" (cy _))))⟩ O (ir (a1 (cn eS (a1 xv)))) (λ_ _ _=>⟨gq,(hH (iZ (lv (ct (oq j4) xv xv (by with_unfolding_all rfl)) (jz (iZ (ix (ct (oq j4) xv (jq xv qK) (by with_unfolding_all rfl)) (iG (ct (oq uZ) xv xv (by with_unfolding_all rfl))))))))),xv⟩) (gI O) O (by first|exact Or.inl rfl|exact Or.inr rfl)) (qG (qU (dF (a2 (cz eK (a1 xv)) (cz eK (a1 xv)))))))))
abbrev iI:di:=ja 46
def fJ:FS:=(dG (fg (wT (iA (mTr (gy .tuple (mV 2)))) (mB (m2 (b2 gEq) (mV 2) (d7 dq)))) (ee (mC (D.bl false))) kJ)
  (dG (fg (iA (mTr (mN (b1 lD) (dn (d5 1 [0] (eZ (mV 2)) (gN 0) d9 (dU (mN (dv 3 ew) (dn (mV 0) (dn (mC (D.int 0)) (dn (m2 (b2 gSub) (mV 1) (mC (D.int 1))) dq)))))) dq)))) (ee (mC (D.bl J))) kJ)
  (fg (mTr (mN (b1 nU) (dn (d5 2 [] (CB (dn (mV 2) (dn (ig (mV 2) (eV (mC (D.int 1))) fu) dq))) (gT 2 (eT (gN 0) (eT (gN 1) i8))) d9 (dU (m2 (b2 (gU λi j=>decide (j<=i))) (mV 0) (mV 1)))) dq))) (ee (mC (D.bl J))) kJ)))
def iU:FS:=(dG (fg (iA (mTr (gy .tuple (mV 1)))) (ee (mC (D.bl false))) kJ)
  (dG (fC (eZ (mV 1)) (gN 2) fJ)
  (ee (mC (D.bl M)))))
def eF:FN:=gH 3 iU
theorem kU {f:c4}(F:dY K "_law_are_choices" iI f)(a:Own P w K mg base 1 "_law_whole_number" 3 ew):
  Own P w K mg base 2 "_law_are_choices" 2 eF:=xq ["_law_many","_law_thing","_law_choice_here"] X G F λb=>
 (qF (qV (gA (fv (ii xv))) (qG (qU gf)) qQ) (qF (fo (qd xv) gq (qF (qV (iZ (lv (gA (fv (ii xv))) (jz (ct (oq jn) xv (dF qN))))) (qG (qU gf)) qQ) (qF (qV (gA (fv (cn (qa O) (a1 (fk ["_law_k"] (qd xv) ⟨gq,d6,(wn a (a3 xv qK (qI nr xv qK)))⟩))))) (qG (qU gf)) qQ) (qG (qV (fv (cn (yM O) (a1 (fk ["_law_one","_law_other"] (nY O (bz B) (a2 xv (ed xv (eB qK) eI))) ⟨(tg2 gq gq),d6,(ce Ic xv xv)⟩)))) (qG (qU gf)) qQ))))) (qG (qU gf))))
abbrev oQ:di:=ja 18
def qj:FS:=(ee (d5 2 [1] (eZ (mN (dv 3 lY) (dn (mV 0) (dn (m2 (b2 dz) (mV 1) (mC (D.int 0))) (dn (mV 2) dq))))) (gT 2 (eT (gN 0) (eT (gN 1) i8))) d9 (dU (mN (dv 3 js) (dn (mV 2) (dn (mV 0) (dn (mV 1) dq)))))))
def iP:FN:=gH 3 qj
theorem uS {f:c4}(F:dY K "deeds_of" oQ f)(b:Own P w K mg base 2 "deed_of" 3 js)(a:Own P w K mg base 2 "wants" 3 lY):
  Own P w K mg base 3 "deeds_of" 3 iP:=xq ["web","machine","whole"] X G F λc=>
 (qG (qU (fk ["mood","sight"] (qd (wn a (a3 xv (jq xv qK) xv))) ⟨(tg2 gq gq),d6,(wn b (a3 xv xv xv))⟩)))
abbrev lQ:di:=ja 19
def j1:FS:=(fj (uj (b2 kY) (mV 4) (dn (vb (mB (m2 (b2 fY) (mV 5) (mV 3))) (m2 (b2 dz) (mV 2) (mV 5)) (d7 (dn (mV 8) (dn (mC (D.str "leave")) (dn (mC D.non) dq))))) dq)))
def mj:FS:=(dG (dH (eY dq) (gN 4))
  (dG (fC (Au (dn (m2 (b2 dz) (mV 1) (mC (D.int 0))) dq)) (gT 2 (eT (gN 5) (eT (gT 3 (eT (gN 6) (eT (gN 7) (eT (gN 8) i8)))) i8))) j1)
  (ee (mN (dv 3 lZ) (dn (mV 0) (dn (mV 1) (dn (mV 4) dq)))))))
def gD:FN:=gH 9 mj
theorem qy {f:c4}(F:dY K "moved_some" lQ f)(a:Own P w K mg base 2 "moved" 3 lZ):
  Own P w K mg base 3 "moved_some" 4 gD:=xq ["web","whole","all_deeds","choice","done","k","room","came","mood"] X G F λb=>
 (qF (sq (er qN)) (qF (fo (ie (a1 (jq xv qK))) (tg2 gq (gW O (dP gq (dP gq (dP gq fZ))))) (qG (lq ap xv (a1 (lz (ct (oq j4) xv xv (by with_unfolding_all rfl)) (jq xv xv) (dF (a3 xv dV gB))))))) (qG (qU (wn a (a3 xv xv xv))))))
abbrev nf:di:=ja 24
def nE:FS:=(dG (fg (wT (iA (mTr (gy .tuple (mV 1)))) (mB (m2 (b2 gEq) (mN (b1 eA) (dn (mV 1) dq)) (mC (D.int 0))))) (ee (mC (D.bl false))) kJ)
  (ee (gx (mN (b1 lD) (dn (d5 1 [0] (eZ (mV 1)) (gN 0) d9 (dU (mN (dv 2 gQ) (dn (mV 0) (dn (mV 1) dq))))) dq)) (mN (dv 1 h9) (dn (mV 1) dq)))))
def gt:FN:=gH 2 nE
theorem tf {f:c4}(F:dY K "is_choice" nf f)(b:Own P w K mg base 2 "is_below" 2 gQ)(a:Own P w K mg base 1 "is_rising" 1 h9):
  Own P w K mg base 3 "is_choice" 2 gt:=xq ["many","thing"] X G F λc=>
 (qF (qV (iZ (lv (gA (fv (ii xv))) (jz (ct (oq jn) (cn eS (a1 xv)) qK)))) (qG (qU gf)) qQ) (qG (qU (gX (cn (qa O) (a1 (fk ["walker"] (qd xv) ⟨gq,d6,(wn b (a2 xv xv))⟩))) (i0 (wn a (a1 xv)))))))
abbrev oR:di:=ja 31
def iz:FS:=(fj (mN (dv 3 gu) (dn (mV 3) (dn (mN (dv 2 fr) (dn (mV 0) (dn (d5 1 [3] (nS (dn (mV 4) dq)) (gN 0) (mB (m2 (b2 w8) (mN (b1 eA) (dn (m2 (b2 dz) (mV 1) (mV 0)) dq)) (mC (D.int 4)))) (dU (mV 0))) dq))) (dn (mV 4) dq)))))
def iy:FS:=(dG (dH (d7 (dn (mN (dv 2 dy) (dn (mV 0) (dn (mV 2) dq))) (dn (mN (dv 2 dy) (dn (mV 0) (dn (mV 2) dq))) dq))) (gT 2 (eT (gN 6) (eT (gN 7) i8))))
  (fg (mK (mB (m2 (b2 w8) (m2 (b2 eD) (mN (b1 eA) (dn (m2 (b2 dz) (mV 3) (mV 6)) dq)) (mN (b1 ma) (dn (m2 (b2 gEq) (mV 6) (mV 7)) dq))) (mC (D.int 4)))) (mB (m2 (b2 w8) (mN (b1 eA) (dn (m2 (b2 dz) (mV 3) (mV 7)) dq)) (mC (D.int 4))))) (fj (mN (dv 3 gu) (dn (mV 3) (dn (mV 6) (dn (mV 7) dq))))) kJ))
def lW:FS:=(dH (d7 (dn (mV 4) (dn (mV 11) dq))) (gS (b3 gJ) (mV 9) (mV 12)))
def jC:FS:=(fC (Au (dn (mV 10) dq)) (gT 2 (eT (gN 11) (eT (gN 12) i8))) lW)
def qk:FS:=(dG (dH (m2 (b2 eD) (mC (D.int 1)) (mN (dv 2 dy) (dn (mV 0) (dn (mV 1) dq)))) (gN 2))
  (dG (dH (d5 1 [] (nS (dn (mV 2) dq)) (gN 0) d9 (dU (eY dq))) (gN 3))
  (dG (fC (JR (dn (mC (D.int 1)) (dn (mV 2) dq))) (gN 4) iz)
  (dG (fC (nS (dn (mN (dv 2 dy) (dn (mV 0) (dn (mC (D.int 4)) dq))) dq)) (gN 5) iy)
  (dG (dH (d5 1 [0] (eZ (mV 3)) (gN 0) d9 (dU (mN (dv 2 ej) (dn (mV 1) (dn (mV 0) dq))))) (gN 8))
  (dG (dH pA (gN 9))
  (dG (fC (Au (dn (mV 8) dq)) (gT 2 (eT (gN 4) (eT (gN 10) i8))) jC)
  (ee (mN (b1 gTup) (dn (d5 1 [9] (eZ (mV 8)) (gN 0) d9 (dU (mN (b1 gTup) (dn (d5 2 [1] (eZ (mV 0)) (gT 2 (eT (gN 0) (eT (gN 1) i8))) d9 (dU (m2 (b2 dz) (mV 2) (d7 (dn (mV 0) (dn (m2 (b2 gSub) (mC (D.int 1)) (mV 1)) dq)))))) dq)))) dq))))))))))
def iQ:FN:=gH 13 qk
theorem uT {f:c4}(F:dY K "_law_web" oR f)(b:Own P w K mg base 1 "_law_draw" 2 dy)(a:Own P w K mg base 1 "_law_join" 3 gu)(c:Own P w K mg base 2 "_law_of" 2 fr)(d:Own P w K mg base 2 "_law_shuffled" 2 ej):
  Own P w K mg base 3 "_law_web" 2 iQ:=xq ["_law_box_here","_law_most","_law_many","_law_ends","_law_room","_law_turn","_law_one","_law_other","_law_rows","_law_places","_law_row","_law_door","_law_end"] X G F λe=>
 (qF (sq (qI ek qK (wn b (a2 xv xv)))) (qF (sq (fk ["_law_room"] (ir (a1 xv)) ⟨gq,d6,(er qN)⟩)) (qF (fo (v9 O (bz B) (a2 qK xv)) gq (qG (oC (wn a (a3 xv (wn c (a2 xv (fk ["_law_one"] (ir (a1 xv)) ⟨gq,(hH (ct (oq lg) (cn eS (a1 (jq xv xv))) qK)),xv⟩))) xv))))) (qF (fo (ir (a1 (wn b (a2 xv qK)))) gq (qF (kx 6 7 O (gI O) O O (by decide) O O (a2 (wn b (a2 xv xv)) (wn b (a2 xv xv)))) (qG (qV (iZ (ix (ct (oq lg) (qI ek (cn eS (a1 (jq xv xv))) (cz su (a1 (ce (oq jn) xv xv)))) qK) (iG (ct (oq lg) (cn eS (a1 (jq xv xv))) qK)))) (qG (oC (wn a (a3 xv xv xv)))) qQ)))) (qF (gK 8 O (T:=["_law_row"]) (keep:=[0]) ⟨O,by decide+kernel,(kc "_law_box_here" (cy _))⟩ O (qd xv) (λ_ _ _=>⟨gq,d6,(wn d (a2 xv xv))⟩) (gI O) O (by first|exact Or.inl rfl|exact Or.inr rfl)) (qF (sq oD) (qF (fo (ie (a1 xv)) (tg2 gq gq) (qG (fo (ie (a1 xv)) (tg2 gq gq) (qG (qR (dF (a2 xv xv)) (kA xv xv (mE e.units))))))) (qG (qU (cz eK (a1 (fk ["_law_row"] (qd xv) ⟨gq,d6,(cz eK (a1 (fk ["_law_number","_law_side"] (qd xv) ⟨(tg2 gq gq),d6,(jq xv (dF (a2 xv (qI nr qK xv))))⟩)))⟩))))))))))))
abbrev jY:di:=ja 33
def gP:FS:=(dG (dH (m2 (b2 dz) (eY (dn (mC (D.str "leave")) (dn (mC (D.str "leave")) (dn (mC (D.str "mark")) (dn (mC (D.str "wipe")) dq))))) (m2 (b2 kf) (mN (dv 2 dy) (dn (mV 0) (dn (mC (D.int 4)) dq))) (mN (b1 ma) (dn (mV 1) dq)))) (gN 7))
  (dG (dH (d7 (dn (mN (dv 2 dy) (dn (mV 0) (dn (mV 3) dq))) (dn (mV 7) (dn (m2 (b2 dz) (eY (dn (mC D.non) (dn (mC (D.int 0)) (dn (mC (D.int 1)) (dn (mC (D.int 0)) (dn (mC (D.int 2)) (dn (mC (D.int 1)) (dn (mC (D.int 3)) (dn (mC (D.int 0)) dq))))))))) (mN (dv 2 dy) (dn (mV 0) (dn (mC (D.int 8)) dq)))) dq)))) (gN 8))
  (fg (mB (m2 (b2 (gU λi j=>decide (j<i))) (mN (dv 2 dy) (dn (mV 0) (dn (mC (D.int 12)) dq))) (mC (D.int 0)))) (fj (uj (b2 kY) (mV 4) (dn (d7 (dn (d7 (dn (mV 5) (dn (mV 6) dq))) (dn (mV 8) dq))) dq))) kJ)))
def gO:FS:=(fC (eZ (mN (dv 1 gb) (dn (mV 2) dq))) (gN 6) gP)
def kj:FS:=(dG (dH (mN (dv 2 fr) (dn (mV 0) (dn (eY (dn (d7 dq) (dn (d7 (dn (mC (D.str "came")) dq)) (dn (d7 (dn (mC (D.str "doors")) dq)) (dn (d7 (dn (mC (D.str "chalk")) dq)) (dn (d7 (dn (mC (D.str "others")) dq)) (dn (d7 (dn (mC (D.str "chalk")) (dn (mC (D.str "others")) dq))) (dn (d7 (dn (mC (D.str "came")) dq)) dq)))))))) dq))) (gN 2))
  (dG (dH (d7 (dn (m2 (b2 eD) (mC (D.int 1)) (mN (dv 2 dy) (dn (mV 0) (dn (mC (D.int 2)) dq)))) (dn (eY dq) dq))) (gT 2 (eT (gN 3) (eT (gN 4) i8))))
  (dG (fC (nS (dn (mV 3) dq)) (gN 5) gO)
  (ee (d7 (dn (mV 2) (dn (mN (b1 gTup) (dn (mV 4) dq)) dq)))))))
def fL:FN:=gH 9 kj
theorem nP {f:c4}(F:dY K "_law_machine" jY f)(a:Own P w K mg base 1 "_law_draw" 2 dy)(b:Own P w K mg base 2 "_law_of" 2 fr)(c:Own P w K mg base 1 "_law_sights" 1 gb):
  Own P w K mg base 3 "_law_machine" 2 fL:=xq ["_law_box_here","_law_loud","_law_eyes","_law_moods","_law_rows","_law_mood","_law_sight_here","_law_hand","_law_deed_here"] X G F λd=>
 (qF (sq (wn b (a2 xv (er (qA (dF qN) (qA (dF (a1 dV)) (qA (dF (a1 dV)) (qA (dF (a1 dV)) (a3 (dF (a1 dV)) (dF (a2 dV dV)) (dF (a1 dV))))))))))) (qF (kx 3 4 O (gI O) O O (by decide) O O (a2 (qI ek qK (wn a (a2 xv qK))) (er qN))) (qF (fo (ir (a1 xv)) gq (qG (fo (qd (wn c (a1 xv))) gq (qF (sq (jq (er (qA dV (a3 dV dV dV))) (qI lf (wn a (a2 xv qK)) (cz su (a1 xv))))) (qF (sq (dF (a3 (wn a (a2 xv xv)) xv (jq (er (qA gB (qA qK (qA qK (qA qK (qA qK (a3 qK qK qK))))))) (wn a (a2 xv qK)))))) (qG (qV (ct BV (wn a (a2 xv qK)) qK) (qG (lq ap xv (a1 (dF (a2 (dF (a2 xv xv)) xv))))) qQ))))))) (qG (qU (dF (a2 xv (cz eK (a1 xv)))))))))
abbrev ng:di:=ja 34
def nF:FS:=(dG (dH (ig (mN (dv 2 ej) (dn (mV 0) (dn (wU (dn (mV 1) dq)) dq))) fu (eV (m2 (b2 eD) (mV 2) (mN (dv 2 dy) (dn (mV 0) (dn (m2 (b2 eD) (m2 (b2 gSub) (mV 1) (mV 2)) (mC (D.int 1))) dq)))))) (gN 3))
  (ee (mN (b1 gTup) (dn (mN (b1 kM) (dn (mV 3) dq)) dq))))
def ia:FN:=gH 4 nF
theorem tj {f:c4}(F:dY K "_law_some" ng f)(b:Own P w K mg base 1 "_law_draw" 2 dy)(a:Own P w K mg base 2 "_law_shuffled" 2 ej):
  Own P w K mg base 3 "_law_some" 3 ia:=xq ["_law_box_here","_law_many","_law_least","_law_bits"] X G F λc=>
 (qF (sq (ed (wn a (a2 xv (ly O O (bz B) O (bz B) (a1 xv)))) eI (eB (qI ek xv (wn b (a2 xv (qI ek (qI nr xv xv) qK))))))) (qG (qU (cz eK (a1 (cn vO (a1 xv)))))))
abbrev oT:di:=ja 43
def qm:FS:=(dG (dH (eY (dn (mC D.non) (dn (mC (D.bl true)) (dn (mC (D.bl false)) (dn (m1 (b1 mR) (mC (D.int 1))) (dn (mC (D.int 0)) (dn (mC (D.int 1)) (dn (mC (D.int 2)) (dn (mC (D.int 3)) (dn (mC (D.int 4)) (dn (mC (D.int 8)) (dn (mC (D.int 4000)) (dn (d7 dq) (dn (mC (D.str "")) (dn (mC (D.str "leave")) (dn (d7 (dn (mC (D.int 0)) dq)) (dn (d7 (dn (mC (D.int 0)) (dn (mC (D.int 0)) (dn (mC (D.int 0)) dq)))) (dn (eY (dn (mC (D.int 0)) dq)) (dn pA (dn (d7 (dn (d7 (dn (mC (D.int 0)) (dn (mC (D.int 0)) (dn (mC (D.int 0)) dq)))) dq)) dq)))))))))))))))))))) (gN 2))
  (dG (fg (mTr (gy .tuple (mV 1))) (dG (dH (mN (dv 2 dy) (dn (mV 0) (dn (m2 (b2 eD) (mN (b1 eA) (dn (mV 1) dq)) (mC (D.int 1))) dq))) (gN 3))
  (dG (dH (eY (dn (m2 (b2 eD) (ig (mV 1) fu (eV (mV 3))) (ig (mV 1) (eV (m2 (b2 eD) (mV 3) (mC (D.int 1)))) fu)) (dn (m2 (b2 eD) (m2 (b2 eD) (ig (mV 1) fu (eV (mV 3))) (ig (mV 1) (eV (mV 3)) (eV (m2 (b2 eD) (mV 3) (mC (D.int 1)))))) (ig (mV 1) (eV (mV 3)) fu)) (dn (Gu (mV 1) (m1 (b1 mR) (mC (D.int 1)))) (dn (mN (b1 nT) (dn (mV 1) dq)) dq))))) (gN 2))
  (dH (m2 (b2 eD) (mV 2) (eY (dn (m2 (b2 eD) (m2 (b2 eD) (ig (mV 1) fu (eV (mV 3))) (d7 (dn (mC (D.int 0)) dq))) (ig (mV 1) (eV (mV 3)) fu)) (dn (m2 (b2 eD) (ig (mV 1) (eV (mV 3)) fu) (ig (mV 1) fu (eV (mV 3)))) (dn (mC D.non) (dn (d7 dq) (dn (m2 (b2 eD) (mV 1) (d7 (dn (mV 1) dq))) dq))))))) (gN 2)))) kJ)
  (dG (fg (mK (mTr (gy .int (mV 1))) (iA (mTr (gy .bool (mV 1))))) (dH (m2 (b2 eD) (mV 2) (eY (dn (m2 (b2 eD) (mV 1) (mC (D.int 1))) (dn (m2 (b2 gSub) (mV 1) (mC (D.int 1))) (dn (m2 (b2 eD) (mV 1) (mC (D.int 1))) (dn (m2 (b2 gSub) (mV 1) (mC (D.int 1))) (dn (m2 (b2 eD) (mV 1) (mC (D.int 2))) (dn (mN (b1 Fm) (dn (mV 1) dq)) (dn (d7 (dn (mV 1) dq)) (dn (m2 (b2 gEq) (mV 1) (mC (D.int 1))) dq)))))))))) (gN 2)) kJ)
  (ee (mN (dv 2 fr) (dn (mV 0) (dn (mV 2) dq)))))))
def gR:FN:=gH 4 qm
theorem uV {f:c4}(F:dY K "_law_odd" oT f)(b:Own P w K mg base 1 "_law_draw" 2 dy)(a:Own P w K mg base 2 "_law_of" 2 fr):
  Own P w K mg base 3 "_law_odd" 2 gR:=xq ["_law_box_here","_law_thing","_law_some_here","_law_at"] X G F λc=>
 (qF (sq (er (qA gB (qA gf (qA gf (qA (lx px qK) (qA qK (qA qK (qA qK (qA qK (qA qK (qA qK (qA qK (qA (dF qN) (qA dV (qA dV (qA (dF (a1 qK)) (qA (dF (a3 qK qK qK)) (a3 (er (a1 qK)) oD (dF (a1 (dF (a3 qK qK qK))))))))))))))))))))))) (qF (qV (fv (ii xv)) (qF (sq (wn b (a2 xv (qI ek (cn eS (a1 xv)) qK)))) (qF (sq (er (qA (qI ek (ed xv eI (eB xv)) (ed xv (eB (qI ek xv qK)) eI)) (a3 (qI ek (qI ek (ed xv eI (eB xv)) (ed xv (eB xv) (eB (qI ek xv qK)))) (ed xv (eB xv) eI)) (uo xv (lx px qK)) (cz p9 (a1 xv)))))) (qG (sq (qI ek xv (er (qA (qI ek (qI ek (ed xv eI (eB xv)) (dF (a1 qK))) (ed xv (eB xv) eI)) (qA (qI ek (ed xv (eB xv) eI) (ed xv eI (eB xv))) (a3 gB (dF qN) (qI ek xv (dF (a1 xv)))))))))))) qQ) (qF (qV (iZ (ix (fv (ii xv)) (iG (gA (fv (ii xv)))))) (qG (sq (qI ek xv (er (qA (qI ek xv qK) (qA (qI nr xv qK) (qA (qI ek xv qK) (qA (qI nr xv qK) (qA (qI ek xv qK) (a3 (cz LI (a1 xv)) (dF (a1 xv)) (ce (oq jn) xv qK))))))))))) qQ) (qG (qU (wn a (a2 xv xv)))))))
abbrev oV:di:=ja 47
def jE:FS:=(fj (uj (b2 kY) (mV 7) (dn (mN (dv 4 fM) (dn (mV 0) (dn (mV 1) (dn (m2 (b2 dz) (mV 7) (m1 (b1 mR) (mC (D.int 1)))) (dn (mV 8) dq))))) dq)))
def jD:FS:=(fj (uj (b2 CM) (mV 9) (dn (mN (b1 nT) (dn (mV 8) dq)) dq)))
def qp:FS:=(dG (dH (d7 (dn (mN (b1 eA) (dn (m2 (b2 dz) (mV 2) (mC (D.int 0))) dq)) (dn (mN (dv 1 fy) (dn (mV 2) dq)) dq))) (gT 2 (eT (gN 5) (eT (gN 6) i8))))
  (dG (fg (wT (iA (mTr (mN (dv 2 eF) (dn (mV 5) (dn (mV 3) dq))))) (iA (mTr (mN (dv 2 eF) (dn (mV 5) (dn (mV 4) dq)))))) (ee (mC (D.bl J))) kJ)
  (dG (dH (eY (dn (mV 6) dq)) (gN 7))
  (dG (fC (eZ (m2 (b2 eD) (mV 3) (mV 4))) (gN 8) jE)
  (dG (dH (eY dq) (gN 9))
  (dG (fC (eZ (mV 4)) (gN 8) jD)
  (dG (dH (m2 (b2 gEq) (m2 (b2 dz) (mV 7) (m1 (b1 mR) (mC (D.int 1)))) (m2 (b2 dz) (mV 7) (mN (b1 eA) (dn (mV 3) dq)))) (gN 10))
  (ee (gx (mV 10) (gx (mN (b1 lD) (dn (d5 1 [9] (nS (dn (mV 5) dq)) (gN 0) d9 (dU (m2 (b2 fY) (mV 0) (mV 1)))) dq)) (pz (mN (b1 nU) (dn (d5 1 [] (eZ (mV 7)) (gN 0) d9 (dU (mN (dv 1 gj) (dn (mV 0) dq)))) dq)))))))))))))
def iR:FN:=gH 11 qp
theorem uX {f:c4}(F:dY K "_law_due" oV f)(a:Own P w K mg base 2 "_law_are_choices" 2 eF)(d:Own P w K mg base 2 "_law_beat" 4 fM)(b:Own P w K mg base 1 "_law_begun" 1 fy)(c:Own P w K mg base 1 "_law_met" 1 gj):
  Own P w K mg base 3 "_law_due" 5 iR:=xq ["_law_web_here","_law_own_here","_law_standing_here","_law_way","_law_again","_law_many","_law_whole","_law_wholes","_law_choice_here","_law_stood","_law_back"] X G F (hb:=λ_ _ _ _ _ _ h e=>NH e λ_ _ _ _ _=>rfl) λg=>
 (qF (kx 5 6 O (gI O) O O (by decide) O O (a2 (cn eS (a1 (jq xv qK))) (wn b (a1 xv)))) (qF (qV (iZ (lv (gA (fv (wn a (a2 xv xv)))) (jz (gA (fv (wn a (a2 xv xv))))))) (qG (qU gf)) qQ) (qF (sq (er (a1 xv))) (qF (fo (qd (qI ek xv xv)) gq (qG (lq ap xv (a1 (wn d (qA xv (a3 xv (jq xv (lx px qK)) xv))))))) (qF (sq (er qN)) (qF (fo (qd xv) gq (qG (lq ⟨PySem.F.slot_list_extend,PySem.F.type_list_extend,J7⟩ xv (a1 (cz p9 (a1 xv)))))) (qF (sq (ce (oq jn) (jq xv (lx px qK)) (jq xv (cn eS (a1 xv))))) (qG (qU (gX xv (gX (cn (qa O) (a1 (fk ["_law_k"] (ir (a1 xv)) ⟨gq,d6,(ce (oq j4) xv xv (by with_unfolding_all rfl))⟩))) (i0 (nZ (cn (yM O) (a1 (fk ["_law_one"] (qd xv) ⟨gq,d6,(wn c (a1 xv))⟩))))))))))))))))
abbrev nh:di:=ja 48
def jc:FS:=(dG (fg (mB (m2 (b2 zR) (mV 4) (mV 6))) (ee (d7 (dn (mN (b1 gTup) (dn (ig (mV 5) fu (eV (m2 (b2 dz) (mV 6) (mV 4)))) dq)) (dn (mN (b1 gTup) (dn (ig (mV 5) (eV (m2 (b2 dz) (mV 6) (mV 4))) fu) dq)) dq)))) kJ)
  (dG (dH (mV 7) (gS (b3 gJ) (mV 6) (mV 4)))
  (dG (fj (uj (b2 kY) (mV 5) (dn (mN (dv 2 eH) (dn (mV 0) (dn (mN (b1 eA) (dn (m2 (b2 dz) (mV 3) (mC (D.int 0))) dq)) dq))) dq)))
  (dH (mN (dv 4 fM) (dn (mV 1) (dn (mV 2) (dn (mV 4) (dn (m2 (b2 dz) (mV 5) (m1 (b1 mR) (mC (D.int 1)))) dq))))) (gN 4)))))
def nG:FS:=(dG (dH (d7 (dn (mN (dv 1 fy) (dn (mV 3) dq)) (dn (eY dq) (dn pA dq)))) (gT 3 (eT (gN 4) (eT (gN 5) (eT (gN 6) i8)))))
  (dG (fC (nS (dn (mC (D.int 14)) dq)) (gN 7) jc)
  (ee (d7 (dn (mN (b1 gTup) (dn (ig (mV 5) fu (eV (mC (D.int 3)))) dq)) (dn (mN (b1 gTup) (dn (ig (mV 5) (eV (mC (D.int 3))) fu) dq)) dq))))))
def ib:FN:=gH 8 nG
theorem tm {f:c4}(F:dY K "_law_ring" nh f)(a:Own P w K mg base 2 "_law_beat" 4 fM)(b:Own P w K mg base 1 "_law_begun" 1 fy)(c:Own P w K mg base 2 "_law_choice" 2 eH):
  Own P w K mg base 3 "_law_ring" 4 ib:=xq ["_law_box_here","_law_web_here","_law_own_here","_law_standing_here","_law_whole","_law_picks","_law_met_at","_law_turn"] X G F λd=>
 (qF (AB 4 5 6 O (gI O) O O O (by decide) (by decide) (by decide) O O O (a3 (wn b (a1 xv)) (er qN) oD)) (qF (fo (ir (a1 qK)) gq (qF (qV (ct (oq KU) xv xv (by with_unfolding_all rfl)) (qG (qU (dF (a2 (cz eK (a1 (ed xv eI (eB (jq xv xv))))) (cz eK (a1 (ed xv (eB (jq xv xv)) eI))))))) qQ) (qF (qR xv (kA xv xv (mE d.units))) (qF (lq ap xv (a1 (wn c (a2 xv (cn eS (a1 (jq xv qK))))))) (qG (sq (wn a (qA xv (a3 xv xv (jq xv (lx px qK))))))))))) (qG (qU (dF (a2 (cz eK (a1 (ed xv eI (eB qK)))) (cz eK (a1 (ed xv (eB qK) eI)))))))))
abbrev na:di:=ja 17
def nC:FS:=(ee (mN (dv 4 gD) (dn (mV 0) (dn (mV 2) (dn (mN (dv 3 iP) (dn (mV 0) (dn (mV 1) (dn (mV 2) dq)))) (dn (mV 3) dq))))))
def hY:FN:=gH 4 nC
theorem sZ {f:c4}(F:dY K "slow_beat" na f)(a:Own P w K mg base 3 "deeds_of" 3 iP)(b:Own P w K mg base 3 "moved_some" 4 gD):
  Own P w K mg base 4 "slow_beat" 4 hY:=xq ["web","machine","whole","choice"] X G F λc=>
 (qG (qU (wn b (qA xv (a3 xv (wn a (a3 xv xv xv)) xv)))))
abbrev k7:di:=ja 23
def ln:FS:=(ee (gx (gy .tuple (mV 1)) (mN (b1 lD) (dn (d5 1 [0] (eZ (mV 1)) (gN 0) d9 (dU (mN (dv 2 gt) (dn (mV 1) (dn (mV 0) dq))))) dq))))
def fE:FN:=gH 2 ln
theorem pq {f:c4}(F:dY K "are_choices" k7 f)(a:Own P w K mg base 3 "is_choice" 2 gt):
  Own P w K mg base 4 "are_choices" 2 fE:=xq ["many","thing"] X G F λb=>
 (qG (qU (gX (ii xv) (i0 (cn (qa O) (a1 (fk ["choice"] (qd xv) ⟨gq,d6,(wn a (a2 xv xv))⟩)))))))
abbrev jN:di:=ja 35
def jS:FS:=(dG (dH (mN (b1 gTup) (dn (mN (b1 kM) (dn (ig (mN (dv 2 ej) (dn (mV 0) (dn (wU (dn (mN (b1 eA) (dn (mV 1) dq)) dq)) dq))) fu (eV (m2 (b2 eD) (mC (D.int 1)) (mN (dv 2 dy) (dn (mV 0) (dn (mV 2) dq)))))) dq)) dq)) (gN 3))
  (ee (d7 (dn (mV 3) (dn (vb (mB (m2 (b2 gEq) (mN (dv 2 dy) (dn (mV 0) (dn (mC (D.int 2)) dq))) (mC (D.int 0)))) (mN (dv 3 ia) (dn (mV 0) (dn (mN (b1 eA) (dn (mV 1) dq)) (dn (mC (D.int 0)) dq)))) (d7 dq)) dq)))))
def fB:FN:=gH 4 jS
theorem mH {f:c4}(F:dY K "_law_standing" jN f)(c:Own P w K mg base 1 "_law_draw" 2 dy)(a:Own P w K mg base 2 "_law_shuffled" 2 ej)(b:Own P w K mg base 3 "_law_some" 3 ia):
  Own P w K mg base 4 "_law_standing" 3 fB:=xq ["_law_box_here","_law_web_here","_law_most","_law_rooms"] X G F λd=>
 (qF (sq (cz eK (a1 (cn vO (a1 (ed (wn a (a2 xv (ly O O (bz B) O (bz B) (a1 (cn eS (a1 xv)))))) eI (eB (qI ek qK (wn c (a2 xv xv)))))))))) (qG (qU (dF (a2 xv (lz (ct (oq jn) (wn c (a2 xv qK)) qK) (wn b (a3 xv (cn eS (a1 xv)) qK)) (dF qN)))))))
abbrev m9:di:=ja 20
def lc:FS:=(fj (uj (b2 kY) (mV 4) (dn (mN (dv 4 hY) (dn (mV 0) (dn (mV 1) (dn (m2 (b2 dz) (mV 4) (m1 (b1 mR) (mC (D.int 1)))) (dn (mV 5) dq))))) dq)))
def nB:FS:=(dG (dH (eY (dn (mV 2) dq)) (gN 4))
  (dG (fC (eZ (mV 3)) (gN 5) lc)
  (ee (mV 4))))
def hW:FN:=gH 6 nB
theorem sY {f:c4}(F:dY K "walked_on" m9 f)(a:Own P w K mg base 4 "slow_beat" 4 hY):
  Own P w K mg base 5 "walked_on" 4 hW:=xq ["web","machine","whole","choices","wholes","choice"] X G F λb=>
 (qF (sq (er (a1 xv))) (qF (fo (qd xv) gq (qG (lq ap xv (a1 (wn a (qA xv (a3 xv (jq xv (lx px qK)) xv))))))) (qG (qU xv))))
abbrev k6:di:=ja 22
def lm:FS:=(dG (dH (mN (b1 eA) (dn (m2 (b2 dz) (mV 2) (mC (D.int 0))) dq)) (gN 5))
  (dG (fg (wT (iA (mTr (mN (dv 2 fE) (dn (mV 5) (dn (mV 3) dq))))) (iA (mTr (mN (dv 2 fE) (dn (mV 5) (dn (mV 4) dq)))))) (ee (mC (D.bl J))) kJ)
  (dG (fg (iA (mTr (mN (b1 lD) (dn (d5 1 [4] (nS (dn (mV 5) dq)) (gN 0) d9 (dU (mN (b1 nU) (dn (d5 1 [0] (eZ (mV 1)) (gN 0) d9 (dU (m2 (b2 fY) (mV 1) (mV 0)))) dq)))) dq)))) (ee (mC (D.bl J))) kJ)
  (dG (dH (mN (dv 4 hW) (dn (mV 0) (dn (mV 1) (dn (mN (dv 1 l0) (dn (mV 2) dq)) (dn (m2 (b2 eD) (mV 3) (mV 4)) dq))))) (gN 6))
  (ee (gx (m2 (b2 gEq) (m2 (b2 dz) (mV 6) (mN (b1 eA) (dn (mV 3) dq))) (m2 (b2 dz) (mV 6) (m1 (b1 mR) (mC (D.int 1))))) (pz (mN (b1 nU) (dn (d5 1 [] (eZ (mV 6)) (gN 0) d9 (dU (mN (dv 1 iN) (dn (mV 0) dq)))) dq)))))))))
def ga:FN:=gH 7 lm
theorem pp {f:c4}(F:dY K "shows_dodge" k6 f)(a:Own P w K mg base 4 "are_choices" 2 fE)(d:Own P w K mg base 1 "begun" 1 l0)(b:Own P w K mg base 1 "is_met" 1 iN)(c:Own P w K mg base 5 "walked_on" 4 hW):
  Own P w K mg base 6 "shows_dodge" 5 ga:=xq ["web","machine","standing","way","again","many","wholes"] X G F (hb:=λ_ _ _ _ _ _ h e=>NH e λ_ _ _ _ _=>rfl) λg=>
 (qF (sq (cn eS (a1 (jq xv qK)))) (qF (qV (iZ (lv (gA (fv (wn a (a2 xv xv)))) (jz (gA (fv (wn a (a2 xv xv))))))) (qG (qU gf)) qQ) (qF (qV (gA (fv (cn (qa O) (a1 (fk ["walker"] (ir (a1 xv)) ⟨gq,d6,(cn (yM O) (a1 (fk ["choice"] (qd xv) ⟨gq,d6,(ce (oq j4) xv xv (by with_unfolding_all rfl))⟩)))⟩))))) (qG (qU gf)) qQ) (qF (sq (wn c (qA xv (a3 xv (wn d (a1 xv)) (qI ek xv xv))))) (qG (qU (gX (ce (oq jn) (jq xv (cn eS (a1 xv))) (jq xv (lx px qK))) (i0 (nZ (cn (yM O) (a1 (fk ["whole"] (qd xv) ⟨gq,d6,(wn b (a1 xv))⟩))))))))))))
abbrev jZ:di:=ja 44
def ij(self:FN):FS:=(dG (fg (mK (mB (m2 (b2 (gU fun i j=>decide (j<i))) (mV 2) (mC (D.int 0)))) (mK (mTr (gy .tuple (mV 1))) (mK (mB (m2 (b2 zQ) (mV 1) (d7 dq))) (mB (m2 (b2 (gU fun i j=>decide (j<i))) (mN (dv 2 dy) (dn (mV 0) (dn (mC (D.int 6)) dq))) (mC (D.int 0))))))) (dG (dH (mN (dv 2 dy) (dn (mV 0) (dn (mN (b1 eA) (dn (mV 1) dq)) dq))) (gN 3))
  (ee (m2 (b2 eD) (m2 (b2 eD) (ig (mV 1) fu (eV (mV 3))) (d7 (dn (mN (dv 3 self) (dn (mV 0) (dn (m2 (b2 dz) (mV 1) (mV 3)) (dn (m2 (b2 gSub) (mV 2) (mC (D.int 1))) dq)))) dq))) (ig (mV 1) (eV (m2 (b2 eD) (mV 3) (mC (D.int 1)))) fu)))) kJ)
  (ee (mN (dv 2 gR) (dn (mV 0) (dn (mV 1) dq)))))
def fS:Nat->FN
 |0=>λ_ _=>Y
 |n+1=>gH 4 (ij (fS n))
def j5:FN:=fS 8
theorem sM {f:c4}{fd:dg}(F:yY K "_law_bent" "_law_bent" jZ f fd)(hb:ku K fd ["_law_box_here","_law_thing","_law_deep"] [])(hm:mg "_law_bent"=some (.ref f))(d:Own P w K mg base 1 "_law_draw" 2 dy)(c:Own P w K mg base 3 "_law_odd" 2 gR){k:Nat}{self:FN}(hk:3<=k)(o_self:Own P w K mg base k "_law_bent" 3 self):
  Own P w K mg base (k+1) "_law_bent" 3 (gH 4 (ij self)):=xF (n:=3) (N:=["_law_box_here","_law_thing","_law_deep","_law_at"]) (ps:=["_law_box_here","_law_thing","_law_deep"]) (b:=ij self) F hb hm sk O λe A a s H E g=>
 (qF (qV (iZ (ix (ct BV xv qK) (ix (fv (ii xv)) (ix (ct (oq BS) xv (dF qN)) (iG (ct BV (wn d (a2 xv qK)) qK)))))) (qF (sq (wn d (a2 xv (cn eS (a1 xv))))) (qG (qU (qI ek (qI ek (ed xv eI (eB xv)) (dF (a1 (qH o_self g (nR1 _) O (a3 xv (jq xv xv) (qI nr xv qK)))))) (ed xv (eB (qI ek xv qK)) eI))))) qQ) (qG (qU (wn c (a2 xv xv)))))
theorem tw {f:c4}(F:dY K "_law_bent" jZ f)(g:Own P w K mg base 1 "_law_draw" 2 dy)(a:Own P w K mg base 3 "_law_odd" 2 gR):Own P w K mg base 12 "_law_bent" 3 j5:=by
 have b:=wM1 X G F.ns;obtain⟨fd,F⟩:=F.fn;have c:=F.binds (ps:=["_law_box_here","_law_thing","_law_deep"]) (λ_ _ _ _ _ _ h e=>M0 e λ_ _ _=>rfl);have d:∀j:Nat,Own P w K mg base (4+j) "_law_bent" 3 (fS j):=λj=>by
  induction j with
  |zero=>exact BK F c b
  |succ j ih=>exact sM X G B F c b g a (show 3<=4+j by omega) ih
 exact d 8
abbrev uD:di:=ja 49
def oh:FS:=(dG (dH (mN (dv 5 ga) (dn (mV 3) (dn (mV 4) (dn (mV 5) (dn (mV 12) (dn (mV 13) dq)))))) (gN 14))
  (dG (dH (mN (dv 5 iR) (dn (mV 3) (dn (mN (dv 1 gi) (dn (mV 4) dq)) (dn (mV 5) (dn (mV 12) (dn (mV 13) dq)))))) (gN 15))
  (fg (wT (iA (mTr (gy .bool (mV 14)))) (mB (m2 (b2 zQ) (mV 14) (mV 15)))) (ee (mC (D.bl J))) kJ)))
def sX:FS:=(dG (dH (eY (dn (mN (dv 2 dy) (dn (mV 2) (dn (mC (D.int 7)) dq))) (dn (mN (dv 2 dy) (dn (mV 2) (dn (mC (D.int 7)) dq))) dq))) (gN 8))
  (dG (dH (mN (b1 gTup) (dn (d5 1 [2,6] (eZ (mV 8)) (gN 0) d9 (dU (mN (b1 gTup) (dn (d5 1 [1,2] (nS (dn (mV 0) dq)) (gN 0) d9 (dU (mN (dv 2 eH) (dn (mV 1) (dn (mV 2) dq))))) dq)))) dq)) (gN 9))
  (dG (fg (mB (m2 (b2 gEq) (mN (dv 2 dy) (dn (mV 2) (dn (mC (D.int 2)) dq))) (mC (D.int 0)))) (dH (mN (dv 4 ib) (dn (mV 2) (dn (mV 3) (dn (mN (dv 1 gi) (dn (mV 4) dq)) (dn (mV 5) dq))))) (gN 9)) kJ)
  (dG (dH (mN (dv 3 j5) (dn (mV 2) (dn (mV 9) (dn (mC (D.int 4)) dq)))) (gN 10))
  (dG (dH (m2 (b2 eD) (eY (dn (mV 9) dq)) (m2 (b2 r6) (eY (dn (mV 10) dq)) (mN (b1 ma) (dn (gx (gy .tuple (mV 10)) (m2 (b2 gEq) (mN (b1 eA) (dn (mV 10) dq)) (mC (D.int 2)))) dq)))) (gN 11))
  (fC (eZ (mV 11)) (gT 2 (eT (gN 12) (eT (gN 13) i8))) oh))))))
def sU:FS:=(dG (dH (mN (dv 2 gk) (dn (mV 0) (dn (mV 1) dq))) (gN 2))
  (dG (dH (d7 (dn (mN (dv 2 iQ) (dn (mV 2) (dn (mC (D.int 6)) dq))) (dn (mN (dv 2 fL) (dn (mV 2) (dn (mC (D.bl M)) dq))) dq))) (gT 2 (eT (gN 3) (eT (gN 4) i8))))
  (dG (dH (mN (dv 3 fB) (dn (mV 2) (dn (mV 3) (dn (mN (b2 w6) (dn (mC (D.int 4)) (dn (mN (b1 eA) (dn (mV 3) dq)) dq))) dq)))) (gN 5))
  (dG (dH (mN (b1 eA) (dn (m2 (b2 dz) (mV 5) (mC (D.int 0))) dq)) (gN 6))
  (fC (nS (dn (mC (D.int 4)) dq)) (gN 7) sX)))))
def En:FS:=(py [M,M,J,J,J,J,J,J,J,J,J,J,J,J,J,J] [M,J,J,J,J,J,J,J,J,J,J,J,J,J,J,J] sU)
def Dh:FS:=(dG (fC (nS (dn (mN (b2 Fo) (dn (mC (D.int 1)) (dn (mN (b2 w6) (dn (mC (D.int 8)) (dn (mN (b1 eA) (dn (mV 0) dq)) dq))) dq))) dq)) (gN 1) En)
  (ee (mC (D.bl M))))
def m_law:FN:=gH 16 Dh
theorem H0 {f:c4}{fd:dg}(F:yY K "law" "law" uD f fd)(i:Own P w K mg base 12 "_law_bent" 3 j5)(o:Own P w K mg base 1 "_law_box" 2 gk)(l:Own P w K mg base 2 "_law_choice" 2 eH)(p:Own P w K mg base 1 "_law_draw" 2 dy)(e:Own P w K mg base 3 "_law_due" 5 iR)(m:Own P w K mg base 3 "_law_machine" 2 fL)(a:Own P w K mg base 1 "_law_own" 1 gi)(g:Own P w K mg base 3 "_law_ring" 4 ib)(h:Own P w K mg base 4 "_law_standing" 3 fB)(j:Own P w K mg base 3 "_law_web" 2 iQ)(c:Own P w K mg base 6 "shows_dodge" 5 ga):
  m6 P w K mg base vW 13 f fd ["_law_script"] (spM K 1 m_law):=GK (k:=12) (n:=1) (N:=["_law_script","_law_k","_law_box_here","_law_web_here","_law_machine_here","_law_standing_here","_law_many","_law_tour","_law_sizes","_law_pair","_law_bent_here","_law_some_here","_law_way","_law_again","_law_found","_law_due_here"]) (ps:=["_law_script"]) (b:=Dh) F sk O λq A d s H E r=>
 (qF (fo (ir (a1 (cn (LJ O) (a2 qK (cn (GB O) (a2 qK (cn eS (a1 xv)))))))) gq (yZ [M,M,J,J,J,J,J,J,J,J,J,J,J,J,J,J] [M,J,J,J,J,J,J,J,J,J,J,J,J,J,J,J] (qF (sq (wn o (a2 xv xv))) (qF (kx 3 4 O (gI O) O O (by decide) O O (a2 (wn j (a2 xv qK)) (wn m (a2 xv gf)))) (qF (sq (wn h (a3 xv xv (cn (GB O) (a2 qK (cn eS (a1 xv))))))) (qF (sq (cn eS (a1 (jq xv qK)))) (qG (fo (ir (a1 qK)) gq (qF (sq (er (a2 (wn p (a2 xv qK)) (wn p (a2 xv qK))))) (qF (sq (cz eK (a1 (fk ["_law_size"] (qd xv) ⟨gq,d6,(cz eK (a1 (fk ["_law_turn"] (ir (a1 xv)) ⟨gq,d6,(wn l (a2 xv xv))⟩)))⟩)))) (qF (qV (ct (oq jn) (wn p (a2 xv qK)) qK) (qG (sq (wn g (qA xv (a3 xv (wn a (a1 xv)) xv))))) qQ) (qF (sq (wn i (a3 xv xv qK))) (qF (sq (qI ek (er (a1 xv)) (qI Ia (er (a1 xv)) (cz su (a1 (gX (ii xv) (i0 (ce (oq jn) (cn eS (a1 xv)) qK)))))))) (qG (fo (qd xv) (tg2 gq gq) (qF (sq (wn c (qA xv (qA xv (a3 xv xv xv))))) (qF (sq (wn e (qA xv (qA (wn a (a1 xv)) (a3 xv xv xv))))) (qG (qV (iZ (lv (gA (fv (ii xv))) (jz (ct (oq BS) xv xv)))) (qG (qU gf)) qQ))))))))))))))))))) (qG (qU gf)))
end
theorem all_mk {l:PySem.W.OpenLaw}{w:c7}{K:Fg1}{h:df}{mg:Str->Option cZ}{fa f1 f2 f3 f4 f5 f6 f7 f8 f9 f10 f11 f12 f13 f14 f15 f16 f17 f18 t f20 f21 f22 f23 f24 f25 f26 f27 f28 T f30 f31 f32 f33 f34 f35 f36 Q f38 S aq f41 I f43:c4}(X:K.In h)(G:h.Ns c8 mg)(hfa:mg "law"=some (.ref fa))
  {g1 g2 g5 g8 f:c4}
  {t3 t4 t6 t7 t9 t10 au x:Tok}
  {R n od8 d q:Option c4} {n2 n5 n8 n11 n1:Nat} {A sl5 sl8 i sl1:Array (Option cZ)}
  (a1:dY K "is_whole" oN f1)
  (a2:dY K "is_rising" nb f2)
  (a3:dY K "first_of" oP f3)
  (a4:dY K "begun" xW f4)
  (a5:dY K "sight_of" oM f5)
  (a6:dY K "handled" ro f6)
  (a7:dY K "stepped" rn f7)
  (a8:dY K "is_met" uE f8)
  (a9:dY K "_law_box" oW f9)
  (a10:dY K "_law_draw" nj f10)
  (a11:dY K "_law_join" ni f11)
  (a12:dY K "_law_sights" k8 f12)
  (E:dY K "_law_sight" lR f13)
  (a14:dY K "_law_own" oS f14)
  (a15:dY K "_law_deed" nk f15)
  (a16:dY K "_law_met" oU f16)
  (a17:dY K "_law_begun" lS f17)
  (a18:dY K "_law_whole_number" ip f18)
  (a19:dY K "is_below" oO t)
  (a20:dY K "deed_of" rp f20)
  (a21:dY K "wants" xU f21)
  (W:dY K "moved" xV f22)
  (a23:dY K "_law_of" rq f23)
  (r:dY K "_law_shuffled" jO f24)
  (N:dY K "_law_choice" k9 f25)
  (a26:dY K "_law_beat" nl f26)
  (wq:dY K "_law_are_choices" iI f27)
  (a28:dY K "deeds_of" oQ f28)
  (U:dY K "moved_some" lQ T)
  (C:dY K "is_choice" nf f30)
  (p:dY K "_law_web" oR f31)
  (a32:dY K "_law_machine" jY f32)
  (a33:dY K "_law_some" ng f33)
  (a34:dY K "_law_odd" oT f34)
  (a35:dY K "_law_due" oV f35)
  (V:dY K "_law_ring" nh f36)
  (a37:dY K "slow_beat" na Q)
  (a38:dY K "are_choices" k7 f38)
  (a39:dY K "_law_standing" jN S)
  (a40:dY K "walked_on" m9 aq)
  (a41:dY K "shows_dodge" k6 f41)
  (ao:dY K "_law_bent" jZ I)
  (j:dY K "law" uD f43)
  (e_PARTS:wN1 K c8 "PARTS"=Z (Z (Value.ref g1)))
  (h1:K.lookup g1=Z ⟨.type "tuple",q,.seq ([(Value.ref g2),(Value.ref g5),(Value.ref g8),(Value.ref f)]:List cZ).toArray n1,sl1⟩)
  (h2:K.lookup g2=Z ⟨.type "tuple",R,.seq ([(Value.str "came" t3),(Value.int (5) t4)]:List cZ).toArray n2,A⟩)
  (h5:K.lookup g5=Z ⟨.type "tuple",n,.seq ([(Value.str "chalk" t6),(Value.int (2) t7)]:List cZ).toArray n5,sl5⟩)
  (h8:K.lookup g8=Z ⟨.type "tuple",od8,.seq ([(Value.str "doors" t9),(Value.int (5) t10)]:List cZ).toArray n8,sl8⟩)
  (h11:K.lookup f=Z ⟨.type "tuple",d,.seq ([(Value.str "others" au),(Value.int (2) x)]:List cZ).toArray n11,i⟩)
  (z:LW K BL):∃fd:dg,(∀(s:c3) (v:cZ),BindsTo s fd ⟨[v],[]⟩ [("_law_script",v)]) /\ ∀base:df,K.In base->base.Ns c8 mg->m6 l.prog w K mg base vW 13 fa fd ["_law_script"] (spM K 1 m_law):=by
 have e:=hfa.symm.trans (wM1 X G j.ns);cases e;have B:Blt BL mg:=z.blt X G;have c0:CGl K mg "PARTS" ow:=Jo (wM1 X G e_PARTS) (pX h1 (by show 4<=da;decide) (fD (pX h2 (by show 2<=da;decide) (fD tV (fD tW mh))) (fD (pX h5 (by show 2<=da;decide) (fD tV (fD tW mh))) (fD (pX h8 (by show 2<=da;decide) (fD tV (fD tW mh))) (fD (pX h11 (by show 2<=da;decide) (fD tV (fD tW mh))) mh)))));obtain⟨_,⟨⟨_,_,kV,dc,pm,an,cd,ct,_,rfl,lL,cL⟩,kL⟩⟩:=j.fn;refine⟨wF1 "law" "law" (i9 uD) (fA uD) (dX uD) .none kV dc pm an cd ct,λs v=>.of_eq O,λbase _ _=>?_⟩;have o0:=uP (P:=l.prog) (w:=w) (base:=base) X G B a1;have o13:=s9 (P:=l.prog) (w:=w) (base:=base) X G B a2;have o1:=uR (P:=l.prog) (w:=w) (base:=base) X G B a3;have y:=BP (P:=l.prog) (w:=w) (base:=base) X G B a4;have o2:=uO (P:=l.prog) (w:=w) (base:=base) X G B a5 c0;have o3:=wK (P:=l.prog) (w:=w) (base:=base) X G B a6;have o4:=wJ (P:=l.prog) (w:=w) (base:=base) X G B a7;have L:=zr (P:=l.prog) (w:=w) (base:=base) X G B a8;have o34:=uY (P:=l.prog) (w:=w) (base:=base) X G B a9;have a:=tt (P:=l.prog) (w:=w) (base:=base) X G B a10;have o14:=tq (P:=l.prog) (w:=w) (base:=base) X G B a11;have o:=pu (P:=l.prog) (w:=w) (base:=base) X G B a12;have o7:=qz (P:=l.prog) (w:=w) (base:=base) X G B E;have o37:=uU (P:=l.prog) (w:=w) (base:=base) X G B a14;have o6:=tu (P:=l.prog) (w:=w) (base:=base) X G B a15;have o21:=uW (P:=l.prog) (w:=w) (base:=base) X G B a16;have m:=qB (P:=l.prog) (w:=w) (base:=base) X G B a17;have o8:=j3 (P:=l.prog) (w:=w) (base:=base) X G B a18;have F:=uQ X G B a19 o0;have o9:=wL X G B a20 o1;have o10:=BM X G B a21 o2;have H:=BO X G B W o3 o4;have c:=wM X G B a23 a;have b:=mI X G B r a;have g:=pv X G B N a;have k:=tz X G B a26 o6 o7;have o18:=kU X G B wq o8;have o23:=uS X G B a28 o9 o10;have u:=qy X G B U H;have o25:=tf X G B C F o13;have o40:=uT X G B p a o14 c b;have D:=nP X G B a32 a c o;have am:=tj X G B a33 a b;have o32:=uV X G B a34 a c;have o35:=uX X G B a35 o18 k m o21;have o38:=tm X G B V k m g;have o27:=sZ X G B a37 o23 u;have o28:=pq X G B a38 o25;have o39:=mH X G B a39 a b am;have o31:=sY X G B a40 o27;have o41:=pp X G B a41 o28 y L o31;have o33:=tw X G B ao a o32;exact H0 (P:=l.prog) (w:=w) (base:=base) X G B (CO lL cL kL) o33 o34 g a o35 D o37 o38 o39 o40 o41
def hnd(g m c:Int):Ob:=.lst [.int g,.int m,.int c]
def Iv(m c:Int):Int:=(m*40009+7368787*c+12345)%2305843009213693951
def wR(m c:Int):Int:=(Iv m c*(Iv m c%65537+101*c)+9973)%2305843009213693921
theorem LK{a b c:D}:vZ [a,b,c] 0=Z a:=by rfl
theorem Nj{a b c:D}:vZ [a,b,c] 1=Z b:=by rfl
theorem Ni{a b c:D}:vZ [a,b,c] 2=Z c:=by rfl
theorem Jg{T:dr}{g m c k:Int}(hg:0<g)(hk:0<k)(d:k<2^62):
  dy [.ref 0,.int k] (hnd g m c::T)=Z (.int (g%k),hnd (g/k) m c::T):=by
 have a:k<2^64:=by lia
 have b:k<18446744073709551616:=a;simp[dy,gH,fH,kk,dG,fg,mB,m2,b2,gU,mV,mC,dz,mS,CL,dQ,hnd,hg,hk,b,dH,gN,l9,pM,gS,b3,gJ,l8,ke,ee,LK,wX]
theorem Jf{T:dr}{g m c k:Int}(hg:¬ 0<g)(hk:0<k)(hc:0<=c)(e:c<2^60):
  dy [.ref 0,.int k] (hnd g m c::T)=Z (.int ((wR m (c+1)/4099+wR m (c+1)/2147483659)%k),hnd g (wR m (c+1)) (c+1)::T):=by
 have d:eR m 40009=M:=u8 (by decide) (by decide);have a:eR 7368787 (c+1)=M:=rK (by decide) (by decide);have b:eR 101 (c+1)=M:=rK (by decide) (by decide);have q:=Int.emod_lt_of_pos (m*40009+7368787*(c+1)+12345) (show(0:Int)<2305843009213693951 by decide);have h:=Int.emod_nonneg (m*40009+7368787*(c+1)+12345) (show(2305843009213693951:Int)≠0 by decide);have f:eR ((m*40009+7368787*(c+1)+12345)%2305843009213693951) ((m*40009+7368787*(c+1)+12345)%2305843009213693951%65537+101*(c+1))=M:=rK (by omega) (by omega);simp[dy,gH,fH,kk,dG,fg,mB,m2,b2,gU,mV,mC,dz,mS,CL,dQ,hnd,hg,hk,dH,gN,l9,pM,gS,b3,gJ,l8,ke,ee,LK,Nj,Ni,wX,kJ,eD,kf,d,a,b,f,Iv,wR]
def Hnd(o:Ob)(n:Nat):Prop:=∃g m c:Int,o=hnd g m c/\0<=c/\c<=n
theorem Hnd.und{o:Ob}{n k:Nat}(h:Hnd o n):o.und k=M:=by
 obtain⟨g,m,c,rfl,_⟩:=h;rfl
theorem Hnd.more{o:Ob}{n k:Nat}(h:Hnd o n)(hk:n<=k):Hnd o k:=by
 obtain⟨g,m,c,e,a,h1⟩:=h;exact⟨g,m,c,e,a,by lia⟩
theorem FU(ns:List Int)(k:Int)(h0:0<=k)(hk:k<64):∃g m,gk [.rol (ns.map D.int),.int k] []=Z (.ref 0,[hnd g m 0]):=by
 have j:eR (10^45) (10^45)=M:=by decide+kernel
 have e:eR 9973 k=M:=rK (by decide) (by decide);have c:eR (9973*k) k=M:=u8 (by omega) (by omega);have d:eR 17 k=M:=rK (by decide) (by decide);have h:eR 0 0=M:=rK (by decide) (by decide);have f:∀(x:Int) (b:Prop) [Decidable b],eR x (if b then 1 else 0)=M:=λx b _=>by
  split
  ·exact u8 (by decide) (by decide)
  ·exact u8 (by decide) (by decide)
 have lt:w8 (.int k) (.int ns.length) []=Z (.bl (decide (k<ns.length)),[]):=by rfl
 by_cases i:k<ns.length
 ·have a:vZ (ns.map D.int) k=some (.int (ns[k.toNat]'(by lia))):=by
   unfold vZ wX;rw[ak h0,ak (by simpa using i)];simp[show k.toNat<ns.length by lia]
  generalize l:ns[k.toNat]'(by lia)=x at a
  simp[gk,gH,fH,lH,dG,fg,mB,m2,b2,b1,mN,dn,dq,gU,mV,mC,dz,mS,CL,eA,dQ,dH,gN,l9,kf,eD,w5,ma,ee,eY,lt,i,a,e,c,d,f,da,hnd,kJ];simp[show eR 1000000000000000000000000000000000000000000000 1000000000000000000000000000000000000000000000=M from j,e,c,d,f]
 ·simp[gk,gH,fH,lH,dG,fg,mB,m2,b2,b1,mN,dn,dq,gU,mV,mC,dz,mS,CL,eA,dQ,dH,gN,l9,kf,eD,w5,ma,ee,eY,lt,i,e,c,d,f,da,hnd,kJ];simp[show eR 1000000000000000000000000000000000000000000000 1000000000000000000000000000000000000000000000=M from j,h,e,c,d,f]
theorem Ju(ns:List Int)(k:Int)(h0:0<=k)(hk:k<64):∃o,dv 2 gk [.rol (ns.map D.int),.int k] []=Z (.ref 0,[o])/\Hnd o 0:=by
 have a:=FU ns k h0 hk;obtain⟨g,m,e⟩:=a;refine⟨hnd g m 0,?_,_,_,_,O,Int.le_refl _,Int.le_refl _⟩;rw[kh (n:=2) e O (by rw[D.unds,D.und,mw];rfl) (by simp[D.und])];simp[D.sh,Ob.sh,D.shs,hnd]
def fh(U:dr):Prop:=U.all (Ob.und U.length)=M
structure HS (n:Nat)(B U:dr):Prop where
 len:B.length<=U.length
 pos:0<B.length
 same:∀i,i<B.length->0<i->U[i]?=B[i]?
 hand:∃o,U[0]?=some o/\Hnd o n
 shut:fh U
theorem HS.more{n n':Nat}{B U:dr}(s:HS n B U)(hn:n<=n'):HS n' B U:=by
 obtain⟨o,e,h⟩:=s.hand;exact⟨s.len,s.pos,s.same,⟨o,e,h.more hn⟩,s.shut⟩
theorem HS.self{n:Nat}{U:dr}{o:Ob}(e:U[0]?=Z o)(h:Hnd o n)(a:fh U):HS n U U:=
 ⟨nR1 _,(gE1.mp e).1,λ_ _ _=>rfl,⟨o,e,h⟩,a⟩
theorem HS.here{n:Nat}{B U:dr}(s:HS n B U):HS n U U:=by
 obtain⟨o,e,h⟩:=s.hand;exact .self e h s.shut
theorem HS.trans{n n':Nat}{B U V:dr}(a:HS n B U)(b:HS n' U V):HS n' B V:=
 ⟨aC a.len b.len,a.pos,λi hi h1=>(b.same i (nL1 hi a.len) h1).trans (a.same i hi h1),b.hand,b.shut⟩
theorem HS.at{n:Nat}{B U:dr}(s:HS n B U){i:Nat}{o:Ob}(e:B[i]?=Z o)(h1:0<i):U[i]?=Z o:=by
 rw[s.same i (gE1.mp e).1 h1];exact e
theorem oK{U:dr}{G:dr}(s:fh U)(hg:∀o∈G,o.und (U++G).length=M):fh (U++G):=by
 unfold fh at *
 rw[cM,bA1];rw[bH]at s;refine⟨bH.mpr λo a=>gC (by rw[lA1];lia) (s o a),bH.mpr hg⟩
theorem lP{U:dr}{i:Nat}{o:Ob}(s:fh U)(ho:o.und U.length=M):fh (U.set i o):=by
 unfold fh at *
 rw[aX,bH]at *
 intro x a;rcases List.mem_or_eq_of_mem_set a with z|z
 ·exact s x z
 ·rw[z];exact ho
theorem HS.app{n:Nat}{B U G:dr}(s:HS n B U)(hg:∀o∈G,o.und (U++G).length=M):HS n B (U++G):=by
 obtain⟨o,e,h⟩:=s.hand;have a:=s.len;refine⟨by rw[lA1];lia,s.pos,λi hi h1=>?_,⟨o,?_,h⟩,oK s.shut hg⟩
 ·rw[gL1 (by lia)];exact s.same i hi h1
 ·rw[gL1 (gE1.mp e).1];exact e
theorem HS.app1{n:Nat}{B U:dr}{o:Ob}(s:HS n B U)(hg:o.und 0=M):HS n B (U++[o]):=
 s.app λx a=>by rw[cN.mp a];exact gC (br _) hg
theorem HS.set{n i:Nat}{B U:dr}{o:Ob}(s:HS n B U)(hi:B.length<=i)(ho:o.und U.length=M):HS n B (U.set i o):=by
 obtain⟨o',e,h⟩:=s.hand;have h1:=s.pos;refine⟨by rw[aX];exact s.len,s.pos,λj b a=>?_,⟨o',?_,h⟩,lP s.shut ho⟩
 ·rw[gS1 (by lia)];exact s.same j b a
 ·rw[gS1 (by lia)];exact e
theorem draw_W{n:Nat}{B U:dr}{k:Int}{Q:D×dr->Prop}(s:HS n B U)(hn:n<=2^50)(hk:0<k)(b:k<2^62)(q:∀(d:Nat) U',HS (n+1) B U'->HS (n+1) U U'->U'.length=U.length->(d:Int)<k->Q (.int d,U')):W (dv 2 dy [.ref 0,.int k] U) Q:=by
 obtain⟨o,e,g,m,c,rfl,l,h1⟩:=s.hand;obtain⟨T,rfl⟩:∃T,U=hnd g m c::T:=by
  cases U with
  |nil=>cases e
  |cons a T=>cases e;exact⟨T,O⟩
 have call:∀d o',dy [.ref 0,.int k] (hnd g m c::T)=Z (d,o'::T)->dv 2 dy [.ref 0,.int k] (hnd g m c::T)=Z (d,o'::T):=λd o e=>Ah e O (by simp[D.unds,D.und]) (by simp);have p:∀o':Ob,Hnd o' (n+1)->HS (n+1) (hnd g m c::T) (o'::T):=λo' h=>by
  refine⟨nR1 _,by simp,λi hi r=>?_,⟨o',O,h⟩,?_⟩
  ·cases i with
   |zero=>lia
   |succ i=>rfl
  ·have:=s.shut;unfold fh at *
   rw[bS,bA1]at *
   exact⟨h.und,this.2⟩
 by_cases j:0<g
 ·have f:=Int.emod_nonneg g (show k≠0 by lia);obtain⟨d,e⟩:=Int.eq_ofNat_of_zero_le f;refine⟨_,call _ _ (Jg j hk b),?_⟩;rw[e];have u:=p (hnd (g/k) m c) ⟨_,_,_,O,l,by lia⟩;exact q d _ (s.trans u) u O (by rw[<- e];exact Int.emod_lt_of_pos _ hk)
 ·have f:=Int.emod_nonneg (wR m (c+1)/4099+wR m (c+1)/2147483659) (show k≠0 by lia);obtain⟨d,e⟩:=Int.eq_ofNat_of_zero_le f;refine⟨_,call _ _ (Jf j hk l (by lia)),?_⟩;rw[e];have u:=p (hnd g (wR m (c+1)) (c+1)) ⟨_,_,_,O,by lia,by push_cast;lia⟩;exact q d _ (s.trans u) u O (by rw[<- e];exact Int.emod_lt_of_pos _ hk)
theorem p8{n c c':Nat}{f:FN}{ds:List D}{B U:dr}{Q:D×dr->Prop}(hn:ds.length=n)(l:D.unds 0 ds=J)(s:HS c B U)(q:W (f ds U) λp=>HS c' U p.2/\p.1.und 0=M /\ ∀g,HS c' B g->HS c' U g->g.length=U.length->Q (p.1,g)):W (dv n f ds U) Q:=by
 refine jR hn l (q.mono ?_);rintro⟨d,V⟩ ⟨v,j,q⟩;dsimp only at v j q;have m:=v.len;have r:=v.pos;have tl:(V.take U.length).length=U.length:=by rw[aR];lia
 obtain⟨o,e,h⟩:=v.hand;have get:∀i,i<U.length->(V.take U.length)[i]?=V[i]?:=λi hi=>by rw[aT hi]
 have sh:(V.take U.length).all (Ob.und U.length)=M:=by
  rw[bH];intro x k;obtain⟨i,hi⟩:=bB k;have b:i<U.length:=by rw[<- tl];exact(gE1.mp hi).1
  rw[get i b]at hi;by_cases a:i=0
  ·subst a;rw[e]at hi;cases hi;exact h.und
  ·rw[v.same i b (by lia)]at hi;have:=s.shut;unfold fh at this;rw[bH]at this;exact this x (gM1 hi)
 have u:HS c' U (V.take U.length):=by
  refine⟨by rw[tl];lia,v.pos,λi hi a=>by rw[get i hi];exact v.same i hi a,⟨o,by rw[get 0 (by lia)];exact e,h⟩,?_⟩;unfold fh;rw[tl];exact sh
 have e:gc U.length (d,V)=(d,V.take U.length):=by
  unfold gc;dsimp only;rw[ak (by rw[e6 j,sh];rfl)]
 rw[e];exact q _ (s.trans u) u tl
theorem KL{c r:Nat}{B U:dr}{xs:List D}{Q:D×dr->Prop}(s:HS c B U)(hc:c<=2^45)(hr:U[r]? = Z (.lst xs))(h:0<r)(n:xs.length<=100000)(k:0<xs.length)(hx:∀ x∈xs,x.und 0=M)(q:∀x f,x∈xs->HS (c+1) B f->HS (c+1) U f->f.length=U.length->Q (x,f)):W (dv 2 fr [.ref 0,.ref r] U) Q:=by
 refine p8 (c':=c+1) O O s ?_;unfold fr;refine jg ?_;unfold mY;walk_at"w";refine eh hr ?_;dsimp only;refine draw_W s.here (by lia) (by lia) (by lia) λj f h1 h2 l m=>?_;have d:j<xs.length:=by lia
 refine nK (i:=j) (h2.at hr h) (gG1 d) ?_;exact⟨h2,hx _ (bV d),λg a b e=>q _ g (bV d) a b e⟩
theorem pT:∀{xs:List D} {i:Nat} (h:i<xs.length),(xs[i]::xs.eraseIdx i).Perm xs
 |x::xs,0,h=>List.Perm.refl _
 |x::xs,i+1,h=>by
  have:=pT (xs:=xs) (i:=i) (by simpa using h);rw[List.eraseIdx_cons_succ,List.getElem_cons_succ];exact(List.Perm.swap _ _ _).trans (this.cons x)
theorem AF{c:FT}{b:FS}{Q:Fl×Ev×dr->Prop}(I:Nat->Ev->dr->Prop)(step:∀k r S,I k r S->W (c r S) fun p=>if p.1=true then 0<k/\W (b r p.2) fun q=>q.1 = .nx/\I (k-1) q.2.1 q.2.2 else Q (.nx,r,p.2)):
  ∀(fuel k:Nat) (r:Ev) (S:dr),k<fuel->I k r S->W (ui c b fuel r S) Q
 |0,k,r,S,hf,_=>by lia
 |fuel+1,k,r,S,hf,hi=>by
  rw[ui];dsimp only;rw[dw];obtain⟨⟨t,l⟩,e,h⟩:=step k r S hi;refine⟨_,e,?_⟩;dsimp only at h ⊢;cases t with
  |true=>
   rw[ak O]at h ⊢;obtain⟨m,⟨f,j,g⟩,i,a,d⟩:=h;dsimp only at a d;subst a;rw[i,oS1];exact AF I step fuel (k-1) j g (by lia) d
  |false=>
   rw[aj (by decide)]at h ⊢;exact dA.mpr h
inductive SH (c n:Nat)(xs:List D)(U:dr)(r0:Nat)(k:Nat)(r:Ev)(S:dr):Prop where
 |mk (left found:List D) (h1:HS (c+(n-k)) U S) (h2:S[U.length]?=some (.lst left)) (h3:S[U.length+1]?=some (.lst found)) (h4:(found++left).Perm xs) (h5:left.length=k)
  (h6:r=[some (.ref 0),some (.ref r0),some (.ref U.length),some (.ref (U.length+1))]):SH c n xs U r0 k r S
theorem jh{n:Nat}:∀{xs:List D},D.unds n xs=M ↔ ∀x∈xs,x.und n=M
 |[]=>by simp[D.unds]
 |x::xs=>by rw[D.unds,bA1,jh (xs:=xs)];simp
theorem wx{c r:Nat}{B U:dr}{xs:List D}{Q:D×dr->Prop}(s:HS c B U)(hc:c<=2^45)(hr:U[r]? = Z (.lst xs))(T:xs.length<=100)(hx:D.unds 0 xs=M)(q:∀k ys e,HS (c+xs.length) B e->HS (c+xs.length) U e->U.length<=k->e[k]?=Z (.lst ys)->ys.Perm xs->Q (.ref k,e)):W (dv 2 ej [.ref 0,.ref r] U) Q:=by
 refine jR O O ?_;unfold ej;refine jg ?_;unfold jT;have L:=s.here;refine d1 (λl S=>S=U++[.lst xs,.lst []]/\l=[Z (.ref 0),Z (.ref r),Z (.ref U.length),Z (.ref (U.length+1))]) ?_ ?_
 ·wp_walk using nT,fQ hr
 rintro l S ⟨rfl,rfl⟩;have nd:∀{ys zs:List D},(ys++zs).Perm xs->D.unds 0 ys=M/\D.unds 0 zs=M:=λ{ys zs} p=>by
  have h:=jh.mp hx;exact⟨jh.mpr λx h1=>h x (p.mem_iff.mp (aG _ h1)),jh.mpr λx h1=>h x (p.mem_iff.mp (mA1 _ h1))⟩
 refine d1 (λl S=>SH c xs.length xs U r 0 l S) ?_ ?_
 ·refine AF (SH c xs.length xs U r) ?_ 100000 xs.length _ _ (by lia) ⟨xs,[],?_,by rw[dL];rfl,by rw[gF];rfl,.refl _,O,O⟩
  ·rintro k l S ⟨a,b,h1,h2,n,g,t,rfl⟩;obtain ⟨am,P⟩:=nd g;have K:a.length<=xs.length/\b.length+a.length=xs.length:=by
    have:=g.length_eq;rw[lA1]at this;lia
   have ao:=h1.len;have w:=(gE1.mp n).1;have d:∀o,(S++[o])[U.length]?=Z (.lst a):=λo=>by rw[gL1 (by lia)];exact h2
   have i:∀o,(S++[o])[U.length+1]?=Z (.lst b):=λo=>by rw[gL1 w];exact n
   unfold i7;walk_at"w";rw[yw (d _) (by rw[cO])];walk_at"w";have H:(!a.isEmpty)=decide (0<k):=by
    rw[<- t];cases a<;>simp
   rw[H];by_cases E:0<k
   ·rw[ak (by rw[al];exact E)];refine⟨E,?_⟩;unfold i6 fj;rw[dw];refine kl ?_;walk_at"w";refine⟨_,_,O,i _,?_⟩;refine kl ?_;walk_at"w";refine⟨_,_,O,d _,?_⟩
    try walk_at"w"
    refine eh (d _) ?_;dsimp only;refine draw_W (h1.app1 (o:=.lst []) O) (by lia) (by lia) (by lia) λj e a1 a2 a3 R=>?_;have f:j<a.length:=by lia
    try walk_at"w"
    have G:=s.pos;have C:0<U.length:=by have:=s.len;lia
    refine JD (a2.at (d _) C) (gG1 f) (by lia) ?_;have b3:(e.set U.length (.lst (a.eraseIdx j)))[U.length+1]?=Z (.lst b):=by
     rw[gS1 (by lia)];exact a2.at (i _) (by lia)
    have A:U.length+1<e.length:=by rw[a3,lA1];lia
    have N:=pT f;have m:(b++[a[j]]++a.eraseIdx j).Perm xs:=by
     rw[bf];exact(List.Perm.append_left b N).trans g
    obtain⟨u,y⟩:=nd m;refine(ls b3).mpr ⟨dB (by lia),?_⟩;refine SH.mk (a.eraseIdx j) (b++[a[j]]) ?_ ?_ ?_ m (by rw[cp f];lia) O
    ·refine((HS.more (n':=c+(xs.length-(k-1))) a1 (by lia)).set (nR1 _) (by rw[Ob.und];exact fm y)).set (by lia) (by rw[Ob.und];exact fm u)
    ·rw[gS1 (by lia),aH (by lia)]
    ·rw[aH (by rw[aX];exact A)]
   ·rw[aj (by rw[al];exact E)];have F:k=0:=by lia
    subst F;exact⟨a,b,h1.app1 O,d _,i _,g,t,O⟩
  ·rw[cP,Nat.add_zero];refine L.app λo I=>?_;rcases aE.mp I with z|z
   ·rw[z,Ob.und];exact fm hx
   ·rw[cN.mp z];rfl
 rintro l S ⟨a,b,h1,h2,n,g,t,rfl⟩;walk_at"w";have v:a=[]:=List.eq_nil_of_length_eq_zero t;subst v;rw[aN]at g;have au:gc U.length (.ref (U.length+1),S)=(.ref (U.length+1),S):=by
  unfold gc;rw[aj];simp[D.und];intro z;lia
 rw[au];exact q _ b S ((s.trans h1).more (by lia)) (h1.more (by lia)) (by lia) n g
abbrev dD:=List (List (Nat×Nat))
structure EW (b m:Nat)(E:dD)(U:dr):Prop where
 el:E.length=m
 row:∀(i:Nat) (row:List (Nat×Nat)),E[i]?=some row->U[b+i]?=some (fq row)
 ends:U[b+m]?=some (.lst (jb b m))
theorem EW.over{n b m:Nat}{E:dD}{U V:dr}(e:EW b m E U)(s:HS n U V)(d:0<b):EW b m E V:=
 ⟨e.el,λi a c=>s.at (e.row i a c) (by lia),s.at e.ends (by lia)⟩
theorem EW.setRow{b m i:Nat}{E:dD}{U:dr}{row:List (Nat×Nat)}(w:EW b m E U)(hi:i<m):EW b m (E.set i row) (U.set (b+i) (fq row)):=by
 have c:b+m<U.length:=(gE1.mp w.ends).1;refine⟨by rw[aX];exact w.el,λj a h=>?_,by rw[gS1 (by lia)];exact w.ends⟩;by_cases e:i=j
 ·subst e;rw[aH (by rw[w.el];exact hi)]at h;cases h;rw[aH (by lia)]
 ·rw[gS1 e]at h;rw[gS1 (by lia)];exact w.row j a h
theorem ud{b m i:Nat}{E:dD}{U:dr}{Q:D×dr->Prop}(w:EW b m E U)(hi:i<m)(q:Q (.ref (b+i),U)):W (dz (.ref (b+m)) (.int i) U) Q:=
 nK (xs:=jb b m) (x:=.ref (b+i)) w.ends (lT hi) q
theorem rX:∀E:dD,l5 (E.map λa=>D.int (a.length:Nat))=Z (E.map λa=>((a.length:Nat):Int))
 |[]=>rfl
 |r::E=>by rw[mP1,mP1,l5,rX E];rfl
theorem ux:∀E:dD,(E.map λa=>((a.length:Nat):Int)).sum=((Mi.tot E:Nat):Int)
 |[]=>rfl
 |r::E=>by
  have:=ux E;unfold Mi.tot at *
  rw[mP1,mP1,List.sum_cons,List.sum_cons,this]
  push_cast;rfl
theorem JA{E:dD}{S:dr}{n:Nat}{Q:D×dr->Prop}(h:S[n]?=Z (.lst (E.map λa=>D.int (a.length:Nat))))(q:Q (.int (Mi.tot E:Nat),S)):W (vp (.ref n) S) Q:=by
 refine W.of ?_ q;unfold vp;rw[fQ h];dsimp only;rw[rX,oS1,ux]
theorem LO{g:G1}{m:FE}{r:Ev}{S:dr}{Q:D×dr->Prop}(h:W (m r S) λp=>W (g p.1 p.2) Q):W (mN (b1 g) (dn m dq) r S) Q:=by
 unfold mN dn dq;rw[dw,dw];refine h.mono ?_;rintro⟨d,a⟩ q;walk_at"w";exact q
theorem yW{b m i:Nat}{E:dD}{U G:dr}{Q:D×dr->Prop}(w:EW b m E U)(hi:i<m)(q:Q (.ref (b+i),U++G)):W (dz (.ref (b+m)) (.int i) (U++G)) Q:=
 nK (xs:=jb b m) (x:=.ref (b+i)) (by rw[gL1 (gE1.mp w.ends).1];exact w.ends) (lT hi) q
theorem Cr{b m a c e:Nat}{E:dD}{U:dr}{Q:D×dr->Prop}(L:fh U)(w:EW b m E U)(ht:Mi.tot E=2*e)(ha:a<m)(hc:c<m)(hm:m<=8){f:List (Nat×Nat)}(p:E[a]? = some f)(au:f.length<=8)(H:∀ rb,E[c]? = some rb->rb.length<=8)(q:∀rb,(E.set a (f++[(e,0)]))[c]?=some rb->Q (.non,(U.set (b+a) (fq (f++[(e,0)]))).set (b+c) (fq (rb++[(e,1)])))):
  W (dv 3 gu [.ref (b+m),.int a,.int c] U) Q:=by
 have am:b+m<U.length:=(gE1.mp w.ends).1;refine jR O O ?_;unfold gu;refine jg ?_;unfold nH;have C:∀S,vq (.int ((Mi.tot E:Nat):Int)) (.int 2) S=Z (.int (e:Nat),S):=λS=>by
  simp only[vq];rw[ak ⟨by lia,by lia⟩,ht]
  congr 3
  push_cast;lia
 refine d1 (λr S=>S=U++[.lst (E.map λrow=>D.int (row.length:Nat))]/\r=[Z (.ref (b+m)),Z (.int a),Z (.int c),Z (.int (e:Nat))]) ?_ ?_
 ·walk_at"w";refine eh w.ends ?_;refine iB (λi n r S=>S=U/\n=(E.take i).map (λrow=>D.int (row.length:Nat)) /\ ∃x,r=[x]) (jb b m) 0 [] _ _ ⟨O,by simp,_,O⟩ (λi n r S h=>by rw[h.1];exact fR w.ends) ?_ ?_
  ·rintro i d u n r S ⟨rfl,rfl,x,rfl⟩;have l:=(gE1.mp u).1;rw[jm]at l;rw[lT l]at u;cases u;rw[bQ];obtain⟨row,k⟩:∃row,E[i]?=some row:=⟨_,gG1 (by rw[w.el];exact l)⟩;walk_at"w";refine eh (xs:=row.map pD) (w.row i row k) ?_;rw[cj,k];simp
  ·rintro xs r S ⟨rfl,F,x,rfl⟩;rw[bi,bQ,jm,<- w.el,b0]at F;subst F;walk_at"w";refine⟨dB (by rw[lM1,w.el];lia),?_⟩;refine JA (E:=E) (by rw[dL];rfl) ?_
   wp_walk using C
 rintro r S ⟨rfl,rfl⟩;generalize ao:Ob.lst (E.map λrow=>D.int (row.length:Nat))=lens;have I:lens.und U.length=M:=by rw[<- ao,Ob.und];exact dW λ_ _=>rfl
 have s:=w.setRow (row:=f++[(e,0)]) ha;have j:∀(V:dr) (i:Nat) (o:Ob),V[i]?=Z o->(V++[lens])[i]?=Z o:=λV i o h=>by rw[gL1 (gE1.mp h).1];exact h
 have st:∀(V:dr) (i:Nat) (o:Ob),i<V.length->(V++[lens]).set i o=V.set i o++[lens]:=λV i o h=>by rw[List.set_append_left _ _ h]
 have y:b+a<U.length:=(gE1.mp (w.row a f p)).1;refine d1 (λr S=>S=U.set (b+a) (fq (f++[(e,0)]))++[lens]/\r=[Z (.ref (b+m)),Z (.int a),Z (.int c),Z (.int (e:Nat))]) ?_ ?_
 ·unfold fj;rw[dw];refine kl ?_;walk_at"w";refine yW w ha ?_;refine⟨b+a,f.map pD,O,j _ _ _ (w.row a f p),?_⟩;walk_at"w";refine(ls (xs:=f.map pD) (j _ _ _ (w.row a f p))).mpr ⟨dB (by rw[lM1];lia),?_⟩;have t:(f.map pD++[D.tup [D.int ↑e,D.int 0]])=(f++[(e,0)]).map pD:=by simp[pD]
  rw[t,st _ _ _ y];trivial
 rintro r S ⟨rfl,rfl⟩;obtain⟨rb,g⟩:∃rb,(E.set a (f++[(e,0)]))[c]?=some rb:=⟨_,gG1 (by rw[s.el];exact hc)⟩;have N:rb.length<=10:=by
  by_cases z:a=c
  ·subst z;rw[aH (by rw[w.el];exact ha)]at g;cases g;simp;lia
  ·rw[gS1 z]at g;have:=H rb g;lia
 have B:b+c<(U.set (b+a) (fq (f++[(e,0)]))).length:=(gE1.mp (s.row c rb g)).1;unfold fj;rw[dw];refine kl ?_;walk_at"w";refine yW s hc ?_;refine⟨b+c,rb.map pD,O,j _ _ _ (s.row c rb g),?_⟩;walk_at"w";refine(ls (xs:=rb.map pD) (j _ _ _ (s.row c rb g))).mpr ⟨dB (by rw[lM1];lia),?_⟩;have t:(rb.map pD++[D.tup [D.int ↑e,D.int 1]])=(rb++[(e,1)]).map pD:=by simp[pD]
 rw[t,st _ _ _ B];have A:((U.set (b+a) (fq (f++[(e,0)]))).set (b+c) (fq (rb++[(e,1)]))).all (Ob.und U.length)=M:=by
  have:=lP (i:=b+c) (o:=fq (rb++[(e,1)])) (lP (i:=b+a) (o:=fq (f++[(e,0)])) L iE) iE;unfold fh at this;rw[aX,aX]at this;exact this
 have K:gc U.length (.non,(U.set (b+a) (fq (f++[(e,0)]))).set (b+c) (fq (rb++[(e,1)]))++[lens])=(.non,(U.set (b+a) (fq (f++[(e,0)]))).set (b+c) (fq (rb++[(e,1)]))):=by
  have v:((U.set (b+a) (fq (f++[(e,0)]))).set (b+c) (fq (rb++[(e,1)]))++[lens]).take U.length=(U.set (b+a) (fq (f++[(e,0)]))).set (b+c) (fq (rb++[(e,1)])):=by
   rw[cG (by simp),b7 (by simp)]
  unfold gc;dsimp only;rw[v,ak (by rw[A];rfl)]
 have G:=q rb g;rw[<- K]at G;exact G
def q9:Nat->List (Nat×Nat)
 |0=>[]
 |e+1=>(e,1)::(e,0)::q9 e
theorem vS:∀e,(q9 e).length=2*e
 |0=>rfl
 |e+1=>by rw[q9,lC1,lC1,vS e];lia
theorem hV:∀{e:Nat} {x:Nat×Nat},x∈q9 e↔x.1<e/\x.2<=1
 |0,x=>by simp[q9]
 |e+1,x=>by
  rw[q9,aE,aE,hV (e:=e)];obtain⟨a,b⟩:=x;simp only[Prod.mk.injEq];lia
theorem lC:∀e,(q9 e).Nodup
 |0=>bA
 |e+1=>by
  rw[q9,aO,aO];refine⟨λh=>?_,λh=>?_,lC e⟩
  ·rcases aE.mp h with h|h
   ·simp at h
   ·have:=(hV.mp h).1;simp at this
  ·have:=(hV.mp h).1;simp at this
theorem pQ:∀{E:dD} {i:Nat} {row:List (Nat×Nat)} {x:Nat×Nat},E[i]?=Z row->(E.set i (row++[x])).flatten.Perm (x::E.flatten)
 |[],i,_,_,h=>by simp at h
 |a::E,0,row,x,h=>by
  simp at h;subst h;rw[List.set_cons_zero,a0,a0,bf];exact cq
 |a::E,i+1,row,x,h=>by
  have:=pQ (E:=E) (i:=i) (row:=row) (x:=x) (by simpa using h);rw[List.set_cons_succ,a0,a0];exact(List.Perm.append_left a this).trans cq
structure DI (m:Nat)(E:dD)(e:Nat):Prop where
 len:E.length=m
 all:E.flatten.Perm (q9 e)
 le:∀(i:Nat) (row:List (Nat×Nat)),E[i]?=some row->row.length<=4
theorem DI.start(m:Nat):DI m (aP m []) 0:=by
 refine⟨by simp,by simp[q9],λi a h=>?_⟩;rw[aS]at h;split at h
 ·cases h;simp
 ·cases h
theorem DI.tot{m:Nat}{E:dD}{e:Nat}(d:DI m E e):Mi.tot E=2*e:=by
 unfold Mi.tot;rw[<- List.length_flatten,d.all.length_eq,vS]
theorem DI.join{m a c e:Nat}{E:dD}{f h:List (Nat×Nat)}(d:DI m E e)(ha:E[a]? = some f)(l:f.length<4)(hb:(E.set a (f++[(e,0)]))[c]? = some h)(k:h.length<4):
  DI m ((E.set a (f++[(e,0)])).set c (h++[(e,1)])) (e+1):=by
 refine⟨by rw[aX,aX];exact d.len,?_,λj g b=>?_⟩
 ·exact(pQ hb).trans (((pQ ha).trans (d.all.cons _)).cons _)
 ·by_cases z:c=j
  ·subst z;rw[aH (gE1.mp hb).1]at b;cases b;simp;lia
  ·rw[gS1 z]at b;by_cases i:a=j
   ·subst i;rw[aH (gE1.mp ha).1]at b;cases b;simp;lia
   ·rw[gS1 i]at b;exact d.le j g b
theorem GW{n b m i:Nat}{most:Int}{am U:dr}{E:dD}{Q:Fl×Ev×dr->Prop}(s:HS n am U)(hb:am.length=b)(hn:n<=2^44)(w:EW b m E U)(d:DI m E i)(hi:i+1<m)(hm:m<=8)(he:∀(j:Nat) (row:List (Nat×Nat)),i+1<=j->E[j]?=some row->row=[])(q:∀V K,HS (n+1) am K->EW b m V K->DI m V (i+1)->(∀(j:Nat) (row:List (Nat×Nat)),i+2<=j->V[j]?=some row->row=[]) ->
   Q (.nx,[Z (.ref 0),Z (.int most),Z (.int m),Z (.ref (b+m)),Z (.int ((i+1:Nat):Int)),Y,Y,Y,Y,Y,Y,Y,Y],K)):
  W (iz [Z (.ref 0),Z (.int most),Z (.int m),Z (.ref (b+m)),Z (.int ((i+1:Nat):Int)),Y,Y,Y,Y,Y,Y,Y,Y] U) Q:=by
 have hbl:=s.len;have hp:=s.pos;have g:∀j,j<m -> ∃row,E[j]?=Z row:=λj p=>⟨_,gG1 (by rw[d.len];exact p)⟩
 let k:Nat->Bool:=λj=>decide ((E.getD j []).length<4)
 unfold iz fj;rw[dw];simp(implicitDefEqProofs:=J) only[mN,dn,mV,gC1,cK,dq,oS1,dA,dw,fc,jv,NC,mP1,Option.join_some,bj,bt,bi,nL,Bi];rw[jP,Int.toNat_natCast];refine⟨gG (by lia),?_⟩;refine iC k (λj:Nat=>.int j) (λr=>∃x,r=[x,Z (.ref (b+m))]) O (af (i+1)) _ ⟨_,O⟩ ?_ ?_
 ·rintro j p r ⟨x,rfl⟩;have t:j<m:=by have:=aB.mp p;lia
  obtain⟨row,f⟩:=g j t;walk_at"w";refine ud w t ?_;walk_at"w";refine eh (xs:=row.map pD) (w.row j row f) ?_;walk_at"w";refine⟨?_,⟨_,O⟩,λ_=>trivial⟩;simp only[k,bM,f,cB,lM1];rw[bT,al,al];lia
 ·rintro r' _;walk_at"w";have F:(List.range (i+1)).filter k≠[]:=by
   intro z;have v:∀(j:Nat) (row:List (Nat×Nat)),j<i+1->E[j]?=Z row->4<=row.length:=λj row p hr=>by
    have:=List.filter_eq_nil_iff.mp z j (aB.mpr p);simp only[k,bM,hr,cB,al]at this;lia
   have:=AS (E:=E) (k:=i+1) (by rw[d.len];lia) v;have:=d.tot;lia
  generalize hL:(af (i+1)).filter k=L at F;have T:∀j∈L,j<i+1/\k j=M:=λj p=>by
   rw[<- hL,aA]at p;exact⟨aB.mp p.1,p.2⟩
  have hLl:L.length<=8:=by
   rw[<- hL];have:=cQ k (af (i+1));simp at this;lia
  refine⟨dB (by rw[lM1];lia),?_⟩;have aq:(Ob.lst (L.map λj:Nat=>D.int j)).und 0=M:=by rw[Ob.und];exact Mi.dW λ_ _=>rfl
  have s1:HS n am (U++[.lst (L.map λj:Nat=>D.int j)]):=s.app1 aq;have S:HS n U (U++[.lst (L.map λj:Nat=>D.int j)]):=s.here.app1 aq;refine KL s1 (by lia) (xs:=L.map λj:Nat=>D.int j) (by rw[dL];rfl) (by lia) (by rw[lM1];lia) (by rw[lM1];exact List.length_pos_iff.mpr F) (λx au=>by obtain⟨y,_,rfl⟩:=ci.mp au;rfl) λx U2 au X P l2=>?_;obtain⟨j,p,rfl⟩:=ci.mp au;obtain⟨hj1,C⟩:=T j p;obtain⟨row,f⟩:=g j (by lia);have N:row.length<4:=by
   simp only[k,bM,f,cB,al]at C;exact C
  obtain⟨ao,u⟩:=g (i+1) hi;have H:=he (i+1) ao (nR1 _) u;subst H;have wq:EW b m E U2:=(w.over S (by lia)).over P (by lia);have A:j≠i+1:=by lia
  walk_at"w";refine Cr (a:=j) (c:=i+1) (e:=i) X.shut wq d.tot (by lia) hi hm f (by lia) (λao h=>by have:=d.le _ ao h;lia) λR l=>?_;have I:R=[]:=by
   rw[gS1 A,u]at l;cases l;rfl
  subst I;have w3:=(wq.setRow (row:=row++[(i,0)]) (show j<m by lia)).setRow (row:=[]++[(i,1)]) hi;have s3:=(X.set (i:=b+j) (o:=fq (row++[(i,0)])) (by lia) iE).set (i:=b+(i+1)) (o:=fq ([]++[(i,1)])) (by lia) iE;refine q _ _ s3 w3 (d.join f N l (by simp)) λj' G t B=>?_;rw[gS1 (by lia),gS1 (by lia)]at B;exact he j' G (by lia) B
theorem Ir{n b m e:Nat}{most:Int}{A U:dr}{E:dD}{B y X T:Option D}{Q:Fl×Ev×dr->Prop}(s:HS n A U)(hb:A.length=b)(hn:n<=2^44)(w:EW b m E U)(d:DI m E e)(he:e<=100)(wq:0<m)(hm:m<=8)(q:∀ao F L G K,HS (n+2) A F->EW b m ao F->DI m ao L->L<=e+1 ->
   Q (.nx,[Z (.ref 0),Z (.int most),Z (.int m),Z (.ref (b+m)),B,y,G,K,Y,Y,Y,Y,Y],F)):
  W (iy [Z (.ref 0),Z (.int most),Z (.int m),Z (.ref (b+m)),B,y,X,T,Y,Y,Y,Y,Y] U) Q:=by
 have hbl:=s.len;have hp:=s.pos;have g:∀j,j<m -> ∃row,E[j]?=Z row:=λj au=>⟨_,gG1 (by rw[d.len];exact au)⟩;unfold iy;refine d1 (λr V=>∃(a c:Nat),a<m/\c<m/\HS (n+2) A V/\EW b m E V/\r=[Z (.ref 0),Z (.int most),Z (.int m),Z (.ref (b+m)),B,y,Z (.int (a:Nat)),Z (.int (c:Nat)),Y,Y,Y,Y,Y]) ?_ ?_
 ·walk_at"w";refine draw_W s (by lia) (by lia) (by lia) λa U1 aq I l1 C=>?_;walk_at"w";refine draw_W aq (by lia) (by lia) (by lia) λc U2 u H l2 hc=>?_;walk_at"w";exact⟨a,c,by lia,by lia,u,(w.over I (by lia)).over H (by lia),O⟩
 rintro r V ⟨a,c,C,hc,u,t,rfl⟩;obtain⟨p,k⟩:=g a C;obtain⟨am,x⟩:=g c hc;have N:((a:Int) == (c:Int))=decide (a=c):=by
  rw[bT,beq_iff_eq,al];lia
 have ei:(if decide (a=c)=M then(1:Int)else 0)=((if a=c then 1 else 0:Nat):Int):=by
  by_cases z:a=c<;>simp[z]
 have l:Q (.nx,[Z (.ref 0),Z (.int most),Z (.int m),Z (.ref (b+m)),B,y,Z (.int (a:Nat)),Z (.int (c:Nat)),Y,Y,Y,Y,Y],V):=q E V e _ _ u t d (by lia);walk_at"w";refine ud t C ?_;walk_at"w";refine eh (xs:=p.map pD) (t.row a p k) ?_
 wp_walk using N
 rw[ei,lM1];by_cases c1:p.length+(if a=c then 1 else 0)<4
 ·rw[ak (by rw[al];lia)];refine ud t hc ?_;walk_at"w";refine eh (xs:=am.map pD) (t.row c am x) ?_;walk_at"w";rw[lM1];by_cases c2:am.length<4
  ·rw [if_pos (by rw [decide_eq_true_eq];lia)];refine Cr (a:=a) (c:=c) (e:=e) u.shut t d.tot C hc hm k (by have:=d.le a p k;lia) (fun v h=>by have:=d.le _ v h;lia) fun v f=>?_;have S:v.length<4:=by
    by_cases z:a=c
    ·subst z;rw[aH (by rw[d.len];lia)]at f;cases f;rw[ak O]at c1;simp;lia
    ·rw[gS1 z,x]at f;cases f;lia
   have la:p.length<4:=by split at c1<;>lia
   have P:=(t.setRow (row:=p++[(e,0)]) (show a<m by lia)).setRow (row:=v++[(e,1)]) (show c<m by lia);have R:=(u.set (i:=b+a) (o:=fq (p++[(e,0)])) (by lia) iE).set (i:=b+c) (o:=fq (v++[(e,1)])) (by lia) iE;exact q _ _ (e+1) _ _ R P (d.join k la f S) (by lia)
  ·rw[aj (by rw[al];lia)];exact l
 ·rw[aj (by rw[al];lia)]
  try walk_at"w"
  exact l
def At(R:dD)(r d:Nat)(x:Nat×Nat):Prop:=∃row,R[r]?=Z row/\row[d]?=Z x
theorem At.mem{R:dD}{r d:Nat}{x:Nat×Nat}(h:At R r d x):x∈R.flatten:=by
 obtain⟨a,h1,h2⟩:=h;exact cR.mpr ⟨a,gM1 h1,gM1 h2⟩
theorem Al{R:dD}{x:Nat×Nat}(h:x∈R.flatten):∃p:Nat×Nat,At R p.1 p.2 x:=by
 obtain⟨a,h1,h2⟩:=cR.mp h;obtain⟨r,c⟩:=bB h1;obtain⟨d,b⟩:=bB h2;exact⟨(r,d),a,c,b⟩
theorem rJ{α:Type}:∀{l:List α} {i j:Nat} {x:α},l.Nodup->l[i]?=Z x->l[j]?=Z x->i=j
 |[],i,j,x,_,h,_=>by simp at h
 |a::l,0,0,x,_,_,_=>rfl
 |a::l,0,j+1,x,n,h1,h2=>by
  simp at h1 h2;subst h1;exact absurd (gM1 h2) (aO.mp n).1
 |a::l,i+1,0,x,n,h1,h2=>by
  simp at h1 h2;subst h2;exact absurd (gM1 h1) (aO.mp n).1
 |a::l,i+1,j+1,x,n,h1,h2=>by
  exact congrArg (· + 1) (rJ (i:=i) (j:=j) (x:=x) (aO.mp n).2 (by simpa using h1) (by simpa using h2))
theorem oz:∀{R:dD} {r d b d':Nat} {x:Nat×Nat},R.flatten.Nodup->At R r d x->At R b d' x->r=b/\d=d'
 |[],r,d,b,d',x,_,⟨_,h,_⟩,_=>by simp at h
 |a::R,r,d,b,d',x,n,⟨row,h1,h2⟩,⟨row',h1',h2'⟩=>by
  rw[a0,bG]at n;cases r with
  |zero=>
   simp at h1;subst h1;cases b with
   |zero=>
    simp at h1';subst h1';exact⟨O,rJ n.1 h2 h2'⟩
   |succ b=>
    have m1:x∈R.flatten:=cR.mpr ⟨row',gM1 (by simpa using h1'),gM1 h2'⟩;exact absurd O (n.2.2 x (gM1 h2) x m1)
  |succ r=>
   cases b with
   |zero=>
    simp at h1';subst h1';have m1:x∈R.flatten:=cR.mpr ⟨row,gM1 (by simpa using h1),gM1 h2⟩;exact absurd O (n.2.2 x (gM1 h2') x m1)
   |succ b=>
    obtain⟨c,e⟩:=oz (R:=R) n.2.1 ⟨row,by simpa using h1,h2⟩ ⟨row',by simpa using h1',h2'⟩;exact⟨by rw[c],e⟩
open Classical in
def plc(R:dD)(x:Nat×Nat):Nat×Nat:=if h:∃p:Nat×Nat,At R p.1 p.2 x then Classical.choose h else(0,0)
theorem sT{R:dD}{x:Nat×Nat}(h:x∈R.flatten):At R (plc R x).1 (plc R x).2 x:=by
 have h':=Al h;unfold plc;rw[dif_pos h'];exact Classical.choose_spec h'
theorem Hu{R:dD}{r d:Nat}{x:Nat×Nat}(n:R.flatten.Nodup)(h:At R r d x):plc R x=(r,d):=by
 obtain⟨a,b⟩:=oz n (sT h.mem) h;exact Prod.ext a b
def opp(x:Nat×Nat):Nat×Nat:=(x.1,1-x.2)
def y2(R:dD):dD:=R.map λrow=>row.map λx=>plc R (opp x)
structure Jz (m:Nat)(w:dD):Prop where
 len:w.length=m
 le:∀row∈w,row.length<=4
 back:∀r d p,At w r d p->At w p.1 p.2 (r,d)
 ne:∀r d p,At w r d p->p≠(r,d)
theorem sH{R:dD}{r d:Nat}{p:Nat×Nat}:At (y2 R) r d p ↔ ∃x,At R r d x/\p=plc R (opp x):=by
 unfold At y2;constructor
 ·rintro⟨a,h1,h2⟩;rw[gP1]at h1;obtain⟨b,c,rfl⟩:=oM1.mp h1;rw[gP1]at h2;obtain⟨x,e,rfl⟩:=oM1.mp h2;exact⟨x,⟨b,c,e⟩,O⟩
 ·rintro⟨x,⟨a,h1,h2⟩,rfl⟩;exact⟨a.map λx=>plc R (opp x),by rw[gP1,h1];rfl,by rw[gP1,h2];rfl⟩
theorem DG{m e:Nat}{R:dD}(d:DI m R e):Jz m (y2 R):=by
 have n:R.flatten.Nodup:=d.all.nodup_iff.mpr (lC e);have opp_mem:∀x,x∈R.flatten->opp x∈R.flatten/\opp (opp x)=x/\opp x≠x:=λx c=>by
  have:=hV.mp (d.all.mem_iff.mp c);obtain⟨a,b⟩:=x;simp at this;refine⟨d.all.mem_iff.mpr (hV.mpr ⟨this.1,by simp[opp]⟩),?_,?_⟩
  ·simp[opp];lia
  ·simp[opp];lia
 refine⟨by unfold y2;rw[lM1];exact d.len,?_,?_,?_⟩
 ·intro h q;obtain⟨r,g,rfl⟩:=ci.mp q;obtain⟨i,hi⟩:=bB g;rw[lM1];exact d.le i r hi
 ·intro r o p f;obtain⟨x,c,rfl⟩:=sH.mp f;obtain⟨h1,h2,_⟩:=opp_mem x c.mem;exact sH.mpr ⟨opp x,sT h1,by rw[h2,Hu n c]⟩
 ·intro r o p f z;obtain⟨x,c,rfl⟩:=sH.mp f;obtain⟨h1,_,l⟩:=opp_mem x c.mem;have k:=sT h1;rw[z]at k;obtain⟨h,a1,a2⟩:=c;obtain⟨j,b1,b2⟩:=k;rw[a1]at b1;cases b1;rw[a2]at b2;exact l (Option.some.inj b2).symm
theorem Bz{f:Nat×Nat->D}:∀{a b:List D},a.Perm b -> ∀l:List (Nat×Nat),b=l.map f -> ∃c:List (Nat×Nat),a=c.map f/\c.Perm l:=by
 intro a b h
 induction h with
 |nil=>intro l e;exact⟨[],O,by cases l with|nil=>exact .refl _|cons _ _=>simp at e⟩
 |cons x _ ih=>
  intro l e;cases l with
  |nil=>simp at e
  |cons y l=>
   simp at e;obtain⟨c,d,p⟩:=ih l e.2;exact⟨y::c,by rw[mP1,e.1,d],p.cons y⟩
 |swap x y o=>
  intro l e
  match l,e with
  |a::b::l,e=>
   simp at e;exact⟨b::a::l,by rw[mP1,mP1,e.1,e.2.1,e.2.2],List.Perm.swap _ _ _⟩
 |trans _ _ i g=>
  intro l e;obtain⟨n,d,k⟩:=g l e;obtain⟨j,m,p2⟩:=i n d;exact⟨j,m,p2.trans k⟩
theorem rr:∀(k n:Nat),jb n (k+1)=jb n k++[.ref (n+k)]
 |0,n=>rfl
 |k+1,n=>by
  rw[jb,rr k (n+1),jb,bt,show n+1+k=n+(k+1) by lia]
theorem Bh{n k m:Nat}(h:n+k<=m):D.unds m (jb n k)=M:=by
 induction k generalizing n with
 |zero=>rfl
 |succ k ih=>rw[jb,D.unds,ih (by lia),D.und];simp;lia
theorem CU{U:dr}{m:Nat}:EW U.length m (aP m []) (U++(aP m (.lst [])++[.lst (jb U.length m)])):=by
 refine⟨by simp,λi a h=>?_,?_⟩
 ·have hi:i<m:=by have:=(gE1.mp h).1;simpa using this
  rw[aS,ak hi]at h;cases h;rw[gF,gL1 (by simpa using hi),aS,ak hi];rfl
 ·rw[gF,gR1 (by simp)];simp
structure sF (b:Nat)(ks:List Nat)(R:dD)(V:dr):Prop where
 len:ks.length=R.length
 at_:∀(i k:Nat) (row:List (Nat×Nat)),ks[i]?=some k->R[i]?=some row->V[k]?=some (fq row)
 low:∀k∈ks,b<=k
theorem sF.over{n b:Nat}{ks:List Nat}{R:dD}{U V:dr}(e:sF b ks R U)(s:HS n U V)(c:0<b):sF b ks R V:=
 ⟨e.len,λi k a h1 h2=>s.at (e.at_ i k a h1 h2) (by have:=e.low k (gM1 h1);lia),e.low⟩
def uK(k:Nat):D:=.ref k
theorem sd:∀{R E:dD},R.length=E.length->(∀(i:Nat) (r e:List (Nat×Nat)),R[i]?=Z r->E[i]?=Z e->r.Perm e)->R.flatten.Perm E.flatten
 |[],[],_,_=>.refl _
 |[],_::_,h,_=>by simp at h
 |_::_,[],h,_=>by simp at h
 |r::R,e::E,h,q=>by
  rw[a0,a0];exact(q 0 r e O O).append (sd (by simpa using h) λi a b h1 h2=>q (i+1) a b (by simpa using h1) (by simpa using h2))
theorem Fx{n b m e:Nat}{K U:dr}{E:dD}{Q:List D×Ev×dr->Prop}(s:HS n K U)(hb:K.length=b)(hn:n<=2^44)(w:EW b m E U)(d:DI m E e)(hm:m<=8)(q:∀ks R V x,HS (n+40) K V->sF b ks R V->DI m R e->(∀k∈ks,k<V.length)->Q (ks.map uK,[x,some (.ref 0)],V)):
  W (fV [(b+m,jb b m)] (gN 0) d9 (dU (mN (dv 2 ej) (dn (mV 1) (dn (mV 0) dq)))) (jb b m) [Y,Z (.ref 0)] U) Q:=by
 have X:=s.pos;have hbl:=s.len;have f:∀j,j<m -> ∃row,E[j]?=Z row:=λj h=>⟨_,gG1 (by rw[d.len];exact h)⟩;refine iB (λi v r S=>∃ks R x,i<=m/\HS (n+5*i) K S/\EW b m E S/\v=ks.map uK/\r=[x,Z (.ref 0)]/\ks.length=i/\sF b ks R S/\(∀(j:Nat) (r e:List (Nat×Nat)),R[j]?=Z r->E[j]?=Z e->r.Perm e)/\(∀k∈ks,k<S.length)) (jb b m) 0 [] _ _ ⟨[],[],Y,by lia,s,w,O,O,O,⟨O,λi k row h1=>by simp at h1,λk o=>by simp at o⟩,λj r e h1=>by simp at h1,λk o=>by simp at o⟩ ?_ ?_ ?_
 ·rintro i v r S ⟨ks,R,x,_,_,C,_⟩;exact fR C.ends
 ·rintro i dd L v r S ⟨ks,R,x,hi,H,C,rfl,rfl,o,a,am,t⟩;have p:=(gE1.mp L).1;rw[jm]at p;rw[lT p]at L;cases L;rw[bQ]at *
  obtain⟨row,g⟩:=f i p;have hrl:=d.le i row g;walk_at"w";refine wx H (by lia) (C.row i row g) (by rw[lM1];lia) (Mi.dW λ_ _=>rfl) λk ys V T l hkl I N=>?_;rw[lM1]at T l;obtain⟨c,rfl,ao⟩:=Bz N row O;have aq:=H.len;have F:=a.over l (by lia);refine⟨ks++[k],R++[c],_,by lia,T.more (by lia),C.over l (by lia),by simp[uK],O,by simp[o],⟨by simp[a.len],λj B au h1 h2=>?_,λB A=>?_⟩,λj au e' h1 h2=>?_,λB A=>?_⟩
  ·by_cases h:j<ks.length
   ·rw[gL1 h]at h1;rw[gL1 (by rw[<- a.len];exact h)]at h2;exact F.at_ j B au h1 h2
   ·have y:j=ks.length:=by have:=(gE1.mp h1).1;simp at this;lia
    subst y;rw[cO]at h1;rw[a.len,cO]at h2;cases h1;cases h2;exact I
  ·rcases aF.mp A with z|z
   ·exact a.low B z
   ·simp at z;lia
  ·by_cases h:j<R.length
   ·rw[gL1 h]at h1;exact am j au e' h1 h2
   ·have y:j=R.length:=by have:=(gE1.mp h1).1;simp at this;lia
    subst y;rw[cO]at h1;cases h1;rw[<- a.len,o,g]at h2;cases h2;exact ao
  ·have wq:=l.len;show B<V.length;rcases aF.mp A with z|z
   ·have:=t B z;lia
   ·simp at z;subst z;exact(gE1.mp I).1
 ·rintro xs r S ⟨ks,R,x,hi,H,C,P,rfl,o,a,am,t⟩;rw[bi]at P;subst P;rw[bQ,jm]at H o;have u:R.length=E.length:=by rw[<- a.len,o,d.len]
  have dR:DI m R e:=⟨by rw[u];exact d.len,(sd u am).trans d.all,λj row h=>by
   obtain⟨c,G⟩:=f j (by rw[<- d.len,<- u];exact(gE1.mp h).1);rw[(am j row c h G).length_eq];exact d.le j c G⟩
  exact q ks R S x (H.more (by lia)) a dR t
theorem GD{m:FA}{r:Ev}{S:dr}{Q:Aq×dr->Prop}{d:D}{S1:dr}(h:m r S=Z ([d],S1))(q:sW S1 d λp=>Q (⟨zX 0 p.1,p.2⟩,S1)):W (Au m r S) Q:=by
 unfold Au;rw[h,oS1];dsimp only;rw[dw];exact W.mono (show W (dQ S1 d) _ from q) λz w=>dA.mpr w
theorem D2{F:List (TK×D)}{k:TK}{v:D}{n:Nat}(h:∀p∈F,p.2.und n=M)(hv:v.und n=M):∀p∈eX F k v,p.2.und n=M:=by
 intro p a;unfold eX at a;split at a
 ·obtain⟨q,b,rfl⟩:=ci.mp a;split
  ·exact hv
  ·exact h q b
 ·rcases aF.mp a with z|z
  ·exact h p z
  ·simp at z;subst z;exact hv
theorem Hc{V:dr}{pl k r:Nat}{F:List (TK×D)}{R:dD}{row:List (Nat×Nat)}{K w C u am I A L E B:Option D}{Q:Fl×Ev×dr->Prop}(nd:R.flatten.Nodup)(hr:R[r]? = some row)(hpl:pl<V.length)(hk:V[k]? = some (fq row))(o:k≠pl)(wq:F.length+row.length<500)(U:∀p∈F,p.2.und 0=true)(s:∀b d x,b<r->At R b d x->dZ F (uw x)=some (pD (b,d)))(q:∀c f g,c.length<=F.length+row.length->(∀p∈c,p.2.und 0=true)->(∀b d x,b<r+1->At R b d x->dZ c (uw x)=some (pD (b,d))) ->
   Q (.nx,[K,w,C,u,Z (.int (r:Nat)),am,I,A,L,Z (.ref pl),Z (.ref k),f,g],V.set pl (dO c))):
  W (jC [K,w,C,u,Z (.int (r:Nat)),am,I,A,L,Z (.ref pl),Z (.ref k),E,B] (V.set pl (dO F))) Q:=by
 unfold jC fC;rw[dw];refine GD (d:=.ref k) (S1:=V.set pl (dO F)) O ?_;refine eh (xs:=row.map pD) (by rw[gS1 o.symm];exact hk) ?_;refine fz (λi b S=>∃c f g,i<=row.length/\c.length<=F.length+i/\(∀p∈c,p.2.und 0=M)/\S=V.set pl (dO c)/\b=[K,w,C,u,Z (.int (r:Nat)),am,I,A,L,Z (.ref pl),Z (.ref k),f,g]/\(∀b d x,b<r->At R b d x->dZ c (uw x)=Z (pD (b,d)))/\(∀d x,d<i->row[d]?=Z x->dZ c (uw x)=Z (pD (r,d)))) _ 0 _ _ ⟨F,_,_,by lia,by lia,U,O,O,s,λd x t=>by lia⟩ ?_ ?_ ?_
 ·rintro i b S ⟨c,_,_,_,_,_,rfl,_⟩;exact fR (by rw[gS1 o.symm];exact hk)
 ·rintro i dd t b S ⟨c,H,ao,hi,G,h,rfl,rfl,h1,h2⟩;dsimp only at t;rw[ou,gP1]at t;obtain⟨z,T,rfl⟩:=oM1.mp t;obtain⟨x,l,rfl⟩:=oM1.mp T;have X:=(gE1.mp l).1;rw[bQ]at *
  walk_at"w";unfold lW;walk_at"w";refine JC (F:=c) (by rw[aH hpl]) ym (by lia) ?_;have n:At R r i x:=⟨row,hr,l⟩;refine⟨eX c (uw x) (pD (r,i)),_,_,by lia,by have:=put_len (k:=uw x) (v:=pD (r,i)) (a:=c);lia,D2 h O,by rw[List.set_set];rfl,O,λb d y m j=>?_,λd y aq j=>?_⟩
  ·rw[ve];by_cases e:uw y=uw x
   ·have:=xO e;subst this;have:=(oz nd j n).1;lia
   ·rw[aj e];exact h1 b d y m j
  ·rw[ve];by_cases e:uw y=uw x
   ·have:=xO e;subst this;have:=(oz nd ⟨row,hr,j⟩ n).2;subst this;rw[ak O]
   ·rw[aj e];by_cases z:d<i
    ·exact h2 d y z j
    ·have:d=i:=by lia
     subst this;rw[l]at j;cases j;exact absurd O e
 ·rintro b S ⟨c,H,ao,hi,G,h,rfl,rfl,h1,h2⟩;rw[ot,lM1,bQ]at G h2;refine q c _ _ G h λb d x m l=>?_;by_cases z:b<r
  ·exact h1 b d x z l
  ·have:b=r:=by lia
   subst this;obtain⟨P,N,au⟩:=l;rw[hr]at N;cases N;exact h2 d x (gE1.mp au).1 au
def ec(w:dD):D:=.tup (w.map λrow=>.tup (row.map pD))
structure jU (m:Nat)(w:dD):Prop where
 len:w.length=m
 le:∀row∈w,row.length<=4
 to:∀row∈w,∀e∈row,∃r,w[e.1]?=some r/\e.2<r.length
theorem hK(w:dD):(ec w).und 0=M:=by
 unfold ec;rw[D.und];exact dW λa _=>by rw[D.und];exact dW λ_ _=>rfl
theorem Jz.ok{m:Nat}{w:dD}(g:Jz m w):jU m w:=by
 refine⟨g.len,g.le,λb h e f=>?_⟩;obtain⟨r,h1⟩:=bB h;obtain⟨d,h2⟩:=bB f;obtain⟨a,c,i⟩:=g.back r d e ⟨b,h1,h2⟩;exact⟨a,c,(gE1.mp i).1⟩
theorem Jl{F:List (TK×D)}{n:Nat}(h:∀p∈F,p.2.und n=M):(Mi.dO F).und n=M:=by
 unfold Mi.dO;split
 ·rfl
 ·rw[Ob.und];exact Mi.dW λp a=>h p a
theorem Os{R:dD}:ec (y2 R) = .tup (R.map λa=>.tup (a.map λx=>pD (plc R (opp x)))):=by
 unfold ec y2;simp only[bD]
 congr 1
 apply cD;intro a _;simp only[Function.comp_apply,bD];rfl
abbrev RF(i:Int)(m:Nat)(U:dr)(t:List (Option D)):List (Option D):=Z (.ref 0)::Z (.int i)::Z (.int (m:Nat))::Z (.ref (U.length+m))::t
theorem Jc{c m:Nat}{most:Int}{U S:dr}{Q:Fl×Ev×dr->Prop}(A:HS c U S)(hc:c<=2^41)(v:S.length=U.length)(R:0<m)(m8:m<=8)(k:FS)(q:∀E e a h n l V,HS (c+40) U V->EW U.length m E V->DI m E e->W (k (RF most m U [a,h,n,l,none,none,none,none,none]) V) Q):
  W (dG (dH (d5 1 [] (nS (dn (mV 2) dq)) (gN 0) d9 (dU (eY dq))) (gN 3))
   (dG (fC (JR (dn (mC (D.int 1)) (dn (mV 2) dq))) (gN 4) iz)
   (dG (fC (nS (dn (mN (dv 2 dy) (dn (mV 0) (dn (mC (D.int 4)) dq))) dq)) (gN 5) iy) k))
   [Z (.ref 0),Z (.int most),Z (.int (m:Nat)),Y,Y,Y,Y,Y,Y,Y,Y,Y,Y] S) Q:=by
 have aq:=A.pos;refine d1 (λr V=>HS c U V/\EW U.length m (aP m []) V/\r=RF most m U [Y,Y,Y,Y,Y,Y,Y,Y,Y]) ?_ ?_
 ·walk_at"w";refine⟨gG (by lia),?_⟩;rw[Int.toNat_natCast];refine iB (λi u r V=>u=jb U.length i/\V=S++aP i (.lst []) /\ ∃x,r=[x]) (jo 0 m) 0 [] _ _ ⟨O,by simp,_,O⟩ (λ_ _ _ _ _=>rfl) ?_ ?_
  ·rintro i d p u r V ⟨rfl,rfl,x,rfl⟩;walk_at"w";rw[bQ];refine⟨?_,?_,_,O⟩
   ·rw[rr,v,lR1]
   ·rw[List.replicate_succ']
  ·rintro xs r V ⟨e,rfl,_⟩;rw[bi,bQ,fK]at e;subst e;rw[bQ,fK];walk_at"w";rw[jm];refine⟨dB (by lia),A.app λo L=>?_,?_,?_⟩
   ·rcases aF.mp L with z|z
    ·rw[List.eq_of_mem_replicate z];rfl
    ·simp at z;subst z;rw[Ob.und];exact Bh (by simp[v])
   ·have:=CU (U:=S) (m:=m);rw[v]at this;exact this
   ·simp[v]
 rintro r V ⟨au,X,rfl⟩;refine d1 (λr V=>∃E a,HS (c+20) U V/\EW U.length m E V/\DI m E (m-1)/\r=RF most m U [a,Y,Y,Y,Y,Y,Y,Y,Y]) ?_ ?_
 ·walk_at"w";refine⟨t8 (by decide) (by decide),gG (by lia),?_⟩;refine fz (λi r V=>i<=m-1 /\ ∃E a,HS (c+i) U V/\EW U.length m E V/\DI m E i/\(∀(j:Nat) (s:List (Nat×Nat)),i+1<=j->E[j]?=Z s->s=[])/\r=RF most m U [a,Y,Y,Y,Y,Y,Y,Y,Y]) _ 0 _ _ ?_ (λ_ _ _ _=>rfl) ?_ ?_
  ·refine⟨by lia,_,Y,au,X,DI.start m,λj s _ B=>?_,O⟩;rw[aS]at B;split at B
   ·cases B;rfl
   ·cases B
  ·rintro i d p r V ⟨hi,E,a,f,w,g,y,rfl⟩;have b:=(gE1.mp p).1;rw [fK] at b;have F:d = .int ((i+1:Nat):Int):=by
    rw[tE,gP1,cr b]at p;simp at p;rw[<- p]
    push_cast
    congr 1
    lia
   subst F;rw[bQ]at *
   walk_at"w";refine GW f O (by lia) w g (by lia) (by lia) y λH ao s' C I t=>?_;exact⟨O,by lia,H,_,s',C,I,t,O⟩
  ·rintro r V ⟨hi,E,a,f,w,g,y,rfl⟩;rw[fK]at *
   have am:0+((m:Int)-1).toNat=m-1:=by lia
   rw[am]at f g;exact⟨O,E,_,f.more (by lia),w,g,O⟩
 rintro r V ⟨E,a,f,w,g,rfl⟩;refine d1 (λr V=>∃E e a h n l,HS (c+40) U V/\EW U.length m E V/\DI m E e/\r=RF most m U [a,h,n,l,Y,Y,Y,Y,Y]) ?_ ?_
 ·walk_at"w";refine draw_W f (by lia) (by lia) (by lia) λk wq A G v hk=>?_;walk_at"w";have N:=f.len;refine⟨gG (by lia),?_⟩;rw[Int.toNat_natCast];refine fz (λi r V=>i<=k /\ ∃E e a h n l,HS (c+21+2*i) U V/\EW U.length m E V/\DI m E e/\e<=8+i/\r=RF most m U [a,h,n,l,Y,Y,Y,Y,Y]) _ 0 _ _ ⟨by lia,E,m-1,_,_,_,_,A,w.over G (by lia),g,by lia,O⟩ (λ_ _ _ _=>rfl) ?_ ?_
  ·rintro i d p r V ⟨hi,E,e,a,h,n,l,f,w,g,y,rfl⟩;have b:=(gE1.mp p).1;rw[fK]at b;rw[bQ]at *
   walk_at"w";refine Ir f O (by lia) w g (by lia) R (by lia) λH ao P K T s' C I t=>?_;exact⟨O,by lia,H,P,_,_,_,_,s',C,I,by lia,O⟩
  ·rintro r V ⟨hi,E,e,a,h,n,l,f,w,g,y,rfl⟩;rw[fK,bQ]at *
   exact⟨O,E,e,_,_,_,_,f.more (by lia),w,g,O⟩
 rintro r V ⟨E,e,a,h,n,l,f,w,g,rfl⟩;exact q E e a h n l V f w g
theorem JV{c most:Nat}{B U:dr}{Q:D×dr->Prop}(s:HS c B U)(hc:c<=2^40)(hm0:0<most)(hm8:most<=8)(q:∀m w U',0<m->m<=most->jU m w->HS (c+200) B U'->HS (c+200) U U'->U'.length=U.length->Q (ec w,U')):W (dv 2 iQ [.ref 0,.int most] U) Q:=by
 have hp:=s.pos;have hbl:=s.len;refine p8 (c':=c+200) O O s ?_;have s0:HS c U U:=s.here;unfold iQ;refine jg ?_;unfold qk;refine d1 (λr S=>∃m,0<m/\m<=most/\HS (c+1) U S/\S.length=U.length/\r=[Z (.ref 0),Z (.int most),Z (.int (m:Nat)),Y,Y,Y,Y,Y,Y,Y,Y,Y,Y]) ?_ ?_
 ·walk_at"w";refine draw_W s0 (by lia) (by lia) (by lia) λk U1 s1 _ l1 C=>?_;walk_at"w";exact⟨k+1,by lia,by lia,s1,l1,by simp[Int.add_comm]⟩
 rintro r S ⟨m,m0,mm,s1,l1,rfl⟩;refine Jc s1 (by lia) l1 m0 (by lia) _ λE e N x5 x6 x7 V sE w dE=>?_;refine d1 (λr V=>∃ks R N x5 x6 x7 h,HS (c+100) U V/\sF U.length ks R V/\DI m R e/\(∀k∈ks,k<h)/\U.length<=h/\V.length=h+1/\V[h]?=Z (.lst (ks.map uK))/\r=RF most m U [N,x5,x6,x7,Z (.ref h),Y,Y,Y,Y]) ?_ ?_
 ·walk_at"w";refine eh w.ends ?_;refine Fx sE O (by lia) w dE (by lia) λks R V2 x s2 g u I=>?_;walk_at"w";have hl2:=s2.len;refine⟨dB (by rw[lM1,g.len,u.len];lia),ks,R,_,_,_,_,V2.length,(s2.more (by lia)).app λo K=>?_,⟨g.len,λi k row h1 h2=>?_,g.low⟩,u,I,hl2,by simp,by rw[cO],O⟩
  ·simp at K;subst K;rw[Ob.und];refine Mi.dW λk C=>?_;have:=I k C;simp[uK,D.und];lia
  ·have:=g.at_ i k row h1 h2;rw[gL1 (gE1.mp this).1];exact this
 rintro r V ⟨ks,R,N,x5,x6,x7,h,sV,C,u,I,hdp,hVl,v,rfl⟩;have nd:R.flatten.Nodup:=u.all.nodup_iff.mpr (lC e);refine d1 (λr V1=>V1=V++[.dct []]/\r=RF most m U [N,x5,x6,x7,Z (.ref h),Z (.ref V.length),Y,Y,Y]) ?_ ?_
 ·wp_walk using pA
 rintro r V1 ⟨rfl,rfl⟩;generalize am:V++[Ob.dct []]=V1;have hpl:V.length<V1.length:=by rw[<- am];simp
 have sV1:HS (c+100) U V1:=by rw[<- am];exact sV.app1 O
 have n:∀(i:Nat) (o:Ob),V[i]?=Z o->V1[i]?=Z o:=λi o hi=>by rw[<- am,gL1 (gE1.mp hi).1];exact hi
 have au:V1=V1.set V.length (Mi.dO []):=by
  have:V1[V.length]?=Z (Mi.dO []):=by rw[<- am,cO];rfl
  obtain⟨hl,hx⟩:=gE1.mp this;rw[<- hx,List.set_getElem_self]
 refine d1 (λr V2=>∃F N x10 aq P,V2=V1.set V.length (Mi.dO F)/\(∀A d x,At R A d x->dZ F (uw x)=Z (pD (A,d)))/\(∀p∈F,p.2.und 0=M)/\r=RF most m U [N,x5,x6,x7,Z (.ref h),Z (.ref V.length),x10,aq,P]) ?_ ?_
 ·unfold fC;rw[dw];refine GD (d:=.ref h) (S1:=V1) O ?_;refine eh (n h _ v) ?_;refine fz (λi r V2=>∃F N x10 aq P,i<=m/\F.length<=4*i/\V2=V1.set V.length (Mi.dO F)/\(∀A d x,A<i->At R A d x->dZ F (uw x)=Z (pD (A,d)))/\(∀p∈F,p.2.und 0=M)/\r=RF most m U [N,x5,x6,x7,Z (.ref h),Z (.ref V.length),x10,aq,P]) _ 0 _ _ ⟨[],_,_,_,_,by lia,by simp,au,λA d x hr=>by lia,λp hp=>by simp at hp,O⟩ ?_ ?_ ?_
  ·rintro i r V2 ⟨F,_,_,_,_,_,_,rfl,_⟩;exact fR (by rw[gS1 (by lia)];exact n h _ v)
  ·rintro i dd hd r V2 ⟨F,y4,y10,y11,y12,hi,hF,rfl,h1,hu,rfl⟩;dsimp only at hd;rw[ou,gP1]at hd;obtain⟨z,hz,rfl⟩:=oM1.mp hd;obtain⟨k,t,rfl⟩:=oM1.mp hz;have H:=(gE1.mp t).1;rw[bQ]at *
   obtain⟨row,f⟩:∃row,R[i]?=some row:=⟨_,gG1 (by rw[<- C.len];exact H)⟩;have him:i<m:=by rw[<- u.len,<- C.len];exact H
   have hkd:=I k (gM1 t);have hrl:=u.le i row f
   wp_walk using uK
   refine Hc (r:=i) nd f hpl (n k _ (C.at_ i k row t f)) (by lia) (by lia) hu h1 λF' o12 o13 hl hu' h1'=>?_;exact⟨O,F',_,_,_,_,by lia,by lia,O,h1',hu',O⟩
  ·rintro r V2 ⟨F,y4,y10,y11,y12,hi,hF,rfl,h1,hu,rfl⟩;rw[ot,lM1,bQ]at h1;refine⟨O,F,_,_,_,_,O,λA d x hx=>h1 A d x ?_ hx,hu,O⟩;obtain⟨row,e1,_⟩:=hx;rw[C.len];exact(gE1.mp e1).1
 rintro r V2 ⟨F,y4,y10,y11,y12,rfl,hF,hu,rfl⟩;generalize X:V1.set V.length (Mi.dO F)=V2;have sV2:HS (c+100) U V2:=by rw[<- X];exact sV1.set (by lia) (Jl λp hp=>e6 (hu p hp))
 have j:∀(i:Nat) (o:Ob),V[i]?=Z o->V2[i]?=Z o:=λi o hi=>by
  rw[<- X,gS1 (by have:=(gE1.mp hi).1;lia)];exact n i o hi
 have ao:V2[V.length]?=Z (Mi.dO F):=by rw[<- X,aH hpl]
 have hmem:∀x∈R.flatten,opp x∈R.flatten:=λx hx=>by
  have:=hV.mp (u.all.mem_iff.mp hx);exact u.all.mem_iff.mpr (hV.mpr ⟨this.1,by simp[opp]⟩)
 walk_at"w";refine eh (S:=V2) (j h _ v) ?_;refine iB (λi T r S=>∃G x,S=V2++G/\(∀o∈G,o.und 0=M)/\r=[x,Z (.ref V.length)]/\T=(R.take i).map λrow=>D.tup (row.map λx=>pD (plc R (opp x)))) (ks.map uK) 0 [] _ _ ⟨[],Y,by simp,λo K=>by simp at K,O,O⟩ ?_ ?_ ?_
 ·rintro i T r S ⟨G,x,rfl,_⟩;exact fR (by rw[gL1 (gE1.mp (j h _ v)).1];exact j h _ v)
 ·rintro i d hd T r S ⟨G,x,rfl,hG,rfl,rfl⟩;rw[gP1]at hd;obtain⟨k,t,rfl⟩:=oM1.mp hd;have H:=(gE1.mp t).1;obtain⟨row,f⟩:∃row,R[i]?=some row:=⟨_,gG1 (by rw[<- C.len];exact H)⟩;have hrl:=u.le i row f;have g:=j k _ (C.at_ i k row t f);have hk3:(V2++G)[k]?=Z (.lst (row.map pD)):=by rw[gL1 (gE1.mp g).1];exact g
  wp_walk using uK
  refine eh hk3 ?_;refine kW (λx=>pD (plc R (opp x))) (λr=>∃x y,r=[x,y,Z (.ref V.length)]) (fR hk3) row _ ⟨_,_,O⟩ ?_ ?_
  ·rintro y hy r ⟨a,b,rfl⟩;rw[pD];walk_at"w";have hy2:=(hV.mp (u.all.mem_iff.mp (cR.mpr ⟨row,gM1 f,hy⟩)));rw[show((1:Int)-(y.2:Int))=((1-y.2:Nat):Int) by lia];have hopp:=hmem y (cR.mpr ⟨row,gM1 f,hy⟩);have wq:=hF _ _ _ (sT hopp);refine JE (F:=F) (k:=uw (opp y)) (by rw[gL1 (gE1.mp ao).1];exact ao) (ym (e:=opp y)) wq ?_;exact⟨O,O,_,_,O⟩
  ·rintro A _;walk_at"w";refine⟨dB (by rw[lM1];lia),?_⟩;refine eh (xs:=row.map λx=>pD (plc R (opp x))) (by rw[<- bf,<- lA1,dL];rfl) ?_;refine⟨G++[Ob.lst (row.map λx=>pD (plc R (opp x)))],_,O,λo K=>?_,O,?_⟩
   ·rcases aF.mp K with z|z
    ·exact hG o z
    ·simp at z;subst z;rw[Ob.und];exact Mi.dW λ_ _=>rfl
   ·rw[bQ,cj,f];simp
 ·rintro xs r S ⟨G,x,rfl,hG,rfl,e1⟩;rw[bi,bQ,lM1,C.len,b0]at e1;subst e1;walk_at"w";have hRl:=u.len;refine⟨dB (by rw[lM1];lia),?_⟩;refine eh (xs:=R.map λrow=>D.tup (row.map λx=>pD (plc R (opp x)))) (by rw[<- bf,<- lA1,dL];rfl) ?_;have e2:=Os (R:=R);have L:D.unds 0 (R.map λrow=>D.tup (row.map λx=>pD (plc R (opp x))))=M:=Mi.dW λrow _=>by rw[D.und];exact Mi.dW λ_ _=>rfl
  refine⟨(sV2.app λo K=>?_).more (by lia),by rw[D.und];exact L,λU' a b l=>?_⟩
  ·rcases aF.mp K with z|z
   ·exact gC (br _) (hG o z)
   ·simp at z;subst z;rw[Ob.und];exact fm L
  ·rw[<- e2];exact q m _ U' m0 mm (DG u).ok a b l
theorem yV{w:dD}{i:Nat}{row:List (Nat×Nat)}{S:dr}{Q:D×dr->Prop}(h:w[i]?=Z row)(q:Q (.tup (row.map pD),S)):W (dz (ec w) (.int i) S) Q:=
 jV (x:=.tup (row.map pD)) (by rw[gP1,h];rfl) q
theorem oi{w:dD}{S:dr}:eA (ec w) S=Z (.int w.length,S):=by simp[ec,eA,dQ]
def crowd(ws:List Wk)(rm:Nat):Nat:=(ws.filter λu=>u.1 == rm).length
def xT(a b c d:Bool)(ws:List Wk)(cs:List Nat)(u:Wk)(row:List (Nat×Nat)):D:=
 ww a b c d u.2.1 (if cs.contains u.1 then 1 else 0) row.length (if 1<crowd ws u.1 then 1 else 0)
theorem zU{ws:List Wk}{rm:Nat}{S:dr}{b:Option D}{Q:List D×Ev×dr->Prop}(h:∀ a,Q ((ws.filter fun u=>u.1 == rm).map eN,a,S)):
  W (fV [] (gN 0) (mB (m2 (b2 gEq) (m2 (b2 dz) (mV 0) (mC (D.int (0)))) (mV 1))) (dU (mV 0)) (eg ws) [b,Z (.int rm)] S) Q:=by
 refine iC (λu:Wk=>u.1 == rm) eN (λr=>∃x,r=[x,Z (.int rm)]) O ws _ ⟨_,O⟩ ?_ λa _=>h a;rintro u c r ⟨x,rfl⟩;walk_at"w";refine jV (i:=0) O ?_;walk_at"w";refine⟨?_,⟨_,O⟩,λ_=>trivial⟩;rw[bT,beq_iff_eq,beq_iff_eq];lia
abbrev Q4(w x y z:D):Ob:=.dct [(.inr "came",w),(.inr "chalk",x),(.inr "doors",y),(.inr "others",z)]
abbrev QU(cs:List Nat)(ws:List (Nat×Nat×Nat))(n:Nat)(u:Nat×Nat×Nat):Ob:=Q4 (.int u.2.1) (.int (if cs.contains u.1 then 1 else 0)) (.int n) (.int (if 1<crowd ws u.1 then 1 else 0))
theorem Ly {w x y z:D}{S:dr}{r:Ev}{m1 m2 b a:FE}{Q:D×dr->Prop}(h1:m1 r S=some (w,S))(h2:m2 r S=some (x,S))(d:b r S=some (y,S))(c:a r S=some (z,S))
  (q:Q (.ref S.length,S++[Q4 w x y z])):
  W (pB [(mC (.str "came"),m1),(mC (.str "chalk"),m2),(mC (.str "doors"),b),(mC (.str "others"),a)] r S) Q:=by
 refine W.of ?_ q;simp only[pB,Cf,mC,h1,h2,d,c,oS1,oP1,vh,qL];rfl
theorem E8 {w x y z:D}{S:dr}{n:Nat}(h:S[n]? = some (Q4 w x y z)):
  dz (.ref n) (.str "came") S=Z (w,S)/\dz (.ref n) (.str "chalk") S=Z (x,S)/\dz (.ref n) (.str "doors") S=Z (y,S)/\dz (.ref n) (.str "others") S=Z (z,S):=by
 refine⟨?_,?_,?_,?_⟩<;>(simp only[dz,h,mS,qL,oS1];rfl)
def tQ:Nat->D
 |0=>.str "came" |1=>.str "chalk" |2=>.str "doors" |_=>.str "others"
def Gs:Nat->D
 |0=>.int 5|1=>.int 2|2=>.int 5|_=>.int 2
def iK(a b c d:Bool)(w x y z:Int):Nat->D
 |0=>if a then .int w else .non
 |1=>if b then .int x else .non
 |2=>if c then .int y else .non
 |_=>if d then .int z else .non
theorem x4 {a b c d:Bool}{w x y z:Int}{S:dr}{n:Nat}(h:S[n]? = some (Q4 (.int w) (.int x) (.int y) (.int z))){i:Nat}(hi:i∈[0,1,2,3]){r:Ev}{f g j:Nat}
  (h1:r[f]?=Z (Z (tQ i))) (h2:r[g]?=Z (Z (.tup (fW a b c d)))) (e:r[j]?=Z (Z (.ref n))):
  vb (mB (m2 (b2 fY) (mV f) (mV g))) (m2 (b2 dz) (mV j) (mV f)) (mC D.non) r S=Z (iK a b c d w x y z i,S):=by
 obtain⟨l,o,k,m⟩:=E8 h;simp only[aE,bO,or_false]at hi;rcases hi with rfl|rfl|rfl|rfl
 ·cases a<;>simp only[vb,mB,m2,b2,mV,h1,h2,e,tQ,oS1,Fj,l,iK,mC]<;>rfl
 ·cases b<;>simp only[vb,mB,m2,b2,mV,h1,h2,e,tQ,oS1,Cz,o,iK,mC]<;>rfl
 ·cases c<;>simp only[vb,mB,m2,b2,mV,h1,h2,e,tQ,oS1,Cy,k,iK,mC]<;>rfl
 ·cases d<;>simp only[vb,mB,m2,b2,mV,h1,h2,e,tQ,oS1,zN,m,iK,mC]<;>rfl
theorem DT{w:dD}{ws:List Wk}{cs:List Nat}{a b c d:Bool}{k:Nat}{u:Wk}{row:List (Nat×Nat)}{S:dr}{Q:D×dr->Prop}(n:ws[k]? = Z u)(hr:w[u.1]? = Z row)(o:ws.length<=1000)(q:Q (xT a b c d ws cs u row,S)):W (dv 4 iL [ec w,.tup (fW a b c d),dM ws cs,.int k] S) Q:=by
 refine jx O (by simp[D.unds,hK,gL];rw[D.und];exact⟨pS a b c d,O⟩) ?_;unfold iL;refine jg ?_;unfold qf;refine d1 (λr S=>S=[]/\r=[Z (ec w),Z (.tup (fW a b c d)),Z (dM ws cs),Z (.int k),Z (.tup (eg ws)),Z (.tup (nmD cs)),Y,Y,Y,Y,Y]) ?_ ?_
 ·rw[dM];walk_at"w"
 rintro r S ⟨rfl,rfl⟩;refine d1 (λr S=>S=[]/\r=[Z (ec w),Z (.tup (fW a b c d)),Z (dM ws cs),Z (.int k),Z (.tup (eg ws)),Z (.tup (nmD cs)),Z (.int u.1),Z (.int u.2.1),Z (.int u.2.2),Y,Y]) ?_ ?_
 ·walk_at"w";refine jV (i:=k) (x:=eN u) (by rw[eg,gP1,n];rfl) ?_;rw[eN];walk_at"w"
 rintro r S ⟨rfl,rfl⟩;refine d1 (λr S=>S=[.lst ((ws.filter λv=>v.1 == u.1).map eN)]/\r=[Z (ec w),Z (.tup (fW a b c d)),Z (dM ws cs),Z (.int k),Z (.tup (eg ws)),Z (.tup (nmD cs)),Z (.int u.1),Z (.int u.2.1),Z (.int u.2.2),Z (.ref 0),Y]) ?_ ?_
 ·walk_at"w";rw[gg];refine zU λm=>?_;walk_at"w";have:=cQ (λv:Wk=>v.1 == u.1) ws;have h2:((ws.filter λv:Wk=>v.1 == u.1).map eN).length<=100000:=by rw[lM1];lia
  exact⟨dB h2,trivial⟩
 rintro r S ⟨rfl,rfl⟩;generalize g:[Ob.lst ((ws.filter λv=>v.1 == u.1).map eN)]=S1;have f:S1[0]?=Z (Ob.lst ((ws.filter λv=>v.1 == u.1).map eN)):=by rw[<- g];rfl
 refine d1 (λr S=>S=S1++[QU cs ws row.length u]/\r=[Z (ec w),Z (.tup (fW a b c d)),Z (dM ws cs),Z (.int k),Z (.tup (eg ws)),Z (.tup (nmD cs)),Z (.int u.1),Z (.int u.2.1),Z (.int u.2.2),Z (.ref 0),Z (.ref S1.length)]) ?_ ?_
 ·unfold dH;rw[dw];have hc:(List.map eN (ws.filter λv=>v.1 == u.1)).length=crowd ws u.1:=by rw[lM1];rfl
  refine Ly (w:=.int u.2.1) (x:=.int (if cs.contains u.1 then 1 else 0)) (y:=.int row.length) (z:=.int (if 1<crowd ws u.1 then 1 else 0)) O ?_ ?_ ?_ ?_
  ·simp only[vb,mB,m2,b2,mV,gC1,cK,oS1,yr,mC];split<;>rfl
  ·have:W (dz (ec w) (.int u.1) S1) λp=>p=(.tup (row.map pD),S1):=yV hr O;obtain⟨p,e,rfl⟩:=this;simp only[mN,dn,dq,m2,b1,b2,mV,gC1,cK,oS1,e,gY,lM1]
  ·simp only[vb,mB,mN,dn,dq,m2,b1,b2,mV,mC,gC1,cK,oS1,eA,fQ f,oP1,gU,hc];by_cases h1:1<crowd ws u.1
   ·rw[ak h1,ak (by rw[al];lia)]
   ·rw[aj h1,aj (by rw[al];lia)]
  ·walk_at"w"
 rintro r S ⟨rfl,rfl⟩;generalize h:S1++[QU cs ws row.length u]=S2;have l:S2[S1.length]?=Z (QU cs ws row.length u):=by rw[<- h,dL];rfl
 walk_at"w";have j:ow = .tup ([0,1,2,3].map λi:Nat=>D.tup [tQ i,Gs i]):=rfl;rw[j,gg];refine kW (iK a b c d u.2.1 (if cs.contains u.1 then 1 else 0) row.length (if 1<crowd ws u.1 then 1 else 0)) (λr=>∃x y,r=[x,y,Z (.tup (fW a b c d)),Z (.ref S1.length)]) O _ _ ⟨_,_,O⟩ ?_ ?_
 ·rintro i hi r ⟨x,y,rfl⟩;refine⟨([Z (tQ i),Z (Gs i),Z (.tup (fW a b c d)),Z (.ref S1.length)],S2),O,?_⟩;refine⟨(M,S2),O,O,?_⟩;exact⟨_,x4 l hi O O O,O,O,_,_,O⟩
 ·rintro m _;walk_at"w";refine eh (xs:=[0,1,2,3].map (iK a b c d u.2.1 (if cs.contains u.1 then 1 else 0) row.length (if 1<crowd ws u.1 then 1 else 0))) (by rw[dL];rfl) ?_;exact⟨rj,q⟩
def pt(b:Bool)(x:Nat):D:=if b=M then .int x else .non
def NB(a b c d:Bool)(x y z w:Nat):D:=.tup [pt a x,pt b y,pt c z,pt d w]
def rZ:List D:=[.str "leave",.str "mark",.str "wipe"]
def uz:List D:=[.non,.int 0,.int 1,.int 2,.int 3]
structure il (x:D):Prop where
 is:∃m h t,x = .tup [.int (m:Nat),h,t]/\m<4000/\h∈rZ/\t∈uz
theorem il.und{x:D}(h:il x):x.und 0=M:=by
 obtain⟨m,x,t,rfl,_,h1,h2⟩:=h.is;have a:x.und 0=M:=by simp[rZ]at h1;rcases h1 with z|z|z<;>subst z<;>rfl
 have b:t.und 0=M:=by simp[uz]at h2;rcases h2 with z|z|z|z|z<;>subst z<;>rfl
 simp[D.und,D.unds,a,b]
def cx(b:Bool)(x:Nat):Nat:=if b=M then x else 0
def qT:List Bool->List Nat->Nat
 |b::bs,x::xs=>cx b x*8^bs.length+qT bs xs
 |_,_=>0
theorem tX:∀{bs:List Bool} {xs:List Nat},(∀x∈xs,x<=7)->qT bs xs<8^bs.length
 |[],_,_=>by rw[qT];simp;simp
 |b::bs,[],_=>by
  rw[qT]
  ·exact Nat.pos_of_ne_zero (by simp)
  ·simp
 |b::bs,x::xs,h=>by
  have h1:=tX (bs:=bs) λy a=>h y (mC1 _ a);have h2:cx b x<=7:=by unfold cx;split;exact h x mS1;lia
  rw[qT,lC1,Nat.pow_succ];have c:cx b x*8^bs.length<=7*8^bs.length:=cS _ h2;lia
theorem Lv{S:dr}{n:Nat}{xs ys:List D}:lE S (n+1) (.tup xs) (.tup ys)=vY (lE S n) xs ys:=by
 rw[lE];simp[dQ]
theorem Lu{S:dr}{n:Nat}{b:Bool}{x y:Nat}:lE S (n+1) (pt b x) (pt b y)=Z (decide (cx b x=cx b y)):=by
 cases b with
 |false=>rfl
 |true=>
  show Z ((x:Int) == (y:Int))=Z (decide (x=y))
  congr 1
  rw[bT,beq_iff_eq,al];lia
theorem NQ{A B P u v:Nat}(a:u<P)(hv:v<P):(A*P+u=B*P+v↔A=B/\u=v)/\(A*P+u<B*P+v↔A<B\/(A=B/\u<v)):=by
 rcases Nat.lt_trichotomy A B with h|h|h
 ·have:=cS P (show A+1<=B from h);rw[Nat.succ_mul]at this;constructor<;>lia
 ·subst h;constructor<;>lia
 ·have:=cS P (show B+1<=A from h);rw[Nat.succ_mul]at this;constructor<;>lia
theorem CY{S:dr}{n:Nat}:∀ {bs:List Bool} {xs ys:List Nat},xs.length=bs.length->ys.length=bs.length->(∀ x∈xs,x<=7)->(∀ y∈ys,y<=7) ->
  vY (lE S (n+1)) (List.zipWith pt bs xs) (List.zipWith pt bs ys)=Z (decide (qT bs xs=qT bs ys))
 |[],xs,ys,_,_,_,_=>by simp[vY,qT]
 |b::bs,[],ys,h,_,_,_=>by simp at h
 |b::bs,x::xs,[],_,h,_,_=>by simp at h
 |b::bs,x::xs,y::ys,h1,h2,hx,hy=>by
  have ih:=CY (S:=S) (n:=n) (bs:=bs) (xs:=xs) (ys:=ys) (by simpa using h1) (by simpa using h2) (λz a=>hx z (mC1 _ a)) (λz a=>hy z (mC1 _ a));have b1:=tX (bs:=bs) (xs:=xs) λz a=>hx z (mC1 _ a);have b2:=tX (bs:=bs) (xs:=ys) λz a=>hy z (mC1 _ a);rw[List.zipWith_cons_cons,List.zipWith_cons_cons,vY,Lu,ih,qT,qT];have c:=(NQ (A:=cx b x) (B:=cx b y) b1 b2).1;rw[oS1,oP1]
  congr 1
  rw[bT,bA1,al,al,al];exact c.symm
structure Ky where
 m:Nat
 x:Nat
 y:Nat
 z:Nat
 w:Nat
structure Ky.Ok (k:Ky):Prop where
 m:k.m<4000
 x:k.x<=4
 y:k.y<=4
 z:k.z<=4
 w:k.w<=4
abbrev E4:=Bool×Bool×Bool×Bool
def E4.bs(e:E4):List Bool:=[e.1,e.2.1,e.2.2.1,e.2.2.2]
def Ky.xs(k:Ky):List Nat:=[k.x,k.y,k.z,k.w]
def Gn(b:Bool)(x:Nat):TK:=if b=M then .int x else .non
def Ky.sg(k:Ky)(e:E4):D:=NB e.1 e.2.1 e.2.2.1 e.2.2.2 k.x k.y k.z k.w
def Ky.d(k:Ky)(e:E4):D:=.tup [.int k.m,k.sg e]
def Ky.tk(k:Ky)(e:E4):TK:=.tup [.int k.m,.tup [Gn e.1 k.x,Gn e.2.1 k.y,Gn e.2.2.1 k.z,Gn e.2.2.2 k.w]]
def Ky.code(k:Ky)(e:E4):Nat:=k.m*4096+qT e.bs k.xs
theorem Ky.keyT(k:Ky)(e:E4):Mi.keyT (k.d e)=Z (k.tk e):=by
 obtain⟨a,b,c,d⟩:=e;cases a<;>cases b<;>cases c<;>cases d<;>rfl
theorem Ky.tkD(k:Ky)(e:E4):Mi.tkD (k.tk e)=k.d e:=(yk (k.keyT e)).1
theorem Ky.sg_zip(k:Ky)(e:E4):k.sg e = .tup (List.zipWith pt e.bs k.xs):=rfl
theorem Ky.Ok.all{k:Ky}(h:k.Ok):∀x∈k.xs,x<=7:=by
 intro x a;have:=h.x;have:=h.y;have:=h.z;have:=h.w
 simp[Ky.xs]at a;lia
theorem jw{k:Ky}(h:k.Ok)(e:E4):qT e.bs k.xs<4096:=tX (bs:=e.bs) h.all
theorem Ky.und(k:Ky)(e:E4)(n:Nat):(k.d e).und n=M:=by
 rw[<- k.tkD e];exact AL _
theorem Ky.sgu(k:Ky)(e:E4)(n:Nat):(k.sg e).und n=M:=by
 have:=k.und e n;unfold Ky.d at this;simp only[D.und,D.unds,bP,cC]at this;exact this
def dO(F:List (TK×D)):Ob:=match F with
 |[]=>.dct []
 |_=>.dcT F
theorem LC{F:List (TK×D)}(h:F≠[]):dO F = .dcT F:=by
 cases F with
 |nil=>exact absurd O h
 |cons _ _=>rfl
abbrev Rw:=Ky×D
def eU(e:E4)(p:Rw):D:=.tup [p.1.d e,p.2]
def gr(p:Rw):Prop:=p.1.Ok/\il p.2
theorem Hm(b:Bool)(x:Nat):Gn b x=if b=M then .int (cx b x)else .non:=by unfold Gn cx;cases b<;>rfl
theorem yG{b:Bool}{x y:Nat}(h:Gn b x=Gn b y):cx b x=cx b y:=by
 cases b with
 |false=>rfl
 |true=>
  have h':TK.int (x:Int)=TK.int (y:Int):=h;injection h' with h';exact(by lia:x=y)
theorem LG(a b c d x y z w:_):qT [a,b,c,d] [x,y,z,w]=((cx a x*8+cx b y)*8+cx c z)*8+cx d w:=by
 simp only[qT,lC1,bo];lia
theorem xN{k l:Ky}{e:E4}(hk:k.Ok)(f:l.Ok):k.tk e=l.tk e↔k.code e=l.code e:=by
 obtain⟨a,b,c,d⟩:=e;have g:k.code (a,b,c,d)=k.m*4096+(((cx a k.x*8+cx b k.y)*8+cx c k.z)*8+cx d k.w):=by unfold Ky.code;rw[<- LG];rfl
 have r:l.code (a,b,c,d)=l.m*4096+(((cx a l.x*8+cx b l.y)*8+cx c l.z)*8+cx d l.w):=by unfold Ky.code;rw[<- LG];rfl
 have le:∀(b:Bool) (x:Nat),x<=4->cx b x<=4:=λb x h=>by unfold cx;split<;>lia
 rw[g,r];constructor
 ·intro h;unfold Ky.tk at h;injection h with h;injection h with h1 h2;injection h1 with h1;injection h2 with h2 _;injection h2 with h2;injection h2 with n h2;injection h2 with p2 h2;injection h2 with j h2;injection h2 with s _;rw[yG n,yG p2,yG j,yG s,show k.m=l.m by lia]
 ·intro h;have v:=le a _ hk.x;have A:=le b _ hk.y;have w:=le c _ hk.z;have y:=le d _ hk.w
  have z:=le a _ f.x;have r2:=le b _ f.y;have t:=le c _ f.z;have u:=le d _ f.w
  have p:k.m=l.m:=by lia
  have i:cx a k.x=cx a l.x:=by lia
  have o:cx b k.y=cx b l.y:=by lia
  have q:cx c k.z=cx c l.z:=by lia
  have m:cx d k.w=cx d l.w:=by lia
  unfold Ky.tk;simp only[Hm,p,i,o,q,m]
def Inc(e:E4)(L:List Rw):Prop:=L.Pairwise λp q=>p.1.code e<q.1.code e
theorem vy{α:Type}{f:α->Nat}{c:Nat}{a:α}:∀{l:List α},(l.map f).Nodup->((l.find? λx=>decide (f x=c))=Z a↔a∈l/\f a=c)
 |[],_=>by simp
 |b::l,nd=>by
  rw[mP1,aO]at nd;rw[bm];by_cases z:f b=c
  ·rw[ah z];constructor
   ·intro h;cases h;exact⟨mS1,z⟩
   ·rintro⟨h1,h2⟩;rcases aE.mp h1 with y|y
    ·rw[y]
    ·exact absurd (ci.mpr ⟨a,y,h2.trans z.symm⟩) nd.1
  ·rw[ai z];show(l.find? λx=>decide (f x=c))=Z a↔_;rw[vy nd.2];constructor
   ·rintro⟨h1,h2⟩;exact⟨mC1 _ h1,h2⟩
   ·rintro⟨h1,h2⟩;rcases aE.mp h1 with y|y
    ·rw[y]at h2;exact absurd h2 z
    ·exact⟨y,h2⟩
theorem Inc.le{e:E4}{L:List Rw}(h:Inc e L)(ok:∀p∈L,gr p){i j:Nat}{p q:Rw}(hi:L[i]?=Z p)(a:L[j]?=Z q)(c:i<=j):p.1.m<=q.1.m/\(i<j->p.1.code e<q.1.code e):=by
 have d:=(ok p (gM1 hi)).1;have f:=(ok q (gM1 a)).1;by_cases z:i=j
 ·subst z;rw[hi]at a;cases a;exact⟨nR1 _,λz=>by lia⟩
 ·obtain⟨h1,b⟩:=gE1.mp hi;obtain⟨h2,g⟩:=gE1.mp a;have:=cb.mp h i j h1 h2 (by lia);rw[b,g]at this;refine⟨?_,λ_=>this⟩;have c1:=jw d e;have c2:=jw f e;unfold Ky.code at this;lia
theorem M4{e:E4}{L:List Rw}{i:Nat}{p:Rw}{S:dr}(h:L[i]?=Z p):dz (.tup (L.map (eU e))) (.int (i:Nat)) S=Z (eU e p,S):=by
 obtain⟨x,a,b⟩:=(jV (i:=i) (xs:=L.map (eU e)) (x:=eU e p) (S:=S) (Q:=λx=>x=(eU e p,S)) (by rw[gP1,h];rfl) O);rw[a,b]
theorem M5{e:E4}{p:Rw}{S:dr}:dz (eU e p) (.int 0) S=Z (p.1.d e,S):=rfl
theorem Ow{e:E4}{p:Rw}{S:dr}:dz (eU e p) (.int 1) S=Z (p.2,S):=rfl
theorem NL{e:E4}{k:Ky}{S:dr}:dz (k.d e) (.int 0) S=Z (.int k.m,S):=rfl
theorem Ou{e:E4}{k:Ky}{S:dr}:dz (k.d e) (.int 1) S=Z (k.sg e,S):=rfl
theorem oX{e:E4}{L:List Rw}(ok:∀p∈L,gr p)(n:Nat):(D.tup (L.map (eU e))).und n=M:=by
 rw[D.und];refine Mi.dW λp a=>?_;have h1:=p.1.und e n;have h2:=e6 (n:=n) (ok p a).2.und;simp[eU,D.und,D.unds,h1,h2]
theorem IT{e:E4}{L:List Rw}{S:dr}:eA (.tup (L.map (eU e))) S=Z (.int L.length,S):=by simp[eA,dQ]
theorem Gc{c:FT}{b:FS}{Q:Fl×Ev×dr->Prop}(I:Nat->Ev->dr->Prop)(N:Nat)(step:∀k r S,I k r S->W (c r S) fun p=>if p.1=true then k<N/\W (b r p.2) fun q=>q.1 = .nx/\I (k+1) q.2.1 q.2.2 else Q (.nx,r,p.2)):
  ∀(fuel k:Nat) (r:Ev) (S:dr),N-k<fuel->I k r S->W (ui c b fuel r S) Q
 |0,k,r,S,hf,_=>by lia
 |fuel+1,k,r,S,hf,hi=>by
  rw[ui];dsimp only;rw[dw];obtain⟨⟨t,l⟩,e,h⟩:=step k r S hi;refine⟨_,e,?_⟩;dsimp only at h ⊢;cases t with
  |true=>
   rw[ak O]at h ⊢;obtain⟨m,⟨f,j,g⟩,i,a,d⟩:=h;dsimp only at a d;subst a;rw[i,oS1];exact Gc I N step fuel (k+1) j g (by lia) d
  |false=>
   rw[aj (by decide)]at h ⊢;exact dA.mpr h
theorem Fv{e:E4}{L:List Rw}{q:Nat}{S:dr}{Q:D×dr->Prop}(inc:Inc e L)(ok:∀ p∈L,gr p)(u:L.length<=4000)(h:∀a:Nat,a<=L.length->(∀i p,L[i]?=Z p->i<a->p.1.m<q)->(∀i p,L[i]?=Z p->a<=i->q<=p.1.m)->Q (.int a,S)):W (dv 2 iO [.tup (L.map (eU e)),.int (q:Nat)] S) Q:=by
 refine jx O (by rw[D.unds,oX ok,D.unds,D.und];rfl) ?_;unfold iO;refine jg ?_;unfold qi;generalize o:D.tup (L.map (eU e))=R;refine d1 (λr S=>S=[]/\r=[Z R,Z (.int (q:Nat)),Z (.int ((0:Nat):Int)),Y,Y]) ?_ ?_
 ·walk_at"w";rfl
 rintro r m ⟨rfl,rfl⟩;refine d1 (λr S=>S=[]/\r=[Z R,Z (.int (q:Nat)),Z (.int ((0:Nat):Int)),Z (.int (L.length:Nat)),Y]) ?_ ?_
 ·subst o
  wp_walk using IT
  rw[lM1]
 rintro r m ⟨rfl,rfl⟩;refine d1 (λr S=>∃(a:Nat) (d:Option D),S=[]/\a<=L.length/\(∀i p,L[i]?=Z p->i<a->p.1.m<q)/\(∀i p,L[i]?=Z p->a<=i->q<=p.1.m)/\r=[Z R,Z (.int (q:Nat)),Z (.int (a:Nat)),Z (.int (a:Nat)),d]) ?_ ?_
 ·refine Gc (λk r S=>∃(a high:Nat) (d:Option D),S=[]/\a<=high/\high<=L.length/\high-a+k<=L.length/\(∀i p,L[i]?=Z p->i<a->p.1.m<q)/\(∀i p,L[i]?=Z p->high<=i->q<=p.1.m)/\r=[Z R,Z (.int (q:Nat)),Z (.int (a:Nat)),Z (.int (high:Nat)),d]) L.length ?_ 100000 0 _ _ (by lia) ⟨0,L.length,_,O,by lia,by lia,by lia,λi p _ z=>by lia,λi p c z=>?_,O⟩
  ·rintro k r S ⟨a,high,d,rfl,h1,h2,j,l,n,rfl⟩;unfold lV;walk_at"w";by_cases z:a<high
   ·rw[ak (by rw[al];lia)];refine⟨by lia,?_⟩;unfold lU;have f:(a+high)/2<L.length:=by lia
    obtain⟨p,c⟩:∃p,L[(a+high)/2]?=some p:=⟨_,gG1 f⟩;have g:vq (.int ((a:Int)+(high:Int))) (.int 2) []=Z (.int (((a+high)/2:Nat):Int),[]):=by
     simp only[vq];rw[ak ⟨by lia,by lia⟩]
     push_cast
     rfl
    subst o
    wp_walk using g,M4 c,M5,NL
    by_cases t:p.1.m<q
    ·rw[ak (by rw[al];lia)];refine⟨(a+high)/2+1,high,_,by lia,h2,by lia,λi s b hi=>?_,n,by push_cast;rfl⟩;exact bK (inc.le ok b c (by lia)).1 t
    ·rw[aj (by rw[al];lia)];refine⟨a,(a+high)/2,_,by lia,by lia,by lia,l,λi s b hi=>?_,O⟩;exact aC (by lia) (inc.le ok c b hi).1
   ·rw[aj (by rw[al];lia)];have:a=high:=by lia
    subst this;exact⟨a,_,h2,l,n,O⟩
  ·have:=(gE1.mp c).1;lia
 rintro r m ⟨a,d,rfl,h1,h2,j,rfl⟩;walk_at"w";exact⟨O,h a h1 h2 j⟩
theorem AG{c:FT}{b:FS}{Q:Fl×Ev×dr->Prop}(I:Nat->Ev->dr->Prop)(N:Nat)(step:∀k r S,I k r S->W (c r S) fun p=>if p.1=true then k<N/\W (b r p.2) fun q=>(q.1 = .nx/\I (k+1) q.2.1 q.2.2) \/ ∃d,q.1 = .rt d/\Q q else Q (.nx,r,p.2)):
  ∀(fuel k:Nat) (r:Ev) (S:dr),N-k<fuel->I k r S->W (ui c b fuel r S) Q
 |0,k,r,S,hf,_=>by lia
 |fuel+1,k,r,S,hf,hi=>by
  rw[ui];dsimp only;rw[dw];obtain⟨⟨t,o⟩,e,h⟩:=step k r S hi;refine⟨_,e,?_⟩;dsimp only at h ⊢;cases t with
  |true=>
   rw[ak O]at h ⊢;obtain⟨s,⟨f,n,l⟩,m,i⟩:=h;rw[m,oS1];rcases i with⟨a,g⟩|⟨d,a,j⟩
   ·dsimp only at a g;subst a;exact AG I N step fuel (k+1) n l (by lia) g
   ·dsimp only at a;subst a;exact dA.mpr j
  |false=>
   rw[aj (by decide)]at h ⊢;exact dA.mpr h
theorem Ls{k l:Ky}{e:E4}{S:dr}(hk:k.Ok)(a:l.Ok):gEq (k.sg e) (l.sg e) S=Z (.bl (decide (qT e.bs k.xs=qT e.bs l.xs)),S):=by
 show(lE S (58+1+1) (k.sg e) (l.sg e)).map _=_;rw[Ky.sg_zip,Ky.sg_zip,Lv,CY O O hk.all a.all];rfl
theorem Inc.nd{e:E4}:∀{L:List Rw},Inc e L->(L.map λp=>p.1.code e).Nodup:=λh=>
 cJ.mpr (List.Pairwise.imp (λz=>nN1 z) h)
def qM(k:Ky):D:=.tup [.int k.m,.str "leave",.non]
def mW(e:E4)(L:List Rw)(k:Ky):D:=((L.find? λp=>decide (p.1.code e=k.code e)).map (·.2)).getD (qM k)
theorem C3{e:E4}{L:List Rw}{k:Ky}{E:D}{S:dr}{Q:D×dr->Prop}(inc:Inc e L)(ok:∀ p∈L,gr p)(am:L.length<=4000)(hk:k.Ok)(I:E.und 0=M)(q:Q (mW e L k,S)):W (dv 3 js [.tup [E,.tup (L.map (eU e))],.int k.m,k.sg e] S) Q:=by
 refine jx O (by
  have y:=oX (e:=e) ok 0;have r2:=k.sgu e 0;rw[D.und]at y;simp[D.unds,D.und,I,y,r2]) ?_
 unfold js;refine jg ?_;unfold sC;generalize G:D.tup [E,.tup (L.map (eU e))]=ao;refine d1 (λr S=>S=[]/\r=[Z ao,Z (.int k.m),Z (k.sg e),Z (.tup (L.map (eU e))),Y]) ?_ ?_
 ·subst G;have C:dz (.tup [E,.tup (L.map (eU e))]) (.int 1) []=Z (.tup (L.map (eU e)),[]):=rfl
  wp_walk using C
 rintro r N ⟨rfl,rfl⟩;refine d1 (λr S=>∃a:Nat,S=[]/\a<=L.length/\(∀i p,L[i]?=Z p->i<a->p.1.m<k.m)/\(∀i p,L[i]?=Z p->a<=i->k.m<=p.1.m)/\r=[Z ao,Z (.int k.m),Z (k.sg e),Z (.tup (L.map (eU e))),Z (.int (a:Nat))]) ?_ ?_
 ·walk_at"w";refine Fv inc ok am λa h1 h2 o=>?_;exact⟨a,O,h1,h2,o,O⟩
 rintro r N ⟨a,rfl,h1,h2,o,rfl⟩;have hnd:=inc.nd;have d:(∀(i:Nat) (p:Rw),L[i]?=Z p->p.1.code e≠k.code e)->mW e L k=qM k:=λh=>by
  unfold mW;rw[List.find?_eq_none.mpr λp c=>?_]
  ·rfl
  ·obtain⟨i,hi⟩:=bB c;rw[al];exact h i p hi
 have n:∀p,p∈L->p.1.m≠k.m->p.1.code e≠k.code e:=λp c w z=>by
  have:=(NQ (A:=p.1.m) (B:=k.m) (jw (ok p c).1 e) (jw hk e)).1.mp z;exact w this.1
 unfold dG;refine dw.mpr ?_;refine AG (λj r S=>S=[]/\a+j<=L.length/\(∀i p,L[i]?=Z p->i<a+j->p.1.code e≠k.code e)/\r=[Z ao,Z (.int k.m),Z (k.sg e),Z (.tup (L.map (eU e))),Z (.int ((a+j:Nat):Int))]) L.length ?_ 100000 0 _ _ (by lia) ⟨O,by lia,λi p c hi=>n p (gM1 c) (by have:=h2 i p c (by lia);lia),O⟩;rintro j r S ⟨rfl,au,v,rfl⟩;unfold nq;by_cases s:a+j<L.length
 ·obtain⟨p,c⟩:∃p,L[a+j]?=some p:=⟨_,gG1 s⟩;have l:=gM1 c
  wp_walk using IT,M4 c,M5,NL,lM1
  rw[ak (by rw[al];lia)];by_cases K:p.1.m=k.m
  ·rw[ak (by rw[beq_iff_eq];lia)];refine⟨by lia,?_⟩;unfold no
   wp_walk using M4 c,M5,Ou,Ow,Ls (ok p l).1 hk
   have g:p.1.code e=k.code e↔qT e.bs p.1.xs=qT e.bs k.xs:=by unfold Ky.code;rw[K];lia
   by_cases hc:qT e.bs p.1.xs=qT e.bs k.xs
   ·rw[ak (ah hc)];right;have H:(L.find? λp=>decide (p.1.code e=k.code e))=Z p:=(vy (f:=λp:Rw=>p.1.code e) hnd).mpr ⟨l,g.mpr hc⟩;have F:mW e L k=p.2:=by unfold mW;rw[H];rfl
    rw[F]at q;exact⟨_,O,(ok p l).2.und,q⟩
   ·rw[aj (by rw[al];exact hc)];refine W.of (x:=(.nx,[Z ao,Z (.int k.m),Z (k.sg e),Z (.tup (L.map (eU e))),Z (.int (((a+j:Nat):Int)+1))],[])) O ?_;left;refine⟨O,O,by lia,λi m b hi=>?_,by push_cast;rfl⟩;by_cases t:i=a+j
    ·subst t;rw[c]at b;cases b;exact λz=>hc (g.mp z)
    ·exact v i m b (by lia)
  ·rw [if_neg (by rw [beq_iff_eq];lia)];have u:mW e L k=qM k:=d fun i m b=>by
    by_cases hi:i<a+j
    ·exact v i m b hi
    ·have b1:=o (a+j) p c (by lia);have b2:=(inc.le ok c b (by lia)).1;exact n m (gM1 b) (by lia)
   rw[u]at q;exact⟨O,q⟩
 ·wp_walk using IT,lM1
  rw[aj (by rw[al];lia)];have u:mW e L k=qM k:=d λi m b=>by
   have:=(gE1.mp b).1;exact v i m b (by lia)
  rw[u]at q;exact⟨O,q⟩
def dm:D->Nat
 | .tup [.int m,_,_]=>m.toNat
 |_=>0
def dh:D->Str
 | .tup [_,.str h,_]=>h
 |_=>""
def dt:D->Option Nat
 | .tup [_,_,.int t]=>Z t.toNat
 |_=>Y
def tD:Option Nat->D
 |none=>.non
 |some t=>.int (t:Nat)
theorem il.eta{x:D}(h:il x):x = .tup [.int (dm x:Nat),.str (dh x),tD (dt x)]/\dm x<4000:=by
 obtain⟨m,y,t,rfl,a,h1,h2⟩:=h.is;simp only[rZ,aE,bO,or_false]at h1;simp only[uz,aE,bO,or_false]at h2;rcases h1 with e|e|e<;>subst e<;>rcases h2 with e|e|e|e|e<;>subst e<;>exact⟨O,a⟩
def f0(w:dD)(u:Wk)(x:D):Wk:=match dt x with
 |some t=>match (w[u.1]?).bind (·[t]?)with
  |some p=>(p.1,p.2+1,dm x)
  |none=>(u.1,u.2.1,dm x)
 |none=>(u.1,u.2.1,dm x)
theorem Cs{t:Nat}{S:dr}:Fq (.int (t:Nat)) .non S=Z (.bl J,S):=rfl
theorem I9{S:dr}:Fq .non .non S=Z (.bl M,S):=rfl
theorem zg{w:dD}{u:Wk}{row:List (Nat×Nat)}{x:D}{S:dr}{Q:D×dr->Prop}(hr:w[u.1]?=Z row)(hx:il x)(q:Q (eN (f0 w u x),S)):W (dv 3 jp [ec w,eN u,x] S) Q:=by
 refine jx O (by simp[D.unds,hK,hx.und];rfl) ?_;unfold jp;refine jg ?_;unfold sA;have ex:=hx.eta.1;unfold f0 at q;simp only[hr,oS1]at q;generalize n:dm x=m at *
 generalize l:dh x=h at *
 generalize o:dt x=t at *
 refine d1 (λr V=>V=[]/\r=[Z (ec w),Z (eN u),Z x,Z (.int u.1),Z (.int u.2.1),Z (.int u.2.2),Y,Y,Y,Y,Y]) ?_ ?_
 ·generalize j:eN u=U;have d:U = .tup [.int u.1,.int u.2.1,.int u.2.2]:=j.symm;subst d;walk_at"w"
 rintro r V ⟨rfl,rfl⟩;refine d1 (λr V=>V=[]/\r=[Z (ec w),Z (eN u),Z x,Z (.int u.1),Z (.int u.2.1),Z (.int u.2.2),Z (.int (m:Nat)),Z (.str h),Z (tD t),Y,Y]) ?_ ?_
 ·subst ex;walk_at"w"
 rintro r V ⟨rfl,rfl⟩;cases t with
 |none=>
  have b:tD Y = .non:=rfl;rw[b]
  wp_walk using I9
  exact⟨O,q⟩
 |some t=>
  have b:tD (Z t) = .int (t:Nat):=rfl;rw[b];have c:∀a,dz (ec w) (.int (u.1:Nat)) a=Z (.tup (row.map pD),a):=λa=>by
   obtain⟨p,e,h⟩:W (dz (ec w) (.int (u.1:Nat)) a) λp=>p=(.tup (row.map pD),a):=yV hr O;rw[e,h]
  dsimp only at q;by_cases g:t<row.length
  ·have f:=gG1 g;rw[f]at q;refine d1 (λr V=>V=[]/\r=[Z (ec w),Z (eN u),Z x,Z (.int u.1),Z (.int u.2.1),Z (.int u.2.2),Z (.int (m:Nat)),Z (.str h),Z (.int (t:Nat)),Y,Y]) ?_ ?_
   ·wp_walk using Cs,c,gY,lM1
    rw[aj (by rw[al];lia)];trivial
   rintro r V ⟨rfl,rfl⟩;have i:∀a,dz (.tup (row.map pD)) (.int (t:Nat)) a=Z (pD row[t],a):=λa=>by
    obtain⟨p,e,h⟩:W (dz (.tup (row.map pD)) (.int (t:Nat)) a) λp=>p=(pD row[t],a):=jV (by rw[gP1,f];rfl) O;rw[e,h]
   generalize row[t]=p at *
   refine d1 (λr V=>V=[]/\r=[Z (ec w),Z (eN u),Z x,Z (.int u.1),Z (.int u.2.1),Z (.int u.2.2),Z (.int (m:Nat)),Z (.str h),Z (.int (t:Nat)),Z (.int p.1),Z (.int p.2)]) ?_ ?_
   ·wp_walk using c,i,pD
   rintro r V ⟨rfl,rfl⟩;walk_at"w";have k:(1:Int)+(p.2:Int)=((p.2+1:Nat):Int):=by lia
   rw[k];exact⟨O,q⟩
  ·rw[b5 (by lia)]at q
   wp_walk using Cs,c,gY,lM1
   rw[ak (by rw[al];lia)];exact⟨O,q⟩
abbrev Pr:=Wk×D
def n0(ps:List Pr):List Wk:=ps.map (·.1)
def yC(ps:List Pr):List D:=ps.map (·.2)
theorem Gb(ps:List Pr):eg (n0 ps)=ps.map λp=>eN p.1:=by unfold eg n0;rw[bD];rfl
theorem rH{S:dr}{x n:Nat}{cs:List Nat}(h:S[n]?=Z (.lst (nmD cs))):gZ (.int x) (.ref n) S=Z (.bl (!cs.contains x),S):=by
 simp only[gZ,kN,pK,h,dQ,oS1,fb,show(60:Nat)=59+1 from rfl,tL,oP1]
theorem Cw{S:dr}{x n:Nat}{cs:List Nat}(h:S[n]?=Z (.lst (nmD cs))):fY (.int x) (.ref n) S=Z (.bl (cs.contains x),S):=by
 simp only[fY,w9,JS,h,dQ,oS1,fb,show(60:Nat)=59+1 from rfl,tL,oP1]
theorem E7{x:D}(h:il x)(S:dr):dz x (.int 1) S=Z (.str (dh x),S):=by
 have e:=h.eta.1;generalize dm x=a at e;generalize dt x=c at e;generalize dh x=b at *
 subst e;rfl
theorem yn{u:Wk}{S:dr}:dz (eN u) (.int 0) S=Z (.int u.1,S):=rfl
theorem E5{u:Wk}{S:dr}:dz (eN u) (.int 2) S=Z (.int u.2.2,S):=rfl
def tG(ps:List Pr)(h:Str)(r:Nat):Bool:=ps.any λp=>p.1.1 == r&&dh p.2 == h
def iT(m:Nat)(ps:List Pr)(cs:List Nat):List Nat:=(af m).filter λr=>tG ps "mark" r||(cs.contains r && !tG ps "wipe" r)
theorem wP(a b:List Nat):nmD a++nmD b=nmD (a++b):=by simp[nmD]
def qv(ps:List Pr)(h:Str):List Nat:=(ps.filter λp=>dh p.2 == h).map (·.1.1)
theorem yS{ps:List Pr}{h:Str}{r:Nat}:r∈qv ps h↔tG ps h r=M:=by
 unfold qv tG;rw[ci,bU];constructor
 ·rintro⟨u,a,rfl⟩;obtain⟨h1,h2⟩:=aA.mp a;exact⟨u,h1,by simp[h2]⟩
 ·rintro⟨u,a,e⟩;rw[bA1,beq_iff_eq]at e;exact⟨u,aA.mpr ⟨a,e.2⟩,e.1⟩
theorem CG{h:Str}{ps:List Pr}{n:Nat}{S:dr}{Q:D×dr->Prop}{m:FA}{r:Ev}(hd:∀ p∈ps,il p.2)(c:ps.length<=8)(a:S[n]? = Z (.lst (yC ps)))(hm:m r S=Z ([.tup (eg (n0 ps)),.ref n],S))(hr:jv 2 [] r=[Y,Y])(q:Q (.ref S.length,S++[.lst (nmD (qv ps h))])):W (d5 2 [] (CB m) (gT 2 (eT (gN 0) (eT (gN 1) i8))) (mB (m2 (b2 gEq) (m2 (b2 dz) (mV 1) (mC (D.int (1)))) (mC (D.str h)))) (dU (m2 (b2 dz) (mV 0) (mC (D.int (0))))) r S) Q:=by
 rw[fc];refine Dn hm a ?_;dsimp only;rw[hr,Gb,yC,v8];refine iC (λp:Pr=>dh p.2 == h) (λp:Pr=>D.int p.1.1) (λr=>∃x y,r=[x,y]) (fR a) ps _ ⟨_,_,O⟩ ?_ λd _=>?_
 ·rintro u b r ⟨x,y,rfl⟩
  wp_walk using E7 (hd u b)
  refine⟨⟨_,_,O⟩,λ_=>?_⟩
  wp_walk using yn
 ·have e:(ps.filter λp:Pr=>dh p.2 == h).map (λp:Pr=>D.int (p.1.1:Nat))=nmD (qv ps h):=by unfold nmD qv;rw[bD];rfl
  rw[e];have f:=cQ (λp:Pr=>dh p.2 == h) ps;refine⟨dB ?_,q⟩;dsimp only;rw[ff];unfold qv;rw[lM1];lia
theorem zP{m:Nat}{ps:List Pr}{cs:List Nat}{n:Nat}{S:dr}{Q:D×dr->Prop}(hd:∀ p∈ps,il p.2)(w:ps.length<=8)(hc:cs.length<=8)(hw:∀ p∈ps,p.1.1<m)(j:∀ r∈cs,r<m)(l:S[n]? = Z (.lst (yC ps)))(k:S.all (Ob.und S.length)=M)(q:Q (.tup (nmD (iT m ps cs)),S)):W (dv 2 jr [dM (n0 ps) cs,.ref n] S) Q:=by
 refine jR O (by simp[D.unds,D.und]) ?_;unfold jr;refine jg ?_;unfold sB;have A:=(gE1.mp l).1;refine d1 (λr V=>V=S/\r=[Z (dM (n0 ps) cs),Z (.ref n),Z (.tup (eg (n0 ps))),Z (.tup (nmD cs)),Y,Y,Y]) ?_ ?_
 ·generalize C:dM (n0 ps) cs=ao;have o:ao = .tup [.tup (eg (n0 ps)),.tup (nmD cs)]:=C.symm;subst o;walk_at"w"
 rintro r V ⟨B,rfl⟩;subst B;refine d1 (λr i=>i=V++[.lst (nmD (qv ps "mark"))]/\r=[Z (dM (n0 ps) cs),Z (.ref n),Z (.tup (eg (n0 ps))),Z (.tup (nmD cs)),Z (.ref V.length),Y,Y]) ?_ ?_
 ·unfold dH;refine dw.mpr (CG hd w l O O ?_);walk_at"w"
 rintro r c ⟨d,rfl⟩;have H:c[n]?=Z (.lst (yC ps)):=by rw[d,gL1 A];exact l
 have v:c[V.length]?=Z (.lst (nmD (qv ps "mark"))):=by rw[d,dL];rfl
 refine d1 (λr i=>i=c++[.lst (nmD (qv ps "wipe"))]/\r=[Z (dM (n0 ps) cs),Z (.ref n),Z (.tup (eg (n0 ps))),Z (.tup (nmD cs)),Z (.ref V.length),Z (.ref c.length),Y]) ?_ ?_
 ·unfold dH;refine dw.mpr (CG hd w H O O ?_);walk_at"w"
 rintro r g ⟨b,rfl⟩;have s:g[V.length]?=Z (.lst (nmD (qv ps "mark"))):=by rw[b,gL1 (gE1.mp v).1];exact v
 have E:g[c.length]?=Z (.lst (nmD (qv ps "wipe"))):=by rw[b,dL];rfl
 refine d1 (λr i=>i=g++[.lst (nmD (cs.filter λr=> !(qv ps "wipe").contains r))]/\r=[Z (dM (n0 ps) cs),Z (.ref n),Z (.tup (eg (n0 ps))),Z (.tup (nmD cs)),Z (.ref V.length),Z (.ref c.length),Z (.ref g.length)]) ?_ ?_
 ·walk_at"w";rw[gg];refine iC (f:=λr:Nat=>D.int r) (λr:Nat=> !(qv ps "wipe").contains r) (λr:Nat=>D.int r) (λr=>∃x,r=[x,Z (.ref c.length)]) O cs _ ⟨_,O⟩ ?_ λI _=>?_
  ·rintro u t r ⟨x,rfl⟩
   wp_walk using rH E
   exact⟨⟨_,O⟩,λ_=>trivial⟩
  ·walk_at"w";have F:=cQ (λr:Nat=> !(qv ps "wipe").contains r) cs;exact⟨dB (by rw[lM1];lia),O,trivial⟩
 rintro r V3 ⟨a,rfl⟩;have G:V3[V.length]?=Z (.lst (nmD (qv ps "mark"))):=by rw[a,gL1 (gE1.mp s).1];exact s
 have y:V3[g.length]?=Z (.lst (nmD (cs.filter λr=> !(qv ps "wipe").contains r))):=by rw[a,dL];rfl
 have F:=cQ (λr:Nat=> !(qv ps "wipe").contains r) cs;have am:(qv ps "mark").length<=ps.length:=by unfold qv;rw[lM1];exact cQ _ _
 walk_at"w";refine(xw y G).mpr ⟨dB (by rw[ff,ff];lia),?_⟩;rw[wP];refine An (xs:=cs.filter (λr=> !(qv ps "wipe").contains r)++qv ps "mark") (m:=m) (f:=λr=>tG ps "mark" r||(cs.contains r && !tG ps "wipe" r)) (by rw[dL];rfl) (λr=>?_) (by rw[lA1];lia) ?_
 ·have z:(qv ps "wipe").contains r=tG ps "wipe" r:=by
   rw[bT,cw,yS]
  rw[aF,aA,yS,z];constructor
  ·rintro(⟨h1,h2⟩|h1)
   ·exact⟨j r h1,by rw[cw.mpr h1,h2];simp⟩
   ·refine⟨?_,by rw[h1];rfl⟩;unfold tG at h1;obtain⟨u,t,e⟩:=bU.mp h1;rw[bA1,beq_iff_eq]at e;rw[<- e.1];exact hw u t
  ·rintro⟨_,h⟩;rw[bR,bA1]at h;rcases h with h|⟨h1,h2⟩
   ·exact .inr h
   ·exact .inl ⟨cw.mp h1,h2⟩
 ·walk_at"w";refine eh (xs:=nmD (iT m ps cs)) (by rw[gF];rfl) ?_;rw[w4 (by rw[D.und];exact fx _) k (by rw[a,b,d];simp only[bf];exact bE _ _)];exact q
def Gx(m:Nat)(w:dD)(ps:List Pr)(cs:List Nat):D:=dM (ps.map λp=>f0 w p.1 p.2) (iT m ps cs)
theorem oj{m:Nat}{w:dD}{ps:List Pr}{cs:List Nat}:(Gx m w ps cs).und 0=M:=gL
theorem ED{m:Nat}{w:dD}{ps:List Pr}{cs:List Nat}{n:Nat}{S:dr}{Q:D×dr->Prop}(g:w.length=m)(hd:∀ p∈ps,il p.2)(B:ps.length<=8)(hc:cs.length<=8)(hw:∀ p∈ps,p.1.1<m)(h:∀ r∈cs,r<m)(f:S[n]? = Z (.lst (yC ps)))(b:S.all (Ob.und S.length)=M)(q:Q (Gx m w ps cs,S)):W (dv 3 lZ [ec w,dM (n0 ps) cs,.ref n] S) Q:=by
 refine jR O (by simp[D.unds,D.und]) ?_;unfold lZ;refine jg ?_;unfold yQ;have s:=(gE1.mp f).1;refine d1 (λr V=>V=S/\r=[Z (ec w),Z (dM (n0 ps) cs),Z (.ref n),Z (.tup (eg (n0 ps))),Z (.tup (nmD cs)),Y]) ?_ ?_
 ·generalize v:dM (n0 ps) cs=ao;have i:ao = .tup [.tup (eg (n0 ps)),.tup (nmD cs)]:=v.symm;subst i;walk_at"w"
 rintro r V ⟨t,rfl⟩;subst t;refine d1 (λr l=>l=V++[.lst (eg (ps.map λp=>f0 w p.1 p.2))]/\r=[Z (ec w),Z (dM (n0 ps) cs),Z (.ref n),Z (.tup (eg (n0 ps))),Z (.tup (nmD cs)),Z (.ref V.length)]) ?_ ?_
 ·unfold dH;refine dw.mpr ?_;rw[fc];refine Dn (xs:=eg (n0 ps)) (ys:=yC ps) (n:=n) O f ?_;dsimp only;rw[Gb,yC,v8];refine kW (λp:Pr=>eN (f0 w p.1 p.2)) (λr=>∃x y,r=[x,y,Z (ec w)]) (fR f) ps _ ⟨_,_,O⟩ ?_ λE _=>?_
  ·rintro u j r ⟨x,y,rfl⟩;obtain⟨row,c⟩:∃row,w[u.1.1]?=some row:=⟨_,gG1 (by rw[g];exact hw u j)⟩;walk_at"w";refine zg c (hd u j) ?_;exact⟨O,O,_,_,O⟩
  ·have e:ps.map (λp:Pr=>eN (f0 w p.1 p.2))=eg (ps.map λp=>f0 w p.1 p.2):=by unfold eg;rw[bD];rfl
   rw[e];refine⟨dB (by dsimp only;rw[n3,lM1];lia),?_⟩;walk_at"w"
 rintro r d ⟨a,rfl⟩;have C:d[n]?=Z (.lst (yC ps)):=by rw[a,gL1 s];exact f
 have A:d[V.length]?=Z (.lst (eg (ps.map λp=>f0 w p.1 p.2))):=by rw[a,dL];rfl
 have c1:d.all (Ob.und d.length)=M:=by
  rw[a,cM,bA1,lA1];rw[bH]at b;refine⟨bH.mpr λo k=>gC (bC _ _) (b o k),?_⟩;rw[bS,Ob.und,fm (xH _)];rfl
 walk_at"w";refine eh A ?_;refine zP hd B hc hw h C c1 ?_;walk_at"w";have z:D.tup [.tup (eg (ps.map λp=>f0 w p.1 p.2)),.tup (nmD (iT m ps cs))]=Gx m w ps cs:=rfl;rw[z,w4 oj b (by rw[a];exact bE _ _)];exact q
def tR(e:E4):D:=.tup (fW e.1 e.2.1 e.2.2.1 e.2.2.2)
theorem jK(e:E4):(tR e).und 0=M:=by unfold tR;rw[D.und];exact pS _ _ _ _
def mcD(e:E4)(L:List Rw):D:=.tup [tR e,.tup (L.map (eU e))]
theorem kG{e:E4}{L:List Rw}(ok:∀p∈L,gr p):(mcD e L).und 0=M:=by
 have h1:=jK e;have h2:=oX (e:=e) ok 0;unfold mcD;rw[D.und,D.unds,D.unds,h1,h2];rfl
theorem mX{k:Ky}(hk:k.Ok):il (qM k):=⟨k.m,_,_,O,hk.m,by simp[rZ],by simp[uz]⟩
theorem pW{e:E4}{L:List Rw}{k:Ky}(ok:∀p∈L,gr p)(hk:k.Ok):il (mW e L k):=by
 unfold mW;cases h:L.find? λp=>decide (p.1.code e=k.code e)with
 |none=>exact mX hk
 |some p=>exact(ok p (List.mem_of_find?_eq_some h)).2
def ky(w:dD)(ws:List Wk)(cs:List Nat)(u:Wk):Ky:=⟨u.2.2,u.2.1,if cs.contains u.1 then 1 else 0,((w[u.1]?).getD []).length,if 1<crowd ws u.1 then 1 else 0⟩
theorem xS{w:dD}{ws:List Wk}{cs:List Nat}{u:Wk}{row:List (Nat×Nat)}{e:E4}(h:w[u.1]?=Z row):xT e.1 e.2.1 e.2.2.1 e.2.2.2 ws cs u row=(ky w ws cs u).sg e:=by
 have c1:∀b:Bool,((if b=M then 1 else 0:Nat):Int)=if b=M then(1:Int)else 0:=λb=>by cases b<;>rfl
 have c2:((if 1<crowd ws u.1 then 1 else 0:Nat):Int)=if 1<crowd ws u.1 then(1:Int)else 0:=by split<;>rfl
 unfold xT ww Ky.sg NB ky pt;rw[h];dsimp only;rw[c1,c2];rfl
structure iD (m:Nat)(w:dD)(ws:List Wk)(cs:List Nat):Prop where
 web:jU m w
 m8:m<=8
 few:ws.length<=8
 cl:cs.length<=8
 wk:∀u∈ws,∃row,w[u.1]?=some row/\u.2.1<=row.length/\u.2.2<4000
 ch:∀r∈cs,r<m
theorem iD.lt{m:Nat}{w:dD}{ws:List Wk}{cs:List Nat}(h:iD m w ws cs):∀u∈ws,u.1<m:=λu b=>by
 obtain⟨a,e,_⟩:=h.wk u b;have:=(gE1.mp e).1;rw[h.web.len]at this;exact this
theorem iD.ky{m:Nat}{w:dD}{ws:List Wk}{cs:List Nat}(h:iD m w ws cs):∀u∈ws,(ky w ws cs u).Ok:=λu b=>by
 obtain⟨a,e,h1,h2⟩:=h.wk u b;have c:=h.web.le a (gM1 e);refine⟨h2,?_,?_,?_,?_⟩
 ·show u.2.1<=4;lia
 ·show(if cs.contains u.1 then 1 else 0)<=4;split<;>lia
 ·show((w[u.1]?).getD []).length<=4;rw[e];exact c
 ·show(if 1<crowd ws u.1 then 1 else 0)<=4;split<;>lia
theorem DH{m:Nat}{w:dD}{ws:List Wk}{cs:List Nat}{e:E4}{S:dr}{Q:D×dr->Prop}(h:iD m w ws cs)(q:Q (.ref S.length,S++[.lst (ws.map λu=>(ky w ws cs u).d e)])):W (dv 3 lY [ec w,tR e,dM ws cs] S) Q:=by
 refine GA O (by simp[D.unds,hK,gL,jK]) ?_;unfold lY;refine jg ?_;unfold yP ee;rw[dw,fc];refine Dq (xs:=eg ws) O ?_;dsimp only;have i:=h.few;rw[eg,tT];refine kW (λp:Wk×Nat=>(Law.ky w ws cs p.1).d e) (λr=>∃x y,r=[x,y,Z (ec w),Z (tR e),Z (dM ws cs)]) O ws.zipIdx _ ⟨_,_,O⟩ ?_ λg _=>?_
 ·rintro⟨u,k⟩ d r ⟨x,y,rfl⟩;have b:ws[k]?=Z u:=kw d;obtain⟨c,a,_⟩:=h.wk u (gM1 b)
  wp_walk using E5
  refine DT b a (by lia) ?_;walk_at"w";rw[xS a];exact⟨O,_,_,O⟩
 ·have f:(ws.zipIdx.map λp:Wk×Nat=>(Law.ky w ws cs p.1).d e)=ws.map λu=>(Law.ky w ws cs u).d e:=lu (λu=>(Law.ky w ws cs u).d e) ws;rw[f];refine⟨dB (by dsimp only;rw[lM1];lia),?_⟩;walk_at"w";exact⟨_,O,Mi.dW λu _=>Ky.und _ e 0,q⟩
def ddW(w:dD)(ws:List Wk)(cs:List Nat)(e:E4)(L:List Rw)(u:Wk):D:=mW e L (ky w ws cs u)
def kT(w:dD)(ws:List Wk)(cs:List Nat)(e:E4)(L:List Rw)(ch:List Nat)(q:Wk×Nat):D:=if ch.contains q.2 then ddW w ws cs e L q.1 else qM (ky w ws cs q.1)
def eG(w:dD)(ws:List Wk)(cs:List Nat)(e:E4)(L:List Rw)(ch:List Nat):List Pr:=ws.zipIdx.map λq=>(q.1,kT w ws cs e L ch q)
theorem A8{w:dD}{ws:List Wk}{cs:List Nat}{e:E4}{L:List Rw}{ch:List Nat}:n0 (eG w ws cs e L ch)=ws:=by
 unfold n0 eG;rw[bD];exact(lu (λu:Wk=>u) ws).trans (cH _)
theorem oB{α:Type}{l:List α}{p:α×Nat}(h:p∈l.zipIdx):p.1∈l:=gM1 (kw h)
theorem Jq{n:Nat}{f:FN}{ds:List D}{S:dr}{Q:D×dr->Prop}(hn:ds.length=n)(c:D.unds 0 ds=M)(h:W (f ds []) λp=>∃xs ys,p=(.ref 1,[.lst xs,.lst ys])/\D.unds 0 xs=M/\D.unds 0 ys=M/\Q (.ref (S.length+1),S++[.lst xs,.lst ys])):W (dv n f ds S) Q:=by
 obtain⟨p,e,xs,ys,rfl,b,a,q⟩:=h;refine⟨_,kh e hn c O,?_⟩;simp only[D.sh,mP1,bj,Ob.sh,i5 b,i5 a];exact q
theorem Fy{m:Nat}{w:dD}{ws:List Wk}{cs:List Nat}{e:E4}{L:List Rw}{S:dr}{Q:D×dr->Prop}(h:iD m w ws cs)(inc:Inc e L)(ok:∀ p∈L,gr p)(c:L.length<=4000)(q:∀b,b.und 0=M->Q (.ref (S.length+1),S++[b,.lst (ws.map (ddW w ws cs e L))])):W (dv 3 iP [ec w,mcD e L,dM ws cs] S) Q:=by
 refine Jq O (by simp[D.unds,hK,gL,kG ok]) ?_;unfold iP;refine jg ?_;unfold qj ee;have g:=h.few;have d:∀u∈ws,il (ddW w ws cs e L u):=λu a=>pW ok (h.ky u a);have f:∀S,dz (mcD e L) (.int 0) S=Z (tR e,S):=λS=>rfl;rw[dw,fc]
 wp_walk using f
 refine DH h ?_;refine eh (xs:=ws.map λu=>(ky w ws cs u).d e) O ?_;refine kW (ddW w ws cs e L) (λr=>∃x y,r=[x,y,Z (mcD e L)]) (fR O) ws _ ⟨_,_,O⟩ ?_ λi _=>?_
 ·rintro u a r ⟨x,y,rfl⟩;unfold Ky.d;walk_at"w";refine C3 inc ok c (h.ky u a) (jK e) ?_;exact⟨O,O,_,_,O⟩
 ·refine⟨dB (by dsimp only;rw[lM1];lia),?_⟩;walk_at"w";exact⟨_,_,O,Mi.dW λu _=>Ky.und _ e 0,Mi.dW λu a=>(d u a).und,q _ (by rw[Ob.und];exact Mi.dW λu _=>Ky.und _ e 0)⟩
theorem Cv{S:dr}{x:Nat}{cs:List Nat}:fY (.int x) (.tup (nmD cs)) S=Z (.bl (cs.contains x),S):=yr
theorem EB{m:Nat}{w:dD}{ws:List Wk}{cs ch:List Nat}{e:E4}{L:List Rw}{n:Nat}{S:dr}{Q:D×dr->Prop}(h:iD m w ws cs)(ok:∀ p∈L,gr p)(E:S[n]? = Z (.lst (ws.map (ddW w ws cs e L))))(g:S.all (Ob.und S.length)=M)(q:Q (Gx m w (eG w ws cs e L ch) cs,S)):W (dv 4 gD [ec w,dM ws cs,.ref n,.tup (nmD ch)] S) Q:=by
 refine jR O (by simp[D.unds,D.und]) ?_;unfold gD;refine jg ?_;unfold mj;have am:=(gE1.mp E).1;have N:=h.few;have G:∀u∈ws,il (ddW w ws cs e L u):=λu H=>pW ok (h.ky u H);have au:∀S,dz (dM ws cs) (.int 0) S=Z (.tup (eg ws),S):=λS=>rfl;have y:∀o,(S++[o])[n]?=Z (.lst (ws.map (ddW w ws cs e L))):=λo=>by rw[gL1 am];exact E
 have t:∀p∈eG w ws cs e L ch,il p.2/\p.1∈ws:=λp t=>by
  obtain⟨x,I,rfl⟩:=ci.mp t;have j:=oB I;refine⟨?_,j⟩;unfold kT;dsimp only;split
  ·exact G _ j
  ·exact mX (h.ky _ j)
 refine d1 (λr V=>V=S++[.lst []]/\r=[Z (ec w),Z (dM ws cs),Z (.ref n),Z (.tup (nmD ch)),Z (.ref S.length),Y,Y,Y,Y]) ?_ ?_
 ·walk_at"w"
 rintro r V ⟨rfl,rfl⟩;refine d1 (λr V=>V=S++[.lst (yC (eG w ws cs e L ch))] /\ ∃l s y7 y8,r=[Z (ec w),Z (dM ws cs),Z (.ref n),Z (.tup (nmD ch)),Z (.ref S.length),l,s,y7,y8]) ?_ ?_
 ·unfold fC;rw[dw];refine Dq (xs:=eg ws) (by simp only[dn,m2,b2,mV,mC,dq,gC1,cK,oS1,au]) ?_;dsimp only;rw[eg,tT];refine fz (λi r V=>V=S++[.lst ((ws.zipIdx.take i).map (kT w ws cs e L ch))] /\ ∃l s y7 y8,r=[Z (ec w),Z (dM ws cs),Z (.ref n),Z (.tup (nmD ch)),Z (.ref S.length),l,s,y7,y8]) _ 0 _ _ ⟨by simp,_,_,_,_,O⟩ (λ_ _ _ _=>rfl) ?_ ?_
  ·rintro i d v r V ⟨rfl,l,s,y7,y8,rfl⟩;rw[gP1]at v;obtain⟨⟨u,k⟩,z,rfl⟩:=oM1.mp v;have ao:ws[k]?=Z u:=kw (gM1 z);have A:=(gE1.mp z).1;rw[cT]at A;rw[bQ];have C:((ws.zipIdx.take i).map (kT w ws cs e L ch)).length<=8:=by rw[lM1,aR,cT];lia
   have f:(S++[Ob.lst ((ws.zipIdx.take i).map (kT w ws cs e L ch))])[S.length]?=Z (.lst ((ws.zipIdx.take i).map (kT w ws cs e L ch))):=by rw[dL];rfl
   have st:∀a b:Ob,(S++[a]).set S.length b=S++[b]:=λa b=>by rw[cU _ _ (nR1 _),cP];rfl
   have more:(ws.zipIdx.take (i+1)).map (kT w ws cs e L ch)=(ws.zipIdx.take i).map (kT w ws cs e L ch)++[kT w ws cs e L ch (u,k)]:=by rw[cj,z,cg];rfl
   have K:qM (ky w ws cs u) = .tup [.int u.2.2,.str "leave",.non]:=rfl;unfold eN;walk_at"w";unfold j1 fj;rw[dw];refine kl ?_;walk_at"w";refine⟨S.length,_,O,f,?_⟩
   wp_walk using Cv
   rw[more];unfold kT;dsimp only;split
   ·refine nK (y _) (i:=k) (x:=ddW w ws cs e L u) (by rw[gP1,ao];rfl) ?_;refine(ls f).mpr ⟨dB (by lia),?_⟩;rw[st];exact⟨O,_,_,_,_,O⟩
   ·skip
    refine(ls f).mpr ⟨dB (by lia),?_⟩;rw[st,K];exact⟨O,_,_,_,_,O⟩
  ·rintro r V ⟨rfl,l,s,y7,y8,rfl⟩;refine⟨O,?_,_,_,_,_,O⟩;rw[lM1,bQ,b0];unfold yC eG;rw[bD];rfl
 rintro r V ⟨rfl,l,s,y7,y8,rfl⟩;have B:D.unds 0 (yC (eG w ws cs e L ch))=M:=Mi.dW λp c=>(t p c).1.und;have c1:(S++[Ob.lst (yC (eG w ws cs e L ch))]).all (Ob.und (S++[Ob.lst (yC (eG w ws cs e L ch))]).length)=M:=by
  rw[cM,bA1,lA1];rw[bH]at g;refine⟨bH.mpr λo F=>gC (bC _ _) (g o F),?_⟩;rw[bS,Ob.und,fm B];rfl
 have mv:=λQ q=>ED (m:=m) (w:=w) (ps:=eG w ws cs e L ch) (cs:=cs) (n:=S.length) (S:=S++[Ob.lst (yC (eG w ws cs e L ch))]) (Q:=Q) h.web.len (λp c=>(t p c).1) (by unfold eG;rw[lM1,cT];exact N) h.cl (λp c=>h.lt _ (t p c).2) h.ch (by rw[dL];rfl) c1 q;rw[A8]at mv;walk_at"w";refine mv _ ?_;walk_at"w";rw[pJ oj g];exact q
theorem G5{m:Nat}{w:dD}{ws:List Wk}{cs ch:List Nat}{e:E4}{L:List Rw}{S:dr}{Q:D×dr->Prop}(h:iD m w ws cs)(inc:Inc e L)(ok:∀p∈L,gr p)(c:L.length<=4000)(q:Q (Gx m w (eG w ws cs e L ch) cs,S)):W (dv 4 hY [ec w,mcD e L,dM ws cs,.tup (nmD ch)] S) Q:=by
 refine jx O (by simp[D.unds,hK,gL,kG ok,D.und,fx]) ?_;unfold hY
 refine jg ?_;unfold nC
 have d:∀u∈ws,il (ddW w ws cs e L u):=λu a=>pW ok (h.ky u a);walk_at"w";refine Fy h inc ok c λf b=>?_;walk_at"w";refine EB h ok O ?_ ?_
 ·rw[bS,bS,gC (br _) b,Ob.und,Mi.dW λu a=>e6 (d u a).und];rfl
 ·walk_at"w";exact⟨oj,q⟩
theorem pk{rm:Nat}:∀ {ws:List Wk} {n k:Nat},(k<n->((ws.zipIdx n).filter fun p=> !(p.2 == k)&&p.1.1 == rm).length=crowd ws rm) /\
  (∀u,n<=k->ws[k-n]?=Z u->u.1=rm->((ws.zipIdx n).filter λp=> !(p.2 == k)&&p.1.1 == rm).length+1=crowd ws rm)
 |[],n,k=>⟨λ_=>rfl,λu _ h=>by simp at h⟩
 |x::ws,n,k=>by
  obtain⟨h1,h2⟩:=pk (rm:=rm) (ws:=ws) (n:=n+1) (k:=k);have d:crowd (x::ws) rm=(if x.1 == rm then 1 else 0)+crowd ws rm:=by
   unfold crowd;rw[cF];split<;>simp<;>lia
  rw[bN,cF,d];constructor
  ·intro c;have:=h1 (by lia);have e:(n == k)=J:=by rw[beq_eq_false_iff_ne];lia
   rw[e];cases hx:(x.1 == rm)with
   |true=>simp[this];lia
   |false=>simp[this]
  ·intro u c a b;by_cases z:k=n
   ·subst z;rw[cP]at a;cases a;rw[b];have:=h1 (by lia);simp[this];lia
   ·have e:(n == k)=J:=by rw[beq_eq_false_iff_ne];lia
    have:=h2 u (by lia) (by rw[show k-n=(k-(n+1))+1 by lia,gC1]at a;exact a) b;rw[e];cases hx:(x.1 == rm)with
    |true=>simp;lia
    |false=>simp;lia
theorem Ji {w x y z:D}{S S':dr}{r:Ev}{m1 m2 b a:FE}{Q:D×dr->Prop}(h1:m1 r S=some (w,S))(h2:m2 r S=some (x,S))(d:b r S=some (y,S))(c:a r S=some (z,S'))
  (q:Q (.ref S'.length,S'++[Q4 w x y z])):
  W (pB [(mC (.str "came"),m1),(mC (.str "chalk"),m2),(mC (.str "doors"),b),(mC (.str "others"),a)] r S) Q:=by
 refine W.of ?_ q;simp only[pB,Cf,mC,h1,h2,d,c,oS1,oP1,vh,qL];rfl
theorem Ck{w:dD}{ws:List Wk}{cs:List Nat}{a b c d:Bool}{k:Nat}{u:Wk}{row:List (Nat×Nat)}{S:dr}{Q:D×dr->Prop}(h:ws[k]? = Z u)(hr:w[u.1]? = Z row)(I:ws.length<=1000)(q:Q (xT a b c d ws cs u row,S)):W (dv 4 gE [ec w,.tup (fW a b c d),dM ws cs,.int k] S) Q:=by
 refine jx O (by simp[D.unds,hK,gL];rw[D.und];exact⟨pS a b c d,O⟩) ?_;unfold gE;refine jg ?_;unfold ml;have g:∀(S:dr),dz (dM ws cs) (.int 0) S=Z (.tup (eg ws),S):=λS=>rfl;have A:∀(S:dr),dz (dM ws cs) (.int 1) S=Z (.tup (nmD cs),S):=λS=>rfl;refine d1 (λr S=>S=[]/\r=[Z (ec w),Z (.tup (fW a b c d)),Z (dM ws cs),Z (.int k),Z (.int u.1),Z (.int u.2.1),Z (.int u.2.2),Y,Y]) ?_ ?_
 ·wp_walk using g
  refine jV (i:=k) (x:=eN u) (by rw[eg,gP1,h];rfl) ?_;rw[eN];walk_at"w"
 rintro r S ⟨rfl,rfl⟩;refine d1 (λr S=>∃xs,S=[.lst xs]/\(!xs.isEmpty)=decide (1<crowd ws u.1)/\r=[Z (ec w),Z (.tup (fW a b c d)),Z (dM ws cs),Z (.int k),Z (.int u.1),Z (.int u.2.1),Z (.int u.2.2),Z (.ref 0),Y]) ?_ ?_
 ·unfold dH;rw[dw,fc];refine Dq (xs:=eg ws) (by simp only[dn,m2,b2,mV,mC,dq,gC1,cK,oS1,g]) ?_;dsimp only;rw[eg,tT];refine iC (λp:Wk×Nat=> !(p.2 == k)&&p.1.1 == u.1) (λp:Wk×Nat=>eN p.1) (λr=>∃x y,r=[x,y,Z (.int k),Z (.int u.1)]) O ws.zipIdx _ ⟨_,_,O⟩ ?_ λF _=>?_
  ·rintro⟨v,j⟩ H r ⟨x,y,rfl⟩;have l:((j:Int) == (k:Int))=(j == k):=by rw[bT,beq_iff_eq,beq_iff_eq];lia
   have E:((v.1:Int) == (u.1:Int))=(v.1 == u.1):=by rw[bT,beq_iff_eq,beq_iff_eq];lia
   wp_walk using l,yn,E
   cases(j == k)with
   |true=>exact⟨O,⟨_,_,O⟩,λz=>by cases z⟩
   |false=>
    cases hh:(v.1 == u.1)with
    |true=>exact⟨O,⟨_,_,O⟩,λ_=>trivial⟩
    |false=>exact⟨O,⟨_,_,O⟩,λz=>by cases z⟩
  ·have G:=cQ (λp:Wk×Nat=> !(p.2 == k)&&p.1.1 == u.1) ws.zipIdx;rw[cT]at G;have s:=(pk (rm:=u.1) (ws:=ws) (n:=0) (k:=k)).2 u (by lia) h O;walk_at"w";refine⟨dB (by rw[lM1];lia),_,O,?_,trivial⟩;rw[<- s];generalize List.filter (λp:Wk×Nat=> !(p.2 == k)&&p.1.1 == u.1) ws.zipIdx=zs;cases zs<;>simp
 rintro r S ⟨xs,rfl,f,rfl⟩;refine d1 (λr S=>S=[.lst xs,.lst []]++[QU cs ws row.length u]/\r=[Z (ec w),Z (.tup (fW a b c d)),Z (dM ws cs),Z (.int k),Z (.int u.1),Z (.int u.2.1),Z (.int u.2.2),Z (.ref 0),Z (.ref 2)]) ?_ ?_
 ·unfold dH;rw[dw];refine Ji (S':=[.lst xs,.lst []]) (w:=.int u.2.1) (x:=.int (if cs.contains u.1 then 1 else 0)) (y:=.int row.length) (z:=.int (if 1<crowd ws u.1 then 1 else 0)) O ?_ ?_ ?_ ?_
  ·simp only[mN,dn,dq,b1,m2,b2,mV,gC1,cK,oS1,A,yr,mC,ma]
  ·obtain⟨p,e,rfl⟩:W (dz (ec w) (.int u.1) [.lst xs]) λp=>p=(.tup (row.map pD),[.lst xs]):=yV hr O;simp only[mN,dn,dq,m2,b1,b2,mV,gC1,cK,oS1,e,gY,lM1]
  ·have o:zQ (.ref 0) (.ref 1) [.lst xs,.lst []]=some (.bl (!xs.isEmpty),[.lst xs,.lst []]):=yw rfl rfl;have m:eY dq [some (ec w),some (.tup (fW a b c d)),some (dM ws cs),some (.int k),some (.int u.1),some (.int u.2.1),some (.int u.2.2),some (.ref 0),none] [.lst xs]=some (.ref 1,[.lst xs,.lst []]):=by
    obtain⟨p,e,rfl⟩:W (eY dq [some (ec w),some (.tup (fW a b c d)),some (dM ws cs),some (.int k),some (.int u.1),some (.int u.2.1),some (.int u.2.2),some (.ref 0),none] [.lst xs]) λp=>p=(.ref 1,[.lst xs,.lst []]):=by
     rw[uc];exact⟨_,O,NP,O⟩
    exact e
   simp only[mN,dn,dq,m2,b1,b2,mV,gC1,cK,oS1,m,o,ma,f];by_cases h1:1<crowd ws u.1
   ·rw[ak h1,ak (by rw[al];lia)]
   ·rw[aj h1,aj (by rw[al];lia)]
  ·walk_at"w"
 rintro r S ⟨rfl,rfl⟩;generalize t:[Ob.lst xs,.lst []]++[QU cs ws row.length u]=S2;have C:S2[2]?=Z (QU cs ws row.length u):=by rw[<- t];rfl
 walk_at"w";have B:([D.str "came",D.str "chalk",D.str "doors",D.str "others"]:List D)=[0,1,2,3].map tQ:=rfl;rw[gg,B];refine kW (iK a b c d u.2.1 (if cs.contains u.1 then 1 else 0) row.length (if 1<crowd ws u.1 then 1 else 0)) (λr=>∃x,r=[x,Z (.tup (fW a b c d)),Z (.ref 2)]) O _ _ ⟨_,O⟩ ?_ ?_
 ·rintro i hi r ⟨x,rfl⟩;refine⟨([Z (tQ i),Z (.tup (fW a b c d)),Z (.ref 2)],S2),O,?_⟩;refine⟨(M,S2),O,O,?_⟩;exact⟨_,x4 C hi O O O,O,O,_,O⟩
 ·rintro F _;walk_at"w";refine eh (xs:=[0,1,2,3].map (iK a b c d u.2.1 (if cs.contains u.1 then 1 else 0) row.length (if 1<crowd ws u.1 then 1 else 0))) (by rw[dL];rfl) ?_;exact⟨rj,q⟩
theorem Fz{F:List (TK×D)}{n:Nat}{S:dr}(h:S[n]?=Z (dO F)):z0 S n=Z F:=by
 unfold z0;rw[h];cases F<;>rfl
structure RL (e:E4)(F:List (TK×D))(L:List Rw):Prop where
 inc:Inc e L
 ok:∀p∈L,gr p
 len:L.length<=4000
 lk:∀k:Ky,k.Ok->dZ F (k.tk e)=(L.find? λp=>decide (p.1.code e=k.code e)).map (·.2)
def owD(e:E4)(n:Nat):D:=.tup [tR e,.ref n]
theorem EV{e:E4}{F:List (TK×D)}{L:List Rw}{k:Ky}{n:Nat}{S:dr}{Q:D×dr->Prop}(d:RL e F L)(hk:k.Ok)(b:S[n]?=Z (dO F))(q:Q (mW e L k,S)):W (dv 3 ic [owD e n,.int k.m,k.sg e] S) Q:=by
 refine jR O (by simp[owD,D.unds,D.und]) ?_;unfold ic;refine jg ?_;unfold nI;have f:m2 (b2 dz) (mV 0) (mC (D.int 1)) [Z (owD e n),Z (.int k.m),Z (k.sg e)] S=Z (.ref n,S):=rfl;have g:fits 2=M/\fits 3=M:=⟨Nd,Nc⟩;have c:d7 (dn (mV 1) (dn (mV 2) dq)) [Z (owD e n),Z (.int k.m),Z (k.sg e)] S=Z (k.d e,S):=by
  obtain⟨p,e,rfl⟩:W (d7 (dn (mV 1) (dn (mV 2) dq)) [some (owD e n),some (.int k.m),some (k.sg e)] S) λp=>p=(k.d e,S):=by
   rw[qr];exact⟨_,O,Nd,O⟩
  exact e
 have hc:d7 (dn (mV 1) (dn (mC (D.str "leave")) (dn (mC D.non) dq))) [Z (owD e n),Z (.int k.m),Z (k.sg e)] S=Z (qM k,S):=by
  obtain⟨p,e,rfl⟩:W (d7 (dn (mV 1) (dn (mC (D.str "leave")) (dn (mC D.non) dq))) [some (owD e n),some (.int k.m),some (k.sg e)] S) λp=>p=(qM k,S):=by
   rw[qr];exact⟨_,O,Nc,O⟩
  exact e
 have a:fH 3 [owD e n,.int k.m,k.sg e]=[Z (owD e n),Z (.int k.m),Z (k.sg e)]:=rfl;rw[a];refine W.of (x:=(.rt (mW e L k),[Z (owD e n),Z (.int k.m),Z (k.sg e)],S)) ?_ ?_
 ·simp only[ee,wV,f,c,hc,oS1,Fz b,k.keyT e];rw[oP1,d.lk k hk];rfl
 ·dsimp only;rw[yv O];exact q
def je(ws:List Wk)(dd:Wk->D)(h:Str)(ch:List Nat):List Nat:=ch.filterMap λk=>(ws[k]?).bind λu=>if dh (dd u) == h then Z u.1 else Y
theorem vn{ws:List Wk}{dd:Wk->D}{h:Str}{ch:List Nat}{k:Nat}{u:Wk}(hk:ws[k]?=Z u):je ws dd h (ch++[k])=je ws dd h ch++(if dh (dd u) == h then[u.1]else[]):=by
 unfold je;rw[List.filterMap_append]
 congr 1
 rw[aD,hk];dsimp only[oS1];cases(dh (dd u) == h)<;>rfl
theorem yt(ws:List Wk)(dd:Wk->D)(h:Str)(ch:List Nat):(je ws dd h ch).length<=ch.length:=List.length_filterMap_le ..
theorem CC {w:dD}{ws:List Wk}{cs ch:List Nat}{e:E4}{L:List Rw}{h:Str}(f:h≠"leave"){r:Nat}:(je ws (ddW w ws cs e L) h ch).contains r=tG (eG w ws cs e L ch) h r:=by
 unfold je tG eG;rw[bT,cw,aM,bU];constructor
 ·rintro⟨k,j,c⟩;obtain⟨u,l,a⟩:=oB1.mp c;split at a
  ·rename_i g;cases a;refine⟨(u,kT w ws cs e L ch (u,k)),ci.mpr ⟨(u,k),?_,O⟩,?_⟩
   ·exact List.mem_iff_getElem?.mpr ⟨k,by rw[cV,l];simp⟩
   ·unfold kT;dsimp only;rw[ak (cw.mpr j),g];simp
  ·cases a
 ·rintro⟨p,d,c⟩;obtain⟨⟨u,k⟩,i,rfl⟩:=ci.mp d;rw[bA1,beq_iff_eq]at c;obtain⟨a,b⟩:=c;unfold kT at b;dsimp only at a b;split at b
  ·rename_i hc;refine⟨k,cw.mp hc,?_⟩;rw[kw i];dsimp only[oS1];rw[ak b,a]
  ·exfalso;rw[beq_iff_eq]at b;exact f b.symm
def wd(w:dD)(ws:List Wk)(dd:Wk->D)(ch:List Nat):List Wk:=ws.zipIdx.map λq=>if ch.contains q.2 then f0 w q.1 (dd q.1)else q.1
theorem DD{w:dD}{ws:List Wk}{dd:Wk->D}:wd w ws dd []=ws:=(lu (λu:Wk=>u) ws).trans (cH _)
theorem AE{w:dD}{ws:List Wk}{dd:Wk->D}{ch:List Nat}{k:Nat}{u:Wk}(hk:ws[k]?=Z u):(wd w ws dd ch).set k (f0 w u (dd u))=wd w ws dd (ch++[k]):=by
 have a:=(gE1.mp hk).1;apply b4;intro j;unfold wd;by_cases z:k=j
 ·subst z;rw[aH (by rw[lM1,cT];exact a),gP1,cV,hk];simp
 ·rw[gS1 z,gP1,gP1,cV];cases ws[j]? with
  |none=>rfl
  |some v=>
   have:(ch++[k]).contains (0+j)=ch.contains (0+j):=by
    rw[bT,cw,cw,aF,cN];constructor
    ·rintro(h|h)
     ·exact h
     ·lia
    ·exact .inl
   simp only[oP1,this]
theorem DE{w:dD}{ws:List Wk}{dd:Wk->D}{ch:List Nat}:(wd w ws dd ch).length=ws.length:=by unfold wd;rw[lM1,cT]
theorem zh{w:dD}{ws:List Wk}{cs:List Nat}{u:Wk}:f0 w u (qM (ky w ws cs u))=u:=by
 obtain⟨a,b,c⟩:=u;rfl
theorem GM{w:dD}{ws:List Wk}{cs ch:List Nat}{e:E4}{L:List Rw}:wd w ws (ddW w ws cs e L) ch=(eG w ws cs e L ch).map λp=>f0 w p.1 p.2:=by
 unfold wd eG;rw[bD];apply cD;rintro⟨u,k⟩ _;show _=f0 w u (kT w ws cs e L ch (u,k));unfold kT;dsimp only;split
 ·rfl
 ·rw[zh]
def V3(S:dr)(a b c:List D):dr:=S++[.lst a,.lst b,.lst c]
theorem GP{S:dr}{a b c:List D}:(V3 S a b c)[S.length]?=Z (.lst a):=by unfold V3;rw[dL];rfl
theorem J0{S:dr}{a b c:List D}:(V3 S a b c)[S.length+1]?=Z (.lst b):=by unfold V3;rw[gF];rfl
theorem JZ{S:dr}{a b c:List D}:(V3 S a b c)[S.length+2]?=Z (.lst c):=by unfold V3;rw[gF];rfl
theorem JX{S:dr}{a b c x:List D}:(V3 S a b c).set S.length (.lst x)=V3 S x b c:=by unfold V3;rw[cU _ _ (nR1 _),cP];rfl
theorem Gf{S:dr}{a b c x:List D}:(V3 S a b c).set (S.length+1) (.lst x)=V3 S a x c:=by unfold V3;rw[cU _ _ (by lia),show S.length+1-S.length=1 by lia];rfl
theorem Ge{S:dr}{a b c x:List D}:(V3 S a b c).set (S.length+2) (.lst x)=V3 S a b x:=by unfold V3;rw[cU _ _ (by lia),show S.length+2-S.length=2 by lia];rfl
theorem JY{S:dr}{a b c:List D}{n:Nat}{o:Ob}(h:S[n]?=Z o):(V3 S a b c)[n]?=Z o:=by unfold V3;rw[gL1 (gE1.mp h).1];exact h
theorem Cd{S:dr}{a b c:List D}{x:Str}{h:Str}{rm i n:Nat}{xs:List Nat}{r:Ev}{T f:dr}{Q:Fl×Ev×dr->Prop}(d:r[12]? = some (some (.str x)))(m:r[8]? = some (some (.int (rm:Nat))))(hi:r[i]? = some (some (.ref n)))(hn:T[n]?=some (.lst (nmD xs)))(p:xs.length<=1000)(ht:f=T.set n (.lst (nmD (xs++if x == h then[rm]else[]))))(j:T.set n (.lst (nmD xs))=T)(q:Q (.nx,r,f)):
  W (fg (mB (m2 (b2 gEq) (mV 12) (mC (D.str h)))) (fj (uj (b2 kY) (mV i) (dn (mV 8) dq))) kJ r T) Q:=by
 have e:mV 12 r T=Z (.str x,T):=by simp[mV,d]
 have l:mV 8 r T=Z (.int (rm:Nat),T):=by simp[mV,m]
 have o:mV i r T=Z (.ref n,T):=by simp[mV,hi]
 unfold fg;rw[dw];have g:mB (m2 (b2 gEq) (mV 12) (mC (D.str h))) r T=Z (x == h,T):=by
  simp only[mB,m2,b2,e,mC,oS1,yz]
 refine⟨_,g,?_⟩;dsimp only;cases hx:(x == h)with
 |true=>
  rw[ak O];rw[hx,ak O]at ht;unfold fj;rw[dw];refine kl ?_;refine⟨_,o,n,nmD xs,O,hn,?_⟩;have k:dn (mV 8) dq r T=Z ([.int (rm:Nat)],T):=by simp only[dn,l,dq,oS1]
  refine⟨_,k,?_⟩;refine(ls hn).mpr ⟨dB (by rw[ff];lia),?_⟩;dsimp only;have:nmD xs++[D.int (rm:Nat)]=nmD (xs++[rm]):=by simp[nmD]
  rw[this,<- ht];exact dA.mpr q
 |false=>
  rw[aj (by decide)];rw[hx,aj (by decide),aN,j]at ht;rw[<- ht];exact dA.mpr q
abbrev RQ(w:dD)(x:D)(ws:List (Nat×Nat×Nat))(cs:List Nat)(b:D)(S:dr)(t:List (Option D)):List (Option D):=Z (ec w)::Z x::Z (dM ws cs)::Z b::Z (.ref S.length)::Z (.ref (S.length+1))::Z (.ref (S.length+2))::t
theorem EX {m:Nat}{w:dD}{ws:List Wk}{cs ch:List Nat}{e:E4}{F:List (TK×D)}{L:List Rw}{n k:Nat}{u:Wk}{S:dr}{chs:List Nat}{y8 y9 y10 y11 y12 y13:Option D}{Q:Fl×Ev×dr->Prop}(h:iD m w ws cs)(am:RL e F L)(hS:S[n]? = some (dO F))(hk:ws[k]? = some u)(hcl:ch.length<=100)
  (q:∀au z9 H z E s,Q (.nx,RQ w (owD e n) ws cs (.tup (nmD chs)) S [Z (.int (k:Nat)),au,z9,H,z,E,s,Y],
   V3 S (eg (wd w ws (ddW w ws cs e L) (ch++[k]))) (nmD (je ws (ddW w ws cs e L) "mark" (ch++[k]))) (nmD (je ws (ddW w ws cs e L) "wipe" (ch++[k]))))):
  W (jd (RQ w (owD e n) ws cs (.tup (nmD chs)) S [Z (.int (k:Nat)),y8,y9,y10,y11,y12,y13,Y])
   (V3 S (eg (wd w ws (ddW w ws cs e L) ch)) (nmD (je ws (ddW w ws cs e L) "mark" ch)) (nmD (je ws (ddW w ws cs e L) "wipe" ch)))) Q:=by
 have hf:=h.few;have g:=gM1 hk;obtain⟨f,l,_⟩:=h.wk u g;have N:il (ddW w ws cs e L u):=pW am.ok (h.ky u g);have T:∀S,dz (dM ws cs) (.int 0) S=Z (.tup (eg ws),S):=λS=>rfl;have o0:∀S,dz (owD e n) (.int 0) S=Z (tR e,S):=λS=>rfl;have eu:∀d,dz (.tup (eg ws)) (.int (k:Nat)) d=Z (eN u,d):=λd=>by
  obtain⟨p,e,h⟩:W (dz (.tup (eg ws)) (.int (k:Nat)) d) λp=>p=(eN u,d):=jV (by rw[eg,gP1,hk];rfl) O;rw[e,h]
 have x:=AE (w:=w) (dd:=ddW w ws cs e L) (ch:=ch) hk;have I:=vn (dd:=ddW w ws cs e L) (h:="mark") (ch:=ch) hk;have G:=vn (dd:=ddW w ws cs e L) (h:="wipe") (ch:=ch) hk;have l1:=yt ws (ddW w ws cs e L) "mark" ch;have l2:=yt ws (ddW w ws cs e L) "wipe" ch;have lw:=DE (w:=w) (ws:=ws) (dd:=ddW w ws cs e L) (ch:=ch);have y:=(gE1.mp hk).1;rw[I,G,<- x]at q;unfold jd;generalize hA:wd w ws (ddW w ws cs e L) ch=A at *
 generalize hM:je ws (ddW w ws cs e L) "mark" ch=ao at *
 generalize hP:je ws (ddW w ws cs e L) "wipe" ch=P at *
 generalize hB:D.tup (nmD chs)=B at *
 refine d1 (λr V=>V=V3 S (eg A) (nmD ao) (nmD P)/\r=RQ w (owD e n) ws cs B S [Z (.int (k:Nat)),Z (.int u.1),Z (.int u.2.1),Z (.int u.2.2),y11,y12,y13,Y]) ?_ ?_
 ·wp_walk using T,eu
  unfold eN;walk_at"w"
 rintro r V ⟨rfl,rfl⟩;have ex:=N.eta.1;refine d1 (λr V=>V=V3 S (eg A) (nmD ao) (nmD P)/\r=RQ w (owD e n) ws cs B S [Z (.int (k:Nat)),Z (.int u.1),Z (.int u.2.1),Z (.int u.2.2),Z (.int (dm (ddW w ws cs e L u):Nat)),Z (.str (dh (ddW w ws cs e L u))),Z (tD (dt (ddW w ws cs e L u))),Y]) ?_ ?_
 ·wp_walk using o0
  refine Ck hk l (by lia) ?_;rw[xS l];have U:=λQ q=>EV (k:=ky w ws cs u) (S:=V3 S (eg A) (nmD ao) (nmD P)) (Q:=Q) am (h.ky u g) (JY hS) q;walk_at"w";refine U _ ?_;show W _ _;have v:mW e L (ky w ws cs u) = .tup [.int (dm (ddW w ws cs e L u):Nat),.str (dh (ddW w ws cs e L u)),tD (dt (ddW w ws cs e L u))]:=ex;rw[v];walk_at"w"
 rintro r V ⟨rfl,rfl⟩;have i:f0 w u (ddW w ws cs e L u)=match dt (ddW w ws cs e L u) with
   |some t=>match f[t]? with
    |some p=>(p.1,p.2+1,dm (ddW w ws cs e L u))
    |none=>(u.1,u.2.1,dm (ddW w ws cs e L u))
   |none=>(u.1,u.2.1,dm (ddW w ws cs e L u)):=by
  unfold f0;rw[l];rfl
 generalize hX:ddW w ws cs e L u=X at *
 generalize hm:dm X=dmx at *
 generalize hh:dh X=dhx at *
 generalize ht:dt X=dtx at *
 refine d1 (λr V=>V=V3 S (eg A) (nmD (ao++if dhx == "mark" then[u.1]else[])) (nmD P)/\r=RQ w (owD e n) ws cs B S [Z (.int (k:Nat)),Z (.int u.1),Z (.int u.2.1),Z (.int u.2.2),Z (.int (dmx:Nat)),Z (.str dhx),Z (tD dtx),Y]) ?_ ?_
 ·refine Cd (S:=S) (a:=[]) (b:=[]) (c:=[]) O O O J0 (by lia) Gf.symm Gf ?_;exact⟨O,O,O⟩
 rintro r V ⟨rfl,rfl⟩;generalize hM2:(ao++if dhx == "mark" then[u.1]else[])=M2 at *
 refine d1 (λr V=>V=V3 S (eg A) (nmD M2) (nmD (P++if dhx == "wipe" then[u.1]else[]))/\r=RQ w (owD e n) ws cs B S [Z (.int (k:Nat)),Z (.int u.1),Z (.int u.2.1),Z (.int u.2.2),Z (.int (dmx:Nat)),Z (.str dhx),Z (tD dtx),Y]) ?_ ?_
 ·refine Cd (S:=S) (a:=[]) (b:=[]) (c:=[]) O O O JZ (by lia) Ge.symm Ge ?_;exact⟨O,O,O⟩
 rintro r V ⟨rfl,rfl⟩;generalize hP2:(P++if dhx == "wipe" then[u.1]else[])=P2 at *
 have j:∀d,dz (ec w) (.int (u.1:Nat)) d=Z (.tup (f.map pD),d):=λd=>by
  obtain⟨p,e,h⟩:W (dz (ec w) (.int (u.1:Nat)) d) λp=>p=(.tup (f.map pD),d):=yV l O;rw[e,h]
 refine d1 (λr V=>V=V3 S (eg A) (nmD M2) (nmD P2) /\ ∃a b:Nat,f0 w u X=(a,b,dmx)/\r=RQ w (owD e n) ws cs B S [Z (.int (k:Nat)),Z (.int (a:Nat)),Z (.int (b:Nat)),Z (.int u.2.2),Z (.int (dmx:Nat)),Z (.str dhx),Z (tD dtx),Y]) ?_ ?_
 ·generalize V3 S (eg A) (nmD M2) (nmD P2)=V at *
  cases dtx with
  |none=>
   dsimp only at i;have o:om (tD Y) .non V=Z (.bl J,V):=rfl
   wp_walk using o
   exact⟨_,_,i,O⟩
  |some t=>
   dsimp only at i;have o:∀d,om (tD (Z t)) .non d=Z (.bl M,d):=λd=>rfl;have el:∀d,w8 (tD (Z t)) (.int (f.length:Nat)) d=Z (.bl (decide ((t:Int)<(f.length:Int))),d):=λd=>rfl;by_cases aq:t<f.length
   ·have K:=gG1 aq;rw [K] at i;have R:∀ d,dz (.tup (f.map pD)) (tD (some t)) d=some (pD f[t],d):=fun d=>by
     obtain⟨p,e,h⟩:W (dz (.tup (f.map pD)) (.int (t:Nat)) d) λp=>p=(pD f[t],d):=jV (by rw[gP1,K];rfl) O;show dz (.tup (f.map pD)) (.int (t:Nat)) d=_;rw[e,h]
    generalize f[t]=p at *
    have p0:∀d,dz (pD p) (.int 0) d=Z (.int p.1,d):=λd=>rfl;have wq:∀d,dz (pD p) (.int 1) d=Z (.int p.2,d):=λd=>rfl
    wp_walk using o,j,gY,lM1,el
    rw[ak (by rw[al];lia)]
    wp_walk using j,R,p0,wq
    rw[show(1:Int)+(p.2:Int)=((p.2+1:Nat):Int) by lia];exact⟨_,_,i,O⟩
   ·rw[b5 (by lia)]at i
    wp_walk using o,j,gY,lM1,el
    rw[aj (by rw[al];lia)];exact⟨_,_,i,O⟩
 rintro r V ⟨rfl,a,b,C,rfl⟩;walk_at"w";refine JB GP (by rw[n3,lw];exact y) ?_;rw[JX];have e3:(eg A).set k (D.tup [.int (a:Nat),.int (b:Nat),.int (dmx:Nat)])=eg (A.set k (f0 w u X)):=by
  rw[C];unfold eg;rw[List.map_set];rfl
 rw[e3];exact q _ _ _ _ _ _
theorem yi{m:Nat}{w:dD}{ws:List Wk}{cs ch:List Nat}{e:E4}{F:List (TK×D)}{L:List Rw}{n:Nat}{S:dr}{Q:D×dr->Prop}(h:iD m w ws cs)(rl:RL e F L)(hS:S[n]? = Z (dO F))(am:S.all (Ob.und S.length)=M)(B:∀ k∈ch,k<ws.length)(au:ch.length<=8)(q:Q (Gx m w (eG w ws cs e L ch) cs,S)):W (dv 4 fM [ec w,owD e n,dM ws cs,.tup (nmD ch)] S) Q:=by
 have C:D.unds 0 [ec w,owD e n,dM ws cs,.tup (nmD ch)]=J:=by
  have:(owD e n).und 0=J:=by simp[owD,D.und,D.unds]
  simp[D.unds,this]
 refine jR O C ?_;unfold fM
 refine jg ?_;unfold nJ
 have hf:=h.few;have z:=h.web.len;have hm8:=h.m8;have X:∀S,dz (dM ws cs) (.int 0) S=Z (.tup (eg ws),S):=λS=>rfl;have R:∀S,dz (dM ws cs) (.int 1) S=Z (.tup (nmD cs),S):=λS=>rfl;refine d1 (λr V=>V=V3 S (eg (wd w ws (ddW w ws cs e L) [])) (nmD (je ws (ddW w ws cs e L) "mark" [])) (nmD (je ws (ddW w ws cs e L) "wipe" []))/\r=RQ w (owD e n) ws cs (.tup (nmD ch)) S [Y,Y,Y,Y,Y,Y,Y,Y]) ?_ ?_
 ·rw[DD]
  wp_walk using X
  simp[nT,dQ,V3,je,nmD];exact dA.mpr ⟨by simp,O,by simp⟩
 rintro r V ⟨rfl,rfl⟩;refine d1 (λr V=>V=V3 S (eg (wd w ws (ddW w ws cs e L) ch)) (nmD (je ws (ddW w ws cs e L) "mark" ch)) (nmD (je ws (ddW w ws cs e L) "wipe" ch)) /\ ∃t p s o j l g,r=RQ w (owD e n) ws cs (.tup (nmD ch)) S [t,p,s,o,j,l,g,Y]) ?_ ?_
 ·walk_at"w";rw[gg];refine fz (λi r V=>V=V3 S (eg (wd w ws (ddW w ws cs e L) (ch.take i))) (nmD (je ws (ddW w ws cs e L) "mark" (ch.take i))) (nmD (je ws (ddW w ws cs e L) "wipe" (ch.take i))) /\ ∃t p s o j l g,r=RQ w (owD e n) ws cs (.tup (nmD ch)) S [t,p,s,o,j,l,g,Y]) (nmD ch) 0 _ _ ⟨O,_,_,_,_,_,_,_,O⟩ (λ_ _ _ _=>rfl) ?_ ?_
  ·rintro i d v r V ⟨rfl,t,p,s,o,j,l,g,rfl⟩;unfold nmD at v;rw[gP1]at v;obtain⟨k,N,rfl⟩:=oM1.mp v;have E:=gM1 N;obtain⟨u,C⟩:∃u,ws[k]?=some u:=⟨_,gG1 (B k E)⟩;have ht:ch.take (i+1)=ch.take i++[k]:=by rw[cj,N];rfl
   rw[bQ]at *
   rw[ht];walk_at"w";refine EX h rl hS C (by rw[aR];lia) λp s o j l g=>?_;exact⟨O,O,_,_,_,_,_,_,_,O⟩
  ·rintro r V ⟨rfl,t,p,s,o,j,l,g,rfl⟩;rw[ff,bQ,b0];exact⟨O,O,_,_,_,_,_,_,_,O⟩
 rintro r V ⟨rfl,t,p,s,o,j,l,g,rfl⟩;have I:=λr=>CC (w:=w) (ws:=ws) (cs:=cs) (ch:=ch) (e:=e) (L:=L) (h:="mark") (by decide) (r:=r);have H:=λr=>CC (w:=w) (ws:=ws) (cs:=cs) (ch:=ch) (e:=e) (L:=L) (h:="wipe") (by decide) (r:=r);have G:=GM (w:=w) (ws:=ws) (cs:=cs) (ch:=ch) (e:=e) (L:=L);generalize je ws (ddW w ws cs e L) "mark" ch=ao at *
 generalize je ws (ddW w ws cs e L) "wipe" ch=P at *
 generalize wd w ws (ddW w ws cs e L) ch=A at *
 have gm:∀x:Nat,fY (.int x) (.ref (S.length+1)) (V3 S (eg A) (nmD ao) (nmD P))=Z (.bl (tG (eG w ws cs e L ch) "mark" x),V3 S (eg A) (nmD ao) (nmD P)):=λx=>by rw[Cw J0,I]
 have gp:∀x:Nat,gZ (.int x) (.ref (S.length+2)) (V3 S (eg A) (nmD ao) (nmD P))=Z (.bl (!tG (eG w ws cs e L ch) "wipe" x),V3 S (eg A) (nmD ao) (nmD P)):=λx=>by rw[rH JZ,H]
 refine d1 (λr V=>V=V3 S (eg A) (nmD ao) (nmD P)++[.lst (nmD (iT m (eG w ws cs e L ch) cs))] /\ ∃t p s o j l g,r=RQ w (owD e n) ws cs (.tup (nmD ch)) S [t,p,s,o,j,l,g,Z (.ref (V3 S (eg A) (nmD ao) (nmD P)).length)]) ?_ ?_
 ·wp_walk using oi
  rw[jP,Int.toNat_natCast,z];refine⟨gG (by lia),?_⟩;refine iC (f:=λx:Nat=>D.int x) (λx:Nat=>tG (eG w ws cs e L ch) "mark" x||(cs.contains x && !tG (eG w ws cs e L ch) "wipe" x)) (λx:Nat=>D.int x) (λr=>∃x,r=[x,Z (.ref (S.length+1)),Z (dM ws cs),Z (.ref (S.length+2))]) O (af m) _ ⟨_,O⟩ ?_ λr' _=>?_
  ·rintro x hx r ⟨y,rfl⟩
   wp_walk using gm,R,yr,gp
   cases tG (eG w ws cs e L ch) "mark" x with
   |true=>exact⟨O,⟨_,O⟩,λ_=>trivial⟩
   |false=>
    cases cs.contains x with
    |true=>exact⟨O,⟨_,O⟩,λ_=>trivial⟩
    |false=>exact⟨O,⟨_,O⟩,λ_=>trivial⟩
  ·have wq:=cQ (λx:Nat=>tG (eG w ws cs e L ch) "mark" x||(cs.contains x && !tG (eG w ws cs e L ch) "wipe" x)) (af m);rw[cW]at wq;walk_at"w";exact⟨dB (by rw[lM1];lia),O,_,_,_,_,_,_,_,O⟩
 rintro r V ⟨rfl,t,p,s,o,j,l,g,rfl⟩;generalize K:V3 S (eg A) (nmD ao) (nmD P)++[.lst (nmD (iT m (eG w ws cs e L ch) cs))]=V;have T:V[S.length]?=Z (.lst (eg A)):=by rw[<- K,gL1 (gE1.mp (GP (S:=S) (a:=eg A) (b:=nmD ao) (c:=nmD P))).1];exact GP
 have aq:V[(V3 S (eg A) (nmD ao) (nmD P)).length]?=Z (.lst (nmD (iT m (eG w ws cs e L ch) cs))):=by rw[<- K,cO]
 walk_at"w";refine eh T ?_;refine eh aq ?_;have U:D.tup [.tup (eg A),.tup (nmD (iT m (eG w ws cs e L ch) cs))]=Gx m w (eG w ws cs e L ch) cs:=by rw[G];rfl
 rw[U,w4 oj am (by rw[<- K];unfold V3;rw[bf];exact bE _ _)];exact q
def mJ:List E4:=[(J,J,J,J),(M,J,J,J),(J,J,M,J),(J,M,J,J),(J,J,J,M),(J,M,J,M),(M,J,J,J)]
def za(b:Bool)(n:Nat):List Nat:=if b then af (n+1)else[0]
def KS(e:E4)(m:Nat):List Ky:=(za e.1 4).flatMap λx=>(za e.2.1 1).flatMap λy=>(za e.2.2.1 4).flatMap λz=>(za e.2.2.2 1).map λw=>⟨m,x,y,z,w⟩
def Md:Ob->Bool
 | .lst xs=>D.unds 0 xs
 |_=>J
theorem yo{o:Ob}(h:Md o=M):o.und 0=M /\ ∀n,o.sh n=o:=by
 unfold Md at h;split at h
 ·rename_i xs;exact⟨by rw[Ob.und];exact h,λn=>by rw[Ob.sh,i5 h]⟩
 ·cases h
def LD(e:E4):Bool:=match gb [tR e] []with
 |some (.ref j,G)=>(match G[j]? with
  |some (.lst xs)=>D.sames xs ((KS e 0).map λk=>k.sg e)
  |_=>J)&&G.all Md
 |_=>J
theorem FF:∀e∈mJ,LD e=M:=by
 intro e a;simp only[mJ,aE,bO,or_false]at a;rcases a with rfl|rfl|rfl|rfl|rfl|rfl|rfl<;>kernel_rfl!
theorem Kp{e:E4}(m a:Nat):(KS e m).map (λk=>k.sg e)=(KS e a).map λk=>k.sg e:=by
 unfold KS;simp only[List.map_flatMap,bD];rfl
theorem A9{e:E4}{S:dr}{Q:D×dr->Prop}(he:e∈mJ)(q:∀j G,(∀o∈G,o.und 0=M)->(S++G)[S.length+j]?=Z (.lst ((KS e 0).map λk=>k.sg e))->Q (.ref (S.length+j),S++G)):W (dv 1 gb [tR e] S) Q:=by
 have hc:=FF e he;unfold LD at hc;split at hc
 ·rename_i j G f;rw[bA1]at hc;obtain⟨h1,h2⟩:=hc;split at h1
  ·rename_i xs d;have ex:=D.sames_eq h1;subst ex;have b:∀o∈G,Md o=M:=bH.mp h2;refine⟨_,kh f O (by rw[D.unds,jK];rfl) (by simp[D.und]),?_⟩;have c:G.map (Ob.sh S.length)=G:=(cD λo a=>(yo (b o a)).2 _).trans (cH _);rw[c];exact q j G (λo a=>(yo (b o a)).1) (by rw[gF];exact d)
  ·cases h1
 ·cases hc
theorem yX{e:E4}{m:Nat}(hm:m<4000):∀k∈KS e m,k.Ok/\k.m=m:=by
 intro k c;unfold KS at c;obtain⟨x,h,c⟩:=cX.mp c;obtain⟨y,g,c⟩:=cX.mp c;obtain⟨z,l,c⟩:=cX.mp c;obtain⟨w,j,rfl⟩:=ci.mp c;have d:∀b n (a:Nat),a∈za b n->a<=n:=λb n a f=>by
  unfold za at f;split at f
  ·have:=aB.mp f;lia
  ·rw[cN.mp f];exact br _
 have h1:=d _ _ _ h;have h2:=d _ _ _ g;have i:=d _ _ _ l;have o:=d _ _ _ j;exact⟨⟨hm,h1,by show y<=4;lia,i,by show w<=4;lia⟩,O⟩
theorem F7:∀e∈mJ,((KS e 0).map λk=>qT e.bs k.xs).Pairwise (· < ·):=by decide+kernel
theorem JN:∀e∈mJ,(KS e 0).length<=25:=by decide+kernel
theorem GG(e:E4)(m:Nat):KS e m=(KS e 0).map λk=>{k with m:=m}:=by
 unfold KS;simp only[List.map_flatMap,bD];rfl
theorem JO{e:E4}(he:e∈mJ){m:Nat}:(KS e m).Pairwise λa b=>a.code e<b.code e:=by
 have h:=cJ.mp (F7 e he);rw[GG,cJ];refine h.imp ?_;intro a b c;unfold Ky.code;exact Nat.add_lt_add_left c _
def nW(e:E4)(n:Nat):List Ky:=(af n).flatMap (KS e)
theorem Dl{e:E4}(he:e∈mJ){n:Nat}(hn:n<=4000):(nW e n).Pairwise λa b=>a.code e<b.code e:=by
 unfold nW;rw[List.pairwise_flatMap];refine⟨λm _=>JO he,?_⟩;refine List.Pairwise.imp_of_mem ?_ cf;intro m g d c i a h b f;have h1:=aB.mp d;have h2:=aB.mp c;obtain⟨a1,a2⟩:=yX (e:=e) (m:=m) (by lia) a h;obtain⟨b1,b2⟩:=yX (e:=e) (m:=g) (by lia) b f;have c1:=jw a1 e;have c2:=jw b1 e;unfold Ky.code;rw[a2,b2];lia
theorem fF{V G:dr}{i:Nat}{o:Ob}(h:V[i]?=Z o):(V++G)[i]?=Z o:=by
 rw[gL1 (gE1.mp h).1];exact h
theorem B8{c n k:Nat}{U V:dr}{xs:List D}{Q:D×dr->Prop}(s:HS c U V)(h:V[n]?=Z (.lst xs))(hk:k<xs.length)(q:∀x,x∈xs->Q (x,V)):W (dz (.ref n) (.int (k:Nat)) V) Q:=
 nK h (gG1 hk) (q _ (bV hk))
theorem Kr{c i e l k:Nat}{U V:dr}{xs:List D}{o:Ob}{E sg:D}{y8 y9:Option D}{Q:Fl×Ev×dr->Prop}(s:HS c U V)(hc:c<=2^45)(hk:V[e]? = some (.lst xs))(I:D.unds 0 xs=true)(R:xs.length<=1000)(K:U.length<=e)(hs:V[l]? = some o)(f:0<l)(hjk:l≠e)(m0:0<k)(m3:k<=3)(H:sg.und 0=true)(X:∀a C L,HS (c+4) U a->a[l]?=some o->a[e]?=some (.lst xs)->Q (.nx,[some (.ref 0),some (.bl true),some E,some (.int (k:Nat)),some (.ref e),some (.int (i:Nat)),some sg,C,L],a))(wq:∀a C L x,il x->HS (c+4) U a->a[l]?=some o->a[e]?=some (.lst (xs++[.tup [.tup [.int (i:Nat),sg],x]]))->Q (.nx,[some (.ref 0),some (.bl true),some E,some (.int (k:Nat)),some (.ref e),some (.int (i:Nat)),some sg,C,L],a)):
  W (gP [Z (.ref 0),Z (.bl M),Z E,Z (.int (k:Nat)),Z (.ref e),Z (.int (i:Nat)),Z sg,y8,y9] V) Q:=by
 have hp:=s.pos;unfold gP;refine d1 (λr a=>∃q,q∈rZ/\HS (c+1) U a/\a[l]?=Z o/\a[e]?=Z (.lst xs)/\r=[Z (.ref 0),Z (.bl M),Z E,Z (.int (k:Nat)),Z (.ref e),Z (.int (i:Nat)),Z sg,Z q,y9]) ?_ ?_
 ·walk_at"w";refine draw_W (s.app1 (o:=.lst [.str "leave",.str "leave",.str "mark",.str "wipe"]) rfl) (by lia) (by lia) (by lia) fun d V1 z m l1 q=>?_;have au:∀ S,kf (.int (d:Nat)) (.int 1) S=some (.int (d:Nat),S):=fun S=>by
   simp only[kf];rw[ak (u8 (by decide) (by decide)),Int.mul_one]
  have ei:∀S,ma (.bl M) S=Z (.int 1,S):=λS=>rfl
  wp_walk using ei,au
  refine B8 (xs:=[.str "leave",.str "leave",.str "mark",.str "wipe"]) z (m.at (by rw[dL];rfl) (by have:=s.len;lia)) (by show d<4;lia) λx h=>?_;refine⟨x,?_,z,m.at (fF hs) f,m.at (fF hk) (by have:=s.len;lia),O⟩;simp only[aE,bO,or_false]at h;rcases h with rfl|rfl|rfl|rfl<;>simp[rZ]
 rintro r V1 ⟨q,am,z,B,ao,rfl⟩;refine d1 (λr a=>∃x,il x/\HS (c+3) U a/\a[l]?=Z o/\a[e]?=Z (.lst xs)/\r=[Z (.ref 0),Z (.bl M),Z E,Z (.int (k:Nat)),Z (.ref e),Z (.int (i:Nat)),Z sg,Z q,Z x]) ?_ ?_
 ·walk_at"w";refine draw_W z (by lia) (by lia) (by lia) λd N t v l2 G=>?_;have p:=v.at B f;have j:=v.at ao (by have:=z.len;lia);walk_at"w";refine draw_W (t.app1 (o:=.lst [.non,.int 0,.int 1,.int 0,.int 2,.int 1,.int 3,.int 0]) O) (by lia) (by lia) (by lia) λT V3 u b aq P=>?_;walk_at"w";refine B8 (xs:=[.non,.int 0,.int 1,.int 0,.int 2,.int 1,.int 3,.int 0]) u (b.at (by rw[dL];rfl) (by have:=t.len;lia)) (by show T<8;lia) λx h=>?_;refine⟨_,⟨d,q,x,O,by lia,am,?_⟩,u,b.at (fF p) f,b.at (fF j) (by have:=s.len;lia),O⟩;simp only[aE,bO,or_false]at h;rcases h with rfl|rfl|rfl|rfl|rfl|rfl|rfl|rfl<;>simp[uz]
 rintro r N ⟨x,h,t,p,j,rfl⟩;walk_at"w";refine draw_W t (by lia) (by lia) (by lia) λd V3 u b aq G=>?_;have A:=b.at p f;have g:=b.at j (by have:=t.len;lia);walk_at"w";split
 ·refine kl ?_;walk_at"w";refine⟨e,xs,O,g,?_⟩;refine(ls g).mpr ⟨dB (by lia),?_⟩;have F:=(gE1.mp g).1;refine wq _ _ _ x h (u.set K ?_) (by rw[gS1 (by lia)];exact A) (by rw[aH F]);rw[Ob.und];refine jh.mpr λy w=>?_;rcases aF.mp w with w|w
  ·exact e6 (jh.mp I y w)
  ·rw[cN.mp w];have h1:=e6 (n:=V3.length) H;have h2:=e6 (n:=V3.length) h.und;simp[D.und,D.unds,h1,h2]
 ·exact X _ _ _ u A g
inductive MI (c:Nat)(U:dr)(e:E4)(mo kr b:Nat)(ks:List Ky)(r:Ev)(V:dr):Prop where
 |mk (L:List Rw) (y6 y7 y8 y9:Option D) (h1:HS c U V) (h2:V[kr]?=some (.lst (L.map (eU e)))) (h3:(L.map (·.1)).Sublist ks) (h4:∀p∈L,il p.2) (h5:L.length<=b)
  (h6:r=[some (.ref 0),some (.bl true),some (tR e),some (.int (mo:Nat)),some (.ref kr),y6,y7,y8,y9]):MI c U e mo kr b ks r V
theorem DV{e:E4}{L:List Rw}{n:Nat}(hn:n<=4000)(b:(L.map (·.1)).Sublist (nW e n))(d:∀p∈L,il p.2):∀p∈L,gr p:=λp a=>by
 have:=b.subset (ci.mpr ⟨p,a,O⟩);obtain⟨m,c,f⟩:=cX.mp this;exact⟨(yX (m:=m) (by have:=aB.mp c;lia) _ f).1,d p a⟩
theorem Am(e:E4)(n:Nat):nW e (n+1)=nW e n++KS e n:=by
 unfold nW;rw[List.range_succ,List.flatMap_append];simp
theorem oY{e:E4}{p:Rw}(h:il p.2):(eU e p).und 0=M:=by
 simp[eU,D.und,D.unds,Ky.und p.1 e 0,h.und]
theorem Iu{c i f g:Nat}{U V:dr}{e:E4}{r:Ev}(he:e∈mJ)(hc:c<=2^44)(hi:i<f)(m3:f<=3)(B:U.length<=g)(h:MI c U e f g (25*i) (nW e i) r V)(hr:r[5]? = some (some (.int (i:Nat)))):
  W (gO r V) λp=>p.1 = .nx/\MI (c+100) U e f g (25*(i+1)) (nW e (i+1)) p.2.1 p.2.2:=by
 obtain⟨L,K,y7,y8,y9,h1,h2,P,S,h5,rfl⟩:=h;rw[show([Z (.ref 0),Z (.bl M),Z (tR e),Z (.int (f:Nat)),Z (.ref g),K,y7,y8,y9]:Ev)[5]?=Z K from rfl]at hr;cases hr;have b:=h1.pos;have q:=JN e he;have hlk:(KS e i).length<=25:=by rw[GG,lM1];exact q
 unfold gO;walk_at"w";refine A9 he λj G hG w=>?_;have X:=(gE1.mp h2).1;refine eh w ?_;dsimp only;rw[Kp 0 i];rw[Kp 0 i]at w;refine fz (λt r l=>l[V.length+j]?=Z (.lst ((KS e i).map λk=>k.sg e))/\t<=25/\MI (c+4*t) U e f g (25*i+t) (nW e i++(KS e i).take t) r l/\r[5]?=Z (Z (.int (i:Nat)))) _ 0 _ _ ⟨w,by lia,⟨L,_,_,_,_,h1.app λo Q=>gC (br _) (hG o Q),fF h2,by simpa using P,S,by lia,O⟩,O⟩ ?_ ?_ ?_
 ·rintro t r l ⟨a,_⟩;exact fR a
 ·rintro t d F r l ⟨a,ht,⟨v,C,I,H,ao,z,y,s,u,R,rfl⟩,hr⟩;rw[show([Z (.ref 0),Z (.bl M),Z (tR e),Z (.int (f:Nat)),Z (.ref g),C,I,H,ao]:Ev)[5]?=Z C from rfl]at hr;cases hr;rw[gP1]at F;obtain⟨k,E,rfl⟩:=oM1.mp F;have am:=(gE1.mp E).1;have A:k.m=i:=(yX (e:=e) (m:=i) (by lia) k (gM1 E)).2;have n:(KS e i).take (t+1)=(KS e i).take t++[k]:=by rw[cj,E];rfl
  rw[bQ]at *
  walk_at"w";refine Kr z (by lia) y (Mi.dW λp b=>oY (u p b)) (by rw[lM1];lia) B a (by lia) (by lia) (by lia) m3 (k.sgu e 0) (λau aq T b1 b2 b3=>?_) λau aq T x wq b1 b2 b3=>?_
  ·refine⟨O,b2,by lia,⟨v,_,_,_,_,b1.more (by lia),b3,?_,u,by lia,O⟩,O⟩;rw[n,<- bf];exact s.trans (List.sublist_append_left _ _)
  ·have N:D.tup [.tup [.int (i:Nat),k.sg e],x]=eU e (k,x):=by rw[<- A];rfl
   rw[N]at b3;refine⟨O,b2,by lia,⟨v++[(k,x)],_,_,_,_,b1.more (by lia),by rw[cg];exact b3,?_,λp b=>?_,by rw[lA1];simp;lia,O⟩,O⟩
   ·rw[n,<- bf,cg];exact s.append (List.Sublist.refl _)
   ·rcases aF.mp b with b|b
    ·exact u p b
    ·rw[cN.mp b];exact wq
 ·rintro r l ⟨a,ht,⟨v,C,I,H,ao,z,y,s,u,R,rfl⟩,hr⟩;rw[lM1,bQ]at *
  rw[b0,<- Am]at s;exact⟨O,v,_,_,_,_,z.more (by lia),y,s,u,by lia,O⟩
theorem zy:[D.tup [],.tup [.str "came"],.tup [.str "doors"],.tup [.str "chalk"],.tup [.str "others"],.tup [.str "chalk",.str "others"],.tup [.str "came"]]=mJ.map tR:=rfl
theorem zC{c:Nat}{B U:dr}{Q:D×dr->Prop}(s:HS c B U)(hc:c<=2^40)(q:∀e L m,Inc e L->(∀p∈L,gr p)->L.length<=75->HS (c+400) B m->HS (c+400) U m->m.length=U.length->Q (mcD e L,m)):W (dv 2 fL [.ref 0,.bl M] U) Q:=by
 refine p8 (c':=c+400) O O s ?_;have G:=s.pos;have wq:=s.len;unfold fL;refine jg ?_;unfold kj;refine d1 (λr V=>∃e,e∈mJ/\HS (c+1) U V/\r=[Z (.ref 0),Z (.bl M),Z (tR e),Y,Y,Y,Y,Y,Y]) ?_ ?_
 ·have R:D.unds 0 (mJ.map tR)=M:=Mi.dW λe _=>jK e;walk_at"w";rw[zy];have ao:=s.here.app1 (o:=.lst (mJ.map tR)) (by rw[Ob.und];exact R);refine KL ao (by lia) (xs:=mJ.map tR) (by rw[cO]) (by lia) (by decide) (by decide) (λx A=>by obtain⟨e,_,rfl⟩:=ci.mp A;exact jK e) λx K A w N l3=>?_;obtain⟨e,y,rfl⟩:=ci.mp A;exact⟨e,y,w,O⟩
 rintro r V ⟨e,y,w,rfl⟩;have au:=w.len;refine d1 (λr V=>∃g t,0<g/\g<=3/\U.length<=t/\MI (c+2) U e g t (25*0) (nW e 0) r V) ?_ ?_
 ·walk_at"w";refine draw_W w (by lia) (by lia) (by lia) λd V3 X am l4 v=>?_;walk_at"w";exact⟨d+1,V3.length,by lia,by lia,by lia,[],Y,Y,Y,Y,X.app1 O,by rw[cO];rfl,List.Sublist.refl _,λp G=>(by cases G),by simp,by simp[Int.add_comm]⟩
 rintro r V ⟨g,t,m0,aq,E,k⟩;refine d1 (λr V=>MI (c+2+100*g) U e g t (25*g) (nW e g) r V) ?_ ?_
 ·have I:r[3]? = some (some (.int (g:Nat))):=by
   obtain⟨_,_,_,_,_,_,_,_,_,_,rfl⟩:=k;rfl
  unfold fC;rw[dw,nL];refine W.of (x:=([.int (g:Nat)],V)) (by simp only[dn,dq,mV,I,oS1]) ?_;unfold Bi;dsimp only;rw[Int.toNat_natCast];refine⟨gG (by lia),?_⟩;refine fz (λi r V=>i<=g/\MI (c+2+100*i) U e g t (25*i) (nW e i) r V) _ 0 _ _ ⟨br _,k⟩ (λ_ _ _ _=>rfl) ?_ ?_
  ·rintro i d v r V ⟨hi,k⟩;have j:=(gE1.mp v).1;rw [fK] at j;have C:d = .int (i:Nat):=by
    rw[jP,gP1,cr j]at v;exact(Option.some.inj v).symm
   subst C;rw[bQ]at *
   obtain⟨L,T,y7,y8,y9,h1,h2,u,z,H,rfl⟩:=k;walk_at"w";refine(Iu y (by lia) j aq E ⟨L,_,_,_,_,h1,h2,u,z,H,O⟩ O).mono ?_;rintro⟨f,r2,K⟩ ⟨P,F⟩;exact⟨P,by lia,F⟩
  ·rintro r V ⟨hi,k⟩;rw[fK,bQ]at k;exact⟨O,k⟩
 rintro r V ⟨L,T,y7,y8,y9,h1,h2,u,z,H,rfl⟩;have ok:=DV (by lia) u z;have inc:Inc e L:=by
  have:=(Dl y (n:=g) (by lia)).sublist u;exact List.Pairwise.of_map (S:=λa b:Ky=>a.code e<b.code e) (·.1) (λa b h=>h) this
 walk_at"w";refine eh h2 ?_;exact⟨h1.more (by lia),kG ok,λm a b l=>q e L m inc ok (by lia) a b l⟩
def rwF(e:E4)(L:List Rw):List (TK×D):=L.map λp=>(p.1.tk e,p.2)
theorem Be{e:E4}{L:List Rw}(ok:∀p∈L,gr p){k:Ky}(hk:k.Ok):dZ (rwF e L) (k.tk e)=(L.find? λp=>decide (p.1.code e=k.code e)).map (·.2):=by
 unfold rwF
 induction L with
 |nil=>rfl
 |cons p L ih=>
  have ih:=ih λq b=>ok q (mC1 _ b);rw[mP1,fT,bm];have a:=xN (e:=e) (ok p mS1).1 hk;by_cases z:p.1.code e=k.code e
  ·rw[ak (a.mpr z),ah z];rfl
  ·rw[aj (λy=>z (a.mp y)),ai z];exact ih
theorem Ha{e:E4}{L:List Rw}(inc:Inc e L)(ok:∀p∈L,gr p):((rwF e L).map (·.1)).Nodup:=by
 unfold rwF;rw[bD];refine cJ.mpr (List.Pairwise.imp_of_mem ?_ inc);intro a b f d c z;have:=(xN (e:=e) (ok a f).1 (ok b d).1).mp z;lia
theorem yB:∀(ps acc:List (TK×D)),((acc++ps).map (·.1)).Nodup->ps.foldl (λF p=>eX F p.1 p.2) acc=acc++ps
 |[],acc,_=>by simp
 |p::ps,acc,nd=>by
  have e:eX acc p.1 p.2=acc++[p]:=by
   unfold eX;rw[aj];intro y;obtain⟨q,a,e⟩:=bU.mp y;rw[cg,bG]at nd;exact nd.2.2 _ (ci.mpr ⟨q,a,O⟩) _ (ci.mpr ⟨p,mS1,O⟩) (of_decide_eq_true e)
  rw[bg,e,yB ps (acc++[p]) (by rw[bf];exact nd),bf];rfl
theorem ph{e:E4}:∀L:List Rw,j0 (L.map (eU e))=Z (rwF e L)
 |[]=>rfl
 |p::L=>by
  rw[mP1,j0,ph L];have:=p.1.keyT e;simp only[eU,x9,this,oP1,oS1];rfl
theorem Jk(F:List (TK×D)):NR F=dO F:=by cases F<;>rfl
theorem LB{F:List (TK×D)}{n:Nat}(h:∀p∈F,p.2.und 0=M):(dO F).sh n=dO F:=by
 have e:(F.map λp=>(p.1,p.2.sh n))=F:=(cD (g:=id) λp b=>by rw[wy (h p b)];rfl).trans (cH _);cases F with
 |nil=>rfl
 |cons a F=>show Ob.dcT _=Ob.dcT _;rw[e]
theorem yF{F:List (TK×D)}{n:Nat}(h:∀p∈F,p.2.und 0=M):(dO F).und n=M:=by
 cases F with
 |nil=>rfl
 |cons a F=>show Ob.und n (.dcT _)=M;rw[Ob.und];exact Mi.dW λp b=>e6 (h p b)
theorem Gk{e:E4}{L:List Rw}(inc:Inc e L)(ok:∀p∈L,gr p)(b:L.length<=4000):RL e (rwF e L) L:=⟨inc,ok,b,λk a=>Be ok a⟩
theorem Gp{e:E4}{L:List Rw}{S:dr}{Q:D×dr->Prop}(inc:Inc e L)(ok:∀p∈L,gr p)(o:L.length<=4000)(q:Q (owD e (S.length+1),S++[.lst (L.map (eU e)),dO (rwF e L)])):W (dv 1 gi [mcD e L] S) Q:=by
 have l:D.unds 0 (L.map (eU e))=M:=Mi.dW λp a=>oY (ok p a).2;have g:∀p∈rwF e L,p.2.und 0=M:=λp a=>by
  obtain⟨x,d,rfl⟩:=ci.mp a;exact(ok x d).2.und
 have b:W (gi [mcD e L] []) λp=>p=(owD e 1,[.lst (L.map (eU e)),dO (rwF e L)]):=by
  unfold gi;refine jg ?_;unfold ql;have k:∀S,dz (mcD e L) (.int 0) S=Z (tR e,S):=λS=>rfl;have c:∀S,dz (mcD e L) (.int 1) S=Z (.tup (L.map (eU e)),S):=λS=>rfl;have j:nT (.tup (L.map (eU e))) []=Z (.ref 0,[.lst (L.map (eU e))]):=by simp[nT,dQ]
  have m:pO (.ref 0) [.lst (L.map (eU e))]=Z (.ref 1,[.lst (L.map (eU e)),dO (rwF e L)]):=by
   unfold pO;rw[fQ (S:=[.lst (L.map (eU e))]) (n:=0) O];dsimp only;rw[ph,oS1,lM1,ak (by lia)];have:ny (rwF e L)=rwF e L:=by
    unfold ny;rw[yB _ _ (by rw[bi];exact Ha inc ok),bi]
   rw[this,Jk];rfl
  wp_walk using k,c,j,m
  rfl
 obtain⟨p,i,rfl⟩:=b;refine⟨_,kh i O (by rw[D.unds,kG ok];rfl) (by simp[owD,D.und,D.unds]),?_⟩;have h:(owD e 1).sh S.length=owD e (S.length+1):=by simp[owD,D.sh,D.shs,wy (jK e)]
 have f:[Ob.lst (L.map (eU e)),dO (rwF e L)].map (Ob.sh S.length)=[Ob.lst (L.map (eU e)),dO (rwF e L)]:=by
  rw[mP1,mP1,bj,Ob.sh,i5 l,LB g]
 rw[h,f];exact q
theorem Jm(xs:List D)(k:Nat):Mi.gl xs Y (Z (k:Int))=xs.take k:=by
 unfold Mi.gl;rw[HT.uF,HT.oe,List.drop_zero,Nat.sub_zero];by_cases h:k<=xs.length
 ·rw[Nat.min_eq_left h]
 ·rw[Nat.min_eq_right (by lia),b0,b7 (by lia)]
theorem Dp{m hm:FE}{r:Ev}{S:dr}{Q:D×dr->Prop}(h:W (m r S) λp=>∃n,p.1 = .ref n/\W (hm r p.2) λb=>∃(k:Nat) (xs:List D),b.1 = .int (k:Nat)/\b.2[n]?=Z (.lst xs)/\Q (.ref b.2.length,b.2++[.lst (xs.take k)])):W (ig m fu (eV hm) r S) Q:=by
 obtain⟨⟨d,c⟩,i,n,f,⟨⟨l,j⟩,g,k,xs,a,e,q⟩⟩:=h;dsimp only at f g a e q;subst f a;rw[<- Jm]at q;refine W.of ?_ q;unfold ig;rw[i,oS1];dsimp only;rw[show fu r c=Z (Y,c)from rfl,oS1];dsimp only;rw[show eV hm r c=Z (Z (k:Int),j) by unfold eV;rw[g];rfl,oS1];simp only[wv,fQ e,oP1,if_true]
theorem GE{m:FA}{k:Nat}{r:Ev}{S S1:dr}{Q:D×dr->Prop}(hm:m r S=Z ([.int (k:Nat)],S1))(hk:k<=1000)(q:Q (.ref S1.length,S1++[.lst (nmD (af k))])):W (wU m r S) Q:=by
 have e:jo 0 k=nmD (af k):=by rw[jP];rfl
 rw[<- e]at q;refine W.of ?_ q;unfold wU;rw[hm,oS1];dsimp only;rw[ak (by
  unfold xX;simp only[bA1,al];lia),Int.toNat_natCast]
theorem BY{m:Nat}:∀{ys:List D},(∀y∈ys,y∈nmD (af m)) -> ∃rs:List Nat,ys=nmD rs /\ ∀r∈rs,r<m
 |[],_=>⟨[],O,λr a=>by cases a⟩
 |y::ys,h=>by
  obtain⟨rs,e,a⟩:=BY λz c=>h z (mC1 _ c);obtain⟨r,h1,rfl⟩:=ci.mp (h y mS1);refine⟨r::rs,by rw[e];rfl,λx b=>?_⟩;rcases aE.mp b with rfl|b
  ·exact aB.mp h1
  ·exact a x b
theorem yd(rs:List Nat)(k:Nat):(nmD rs).take k=nmD (rs.take k):=by unfold nmD;rw[List.map_take]
def m7(xs:List Nat):List Nat:=(i4 (xs.map λ(r:Nat)=>(r:Int))).map Int.toNat
theorem oJ(xs:List Nat):(m7 xs).Perm xs:=by
 have:=(fI (xs.map λ(r:Nat)=>(r:Int))).map Int.toNat
 rw[bD]at this;have e:(Int.toNat∘λ(r:Nat)=>(r:Int))=id:=by funext x;simp
 rw[e,cH]at this;exact this
theorem A4(xs:List Nat):(i4 (xs.map λ(r:Nat)=>(r:Int))).map D.int=nmD (m7 xs):=by
 unfold nmD m7;rw[bD];refine cD λi hi=>?_;obtain⟨x,_,rfl⟩:=ci.mp ((fI _).mem_iff.mp hi);rfl
theorem Ct(xs:List Nat):l5 (nmD xs)=Z (xs.map λ(r:Nat)=>(r:Int)):=by
 induction xs with
 |nil=>rfl
 |cons x xs ih=>
  show(l5 (nmD xs)).map _=_;rw[ih];rfl
theorem Do{S:dr}{n:Nat}{xs:List Nat}{Q:D×dr->Prop}(h:S[n]?=Z (.lst (nmD xs)))(a:xs.length<64)(q:Q (.ref S.length,S++[.lst (nmD (m7 xs))])):W (kM (.ref n) S) Q:=by
 refine W.of ?_ q;unfold kM;simp only[h];rw[Ct,oS1,ak (by rw[lM1];exact a),A4]
theorem G4{c m lo:Nat}{B U:dr}{Q:D×dr->Prop}(s:HS c B U)(hc:c<=2^44)(hm:m<=8)(w:lo<=m)(q:∀cs e,(∀r∈cs,r<m)->cs.length<=m->lo<=cs.length->HS (c+9) B e->HS (c+9) U e->e.length=U.length->Q (.tup (nmD cs),e)):W (dv 3 ia [.ref 0,.int m,.int lo] U) Q:=by
 refine p8 (c':=c+9) O O s ?_;have I:=s.pos;have G:=s.len;unfold ia;refine jg ?_;unfold nF;refine d1 (λr V=>∃cs,(∀r∈cs,r<m)/\cs.length<=m/\lo<=cs.length/\HS (c+9) U V/\V[V.length-1]?=Z (.lst (nmD cs))/\r=[Z (.ref 0),Z (.int (m:Nat)),Z (.int (lo:Nat)),Z (.ref (V.length-1))]) ?_ ?_
 ·unfold dH;rw [dw];refine Dp ?_;unfold mN dn;rw [dw,dw];refine W.of (x:=(.ref 0,U)) rfl ?_;rw [dw,dw];refine GE (k:=m) (S1:=U) rfl (by lia) ?_;walk_at"w";have u:=s.here.app1 (o:=.lst (nmD (List.range m))) (by rw [Ob.und];exact fx _);refine wx u (by lia) (xs:=nmD (List.range m)) (by rw [cO]) (by rw [ff,cW];lia) (fx _) fun k ys V p F E j f=>?_;obtain ⟨rs,rfl,h⟩:=BY (m:=m) fun y j=>f.mem_iff.mp j;have z:rs.length=m:=by
   have:=f.length_eq;rw[ff,ff,cW]at this;exact this
  rw[ff,cW]at p;walk_at"w";refine⟨k,O,?_⟩;refine draw_W p (by lia) (by lia) (by lia) λd H v i ao K=>?_;have g:=i.at j (by rw[lA1]at E;lia);walk_at"w";refine⟨lo+d,nmD rs,by push_cast;rfl,g,?_⟩;rw[yd];refine⟨rs.take (lo+d),λr n=>h r (cA n),by rw[aR];lia,by rw[aR];lia,(v.more (by lia)).app1 (by rw[Ob.und];exact fx _),?_,?_⟩
  ·rw[Nat.add_sub_cancel,cO]
  ·rw[Nat.add_sub_cancel]
 rintro r V ⟨cs,h1,h2,am,A,C,rfl⟩;have t:=oJ cs;walk_at"w";refine Do C (by lia) ?_;refine eh (xs:=nmD (m7 cs)) (by rw[cO]) ?_;have L:=t.length_eq;exact⟨A.app1 (by rw[Ob.und];exact fx _),by rw[D.und];exact fx _,λe a b l=>q (m7 cs) e (λr n=>h1 r (t.mem_iff.mp n)) (by lia) (by lia) a b l⟩
theorem vM{c n:Nat}{B U:dr}{Q:D×dr->Prop}(s:HS c B U)(hc:c<=2^44)(h0:0<n)(p:n<=8)(q:∀ch e,(∀k∈ch,k<n)->ch.length<=n->HS (c+1) B e->HS (c+1) U e->e.length=U.length->Q (.tup (nmD ch),e)):W (dv 2 eH [.ref 0,.int n] U) Q:=by
 refine p8 (c':=c+1) O O s ?_;unfold eH;refine jg ?_;unfold lp;have h:∀S,CJ (.int 1) (.int (n:Nat)) S=Z (.int ((2^n:Nat):Int),S):=λS=>by
  simp only[CJ];rw[ak ⟨by lia,by lia,by decide⟩,Int.toNat_natCast,Int.one_mul]
  push_cast;rfl
 have h2:2^1<=2^n:=Nat.pow_le_pow_right (by decide) h0;have C:2^n<=2^8:=Nat.pow_le_pow_right (by decide) p;refine d1 (λr V=>∃b:Nat,HS (c+1) U V/\r=[Z (.ref 0),Z (.int (n:Nat)),Z (.int (b:Nat))]) ?_ ?_
 ·wp_walk using h
  generalize 2^n=t at *
  refine draw_W s.here (by lia) (by lia) (by lia) λd A o w E F=>?_;walk_at"w";exact⟨d+1,o,by simp[Int.add_comm]⟩
 rintro r V ⟨b,u,rfl⟩;walk_at"w";rw[jP,Int.toNat_natCast];refine⟨gG (by lia),?_⟩;refine iC (f:=λx:Nat=>D.int x) (λk:Nat=>Builtin.bitAnd ((b:Int)/2^k) 1 == 1) (λx:Nat=>D.int x) (λr=>∃x,r=[x,Z (.int (b:Nat))]) O (af n) _ ⟨_,O⟩ ?_ λG _=>?_
 ·rintro k j r ⟨y,rfl⟩;have g:∀ S,CI (.int (b:Nat)) (.int (k:Nat)) S=some (.int ((b:Int)/2^k),S):=fun S=>by
   simp only[CI];rw[ak (by lia),Int.toNat_natCast]
  have z:∀(i:Int) S,yA (.int i) (.int 1) S=Z (.int (Builtin.bitAnd i 1),S):=λi S=>rfl
  wp_walk using g,z
  exact⟨⟨_,O⟩,λ_=>trivial⟩
 ·have m:=cQ (λk:Nat=>Builtin.bitAnd ((b:Int)/2^k) 1 == 1) (af n);rw[cW]at m;have v:∀k∈(af n).filter λk:Nat=>Builtin.bitAnd ((b:Int)/2^k) 1 == 1,k<n:=λk j=>aB.mp (aA.mp j).1;generalize (af n).filter (λk:Nat=>Builtin.bitAnd ((b:Int)/2^k) 1 == 1)=ch at *
  walk_at"w";refine⟨dB (by rw[lM1];lia),?_⟩;refine eh (xs:=nmD ch) (by rw[cO];rfl) ?_;exact⟨u.app1 (by rw[Ob.und];exact fx _),by rw[D.und];exact fx _,λe a b l=>q ch e v m a b l⟩
def LM(w:dD)(u:Wk):Prop:=∃row,w[u.1]?=Z row/\u.2.1<=row.length/\u.2.2<4000
theorem mr{n k:Nat}{xs:List D}{x:D}{S:dr}{Q:D×dr->Prop}(h:S[n]?=Z (.lst xs))(b:xs.length=k+1)(hx:xs[k]?=Z x)(q:Q (x,S)):W (dz (.ref n) (.int (-1)) S) Q:=by
 refine W.of (x:=(x,S)) ?_ q;simp only[dz,mS,CL,h,dQ,vZ,wX,oS1];rw[aj (show¬ (0:Int) <= -1 by decide)];have e:((-1:Int)+(xs.length:Int)).toNat=k:=by lia
 have a:((xs.length:Int)+(-1:Int)).toNat=k:=by lia
 rw[ak (by lia)]
 first
  |rw[e,oS1,hx];rfl
  |rw[a,oS1,hx];rfl
  |simp[e,a,hx]
theorem A1{m:Nat}{w:dD}{ws:List Wk}{cs:List Nat}(h:iD m w ws cs){u:Wk}(f:u∈ws){x:D}(hx:il x):LM w (f0 w u x):=by
 have c:=hx.eta.2;obtain⟨a,b,h1,h2⟩:=h.wk u f;unfold f0 LM;rw[b];have base:∃a,w[(u.1,u.2.1,dm x).1]?=Z a/\(u.1,u.2.1,dm x).2.1<=a.length/\(u.1,u.2.1,dm x).2.2<4000:=⟨a,b,h1,c⟩;cases dt x with
 |none=>exact base
 |some t=>
  dsimp only[oS1];cases ep:a[t]? with
  |none=>exact base
  |some p=>
   obtain⟨r,d,e⟩:=h.web.to a (gM1 b) p (gM1 ep);exact⟨r,d,e,c⟩
theorem zj{m:Nat}{w:dD}{ws:List Wk}{cs ch:List Nat}{e:E4}{L:List Rw}(h:iD m w ws cs)(ok:∀p∈L,gr p):∀p∈eG w ws cs e L ch,il p.2/\p.1∈ws:=λp c=>by
 obtain⟨x,b,rfl⟩:=ci.mp c;have a:=oB b;refine⟨?_,a⟩;unfold kT;dsimp only;split
 ·exact pW ok (h.ky _ a)
 ·exact mX (h.ky _ a)
def Me(w:dD)(ps:List Pr):List Wk:=ps.map λp=>f0 w p.1 p.2
theorem Lj{m:Nat}{w:dD}{ws:List Wk}{cs:List Nat}{ps:List Pr}(h:iD m w ws cs)(hp:∀p∈ps,il p.2/\p.1∈ws)(d:ps.length<=8):iD m w (Me w ps) (iT m ps cs):=by
 have b:=h.m8;refine⟨h.web,h.m8,by unfold Me;rw[lM1];exact d,?_,λv c=>?_,λr e=>aB.mp (aA.mp e).1⟩
 ·unfold iT;have:=cQ (λr=>tG ps "mark" r||(cs.contains r && !tG ps "wipe" r)) (af m);rw[cW]at this;exact aC this b
 ·obtain⟨p,a,rfl⟩:=ci.mp c;exact A1 h (hp p a).2 (hp p a).1
theorem uC{w:dD}{ws:List Wk}{cs ch:List Nat}{e:E4}{L:List Rw}:(eG w ws cs e L ch).length=ws.length:=by unfold eG;rw[lM1,cT]
abbrev Wh:=List Wk×List Nat
def whD(a:Wh):D:=dM a.1 a.2
theorem kB(a:Wh)(n:Nat):(whD a).und n=M:=e6 gL
theorem n4(b:List Wh)(n:Nat):D.unds n (b.map whD)=M:=Mi.dW λa _=>kB a n
def chD(ch:List Nat):D:=.tup (nmD ch)
theorem kP(chs:List (List Nat))(n:Nat):D.unds n (chs.map chD)=M:=Mi.dW λch _=>by unfold chD;rw[D.und];exact fm (fx _)
def oI(m:Nat)(w:dD)(e:E4)(L:List Rw)(ch:List Nat)(a:Wh):Wh:=(Me w (eG w a.1 a.2 e L ch),iT m (eG w a.1 a.2 e L ch) a.2)
def eW(m:Nat)(w:dD)(e:E4)(L:List Rw)(chs:List (List Nat))(a:Wh):Wh:=chs.foldl (λa ch=>oI m w e L ch a) a
def WsC(m:Nat)(w:dD)(e:E4)(L:List Rw)(chs:List (List Nat))(a:Wh):List Wh:=(af (chs.length+1)).map λi=>eW m w e L (chs.take i) a
section
variable{m:Nat}{w:dD}{e:E4}{L:List Rw}{chs:List (List Nat)}{a:Wh}
theorem mZ:(WsC m w e L chs a).length=chs.length+1:=by unfold WsC;rw[lM1,cW]
theorem sD{i:Nat}(h:i<=chs.length):(WsC m w e L chs a)[i]?=Z (eW m w e L (chs.take i) a):=by
 unfold WsC;rw[gP1,cr (by lia)];rfl
theorem yU{ch:List Nat}:WsC m w e L (chs++[ch]) a=WsC m w e L chs a++[oI m w e L ch (eW m w e L chs a)]:=by
 unfold WsC;rw[lA1,bh,List.range_succ (n:=chs.length+1),cg]
 congr 1
 ·refine cD λi hi=>?_;rw[cG (by have:=aB.mp hi;lia)]
 ·simp only[mP1,bj];rw[b7 (by simp)];unfold eW;rw[cm];rfl
theorem uA{ch:List Nat}(h:iD m w a.1 a.2)(ok:∀p∈L,gr p):iD m w (oI m w e L ch a).1 (oI m w e L ch a).2/\(oI m w e L ch a).1.length=a.1.length:=by
 refine⟨Lj h (zj h ok) (by rw[uC];exact h.few),?_⟩;unfold oI Me;rw[lM1,uC]
theorem jt(ok:∀p∈L,gr p):∀{chs:List (List Nat)} {a:Wh},iD m w a.1 a.2->iD m w (eW m w e L chs a).1 (eW m w e L chs a).2/\(eW m w e L chs a).1.length=a.1.length
 |[],a,h=>⟨h,O⟩
 |ch::chs,a,h=>by
  obtain⟨h1,h2⟩:=uA (e:=e) (ch:=ch) h ok;obtain⟨c,b⟩:=jt ok (chs:=chs) h1;exact⟨c,b.trans h2⟩
theorem LL(ok:∀p∈L,gr p)(h:iD m w a.1 a.2):∀b∈WsC m w e L chs a,iD m w b.1 b.2:=λb c=>by
 obtain⟨i,_,rfl⟩:=ci.mp c;exact(jt ok h).1
end
structure ue (m:Nat)(rs cs:List Nat):Prop where
 few:rs.length<=8
 cl:cs.length<=8
 rs:∀r∈rs,r<m
 cs:∀r∈cs,r<m
def eJ(rs cs:List Nat):D:=.tup [.tup (nmD rs),.tup (nmD cs)]
def iY(rs cs:List Nat):Wh:=(rs.map λr=>(r,0,0),cs)
theorem ua{m:Nat}{w:dD}{rs cs:List Nat}(hw:jU m w)(hm:m<=8)(h:ue m rs cs):iD m w (iY rs cs).1 (iY rs cs).2:=by
 refine⟨hw,hm,by show(rs.map _).length<=8;rw[lM1];exact h.few,h.cl,λu b=>?_,h.cs⟩;obtain⟨r,a,rfl⟩:=ci.mp b;exact⟨_,gG1 (by rw[hw.len];exact h.rs r a),br _,by show 0<4000;decide⟩
theorem ji(rs cs:List Nat)(n:Nat):(eJ rs cs).und n=M:=e6 (by simp[eJ,D.und,D.unds,fx])
theorem yO{rs:List Nat}{S:dr}{c:Option D}{Q:List D×Ev×dr->Prop}(h:∀ b,Q (eg (iY rs []).1,b,S)):
  W (fV [] (gN 0) d9 (dU (d7 (dn (mV 0) (dn (mC (D.int 0)) (dn (mC (D.int 0)) dq))))) (nmD rs) [c] S) Q:=by
 refine kW (f:=λr:Nat=>D.int r) (λr:Nat=>eN (r,0,0)) (λr=>∃x,r=[x]) O rs _ ⟨_,O⟩ ?_ λb _=>?_
 ·rintro a d r ⟨x,rfl⟩;walk_at"w";exact⟨O,_,O⟩
 ·have e:(rs.map λr:Nat=>eN (r,0,0))=eg (iY rs []).1:=by unfold eg iY;rw[bD];rfl
  rw[e];exact h b
theorem FY{rs cs:List Nat}{S:dr}{Q:D×dr->Prop}(c:rs.length<=1000)(q:Q (whD (iY rs cs),S)):W (dv 1 l0 [eJ rs cs] S) Q:=by
 refine jx O (by rw[D.unds,ji];rfl) ?_;unfold l0;refine jg ?_;unfold yR;refine d1 (λr V=>V=[]/\r=[Z (eJ rs cs),Z (.tup (nmD rs)),Z (.tup (nmD cs))]) ?_ ?_
 ·unfold eJ;walk_at"w"
 rintro r V ⟨rfl,rfl⟩;walk_at"w";rw[gg];refine yO λb=>?_;have a:(eg (iY rs []).1).length=rs.length:=by rw[n3];exact lM1 _
 walk_at"w";refine⟨dB (by rw[a];lia),?_⟩;refine eh (xs:=eg (iY rs []).1) O ?_;exact⟨kB (iY rs cs) 0,q⟩
theorem vg{rs cs:List Nat}{S:dr}{Q:D×dr->Prop}(d:rs.length<=1000)(q:Q (whD (iY rs cs),S)):W (dv 1 fy [eJ rs cs] S) Q:=by
 refine jx O (by rw[D.unds,ji];rfl) ?_;unfold fy;refine jg ?_;unfold mn;have b:∀S,dz (eJ rs cs) (.int 0) S=Z (.tup (nmD rs),S):=λS=>rfl;have c:∀S,dz (eJ rs cs) (.int 1) S=Z (.tup (nmD cs),S):=λS=>rfl
 wp_walk using b
 rw[gg];refine yO λe=>?_;have a:(eg (iY rs []).1).length=rs.length:=by rw[n3];exact lM1 _
 walk_at"w";refine⟨dB (by rw[a];lia),?_⟩;refine eh (xs:=eg (iY rs []).1) O ?_
 wp_walk using c
 exact⟨kB (iY rs cs) 0,q⟩
theorem we{m:Nat}{w:dD}{e:E4}{L:List Rw}{chs:List (List Nat)}{a:Wh}{S:dr}{Q:D×dr->Prop}(h:iD m w a.1 a.2)(inc:Inc e L)(ok:∀ p∈L,gr p)(s:L.length<=4000)(hc:chs.length<=400)(q:Q (.ref S.length,S++[.lst ((WsC m w e L chs a).map whD)])):W (dv 4 hW [ec w,mcD e L,whD a,.tup (chs.map chD)] S) Q:=by
 have n:=kP chs 0;refine GA O (by simp[D.unds,hK,kB,kG ok,D.und,n]) ?_;unfold hW;refine jg ?_;unfold nB;refine d1 (λr V=>V=[.lst ((WsC m w e L [] a).map whD)]/\r=[Z (ec w),Z (mcD e L),Z (whD a),Z (.tup (chs.map chD)),Z (.ref 0),Y]) ?_ ?_
 ·walk_at"w";exact⟨O,trivial⟩
 rintro r V ⟨rfl,rfl⟩;refine d1 (λr V=>∃g,V=[.lst ((WsC m w e L chs a).map whD)]/\r=[Z (ec w),Z (mcD e L),Z (whD a),Z (.tup (chs.map chD)),Z (.ref 0),g]) ?_ ?_
 ·walk_at"w";rw[gg];refine fz (λi r V=>∃g,V=[.lst ((WsC m w e L (chs.take i) a).map whD)]/\r=[Z (ec w),Z (mcD e L),Z (whD a),Z (.tup (chs.map chD)),Z (.ref 0),g]) (chs.map chD) 0 _ _ ⟨_,O,O⟩ (λ_ _ _ _=>rfl) ?_ ?_
  ·rintro i d j r V ⟨g,rfl,rfl⟩;rw[gP1]at j;obtain⟨ch,k,rfl⟩:=oM1.mp j;have u:=(gE1.mp k).1;have t:chs.take (i+1)=chs.take i++[ch]:=by rw[cj,k];rfl
   have l:(chs.take i).length=i:=by rw[aR];lia
   rw[bQ]at *
   rw[t,yU];have f:=jt (e:=e) (m:=m) (w:=w) ok (chs:=chs.take i) h;have c:((WsC m w e L (chs.take i) a).map whD).length=i+1:=by rw[lM1,mZ,l]
   have o:((WsC m w e L (chs.take i) a).map whD)[i]?=Z (whD (eW m w e L (chs.take i) a)):=by
    rw[gP1,sD (by lia),b7 (by lia)];rfl
   generalize v:eW m w e L (chs.take i) a=b at *
   walk_at"w";unfold lc fj;rw[dw];refine kl ?_;walk_at"w";refine⟨0,_,O,O,?_⟩
   wp_walk using mR
   refine mr O c o ?_;walk_at"w";refine G5 (ws:=b.1) (cs:=b.2) (ch:=ch) f.1 inc ok s ?_;refine(ls O).mpr ⟨dB (by rw[c];lia),?_⟩;refine⟨_,?_,O⟩;rw[cg];rfl
  ·rintro r V ⟨g,rfl,rfl⟩;rw[lM1,bQ,b0];exact⟨O,_,O,O⟩
 rintro r V ⟨g,rfl,rfl⟩;walk_at"w";exact⟨_,O,n4 _ 0,q⟩
theorem wu{c m most:Nat}{w:dD}{B U:dr}{Q:D×dr->Prop}(hw:jU m w)(m0:0<m)(m8:m<=8)(aq:0<most)(F:most<=8)(s:HS c B U)(hc:c<=2^40)(q:∀rs cs e,ue m rs cs->0<rs.length->rs.length<=most->HS (c+30) B e->HS (c+30) U e->e.length=U.length->Q (eJ rs cs,e)):W (dv 3 fB [.ref 0,ec w,.int most] U) Q:=by
 refine p8 (c':=c+30) O O s ?_;have hp:=s.pos;have X:=s.len;have f:=hw.len;unfold fB;refine jg ?_;unfold jS;refine d1 (λr V=>∃rs,(∀x∈rs,x<m)/\rs.length<=m/\0<rs.length/\rs.length<=most/\HS (c+9) U V/\r=[Z (.ref 0),Z (ec w),Z (.int (most:Nat)),Z (.tup (nmD rs))]) ?_ ?_
 ·unfold dH;rw [dw];refine LO ?_;refine LO ?_;refine Dp ?_;unfold mN dn;rw [dw,dw];refine W.of (x:=(.ref 0,U)) rfl ?_;rw [dw,dw];refine GE (k:=m) (S1:=U) (by
   have el:∀S,eA (ec w) S=Z (.int (m:Nat),S):=λS=>by rw[oi,f]
   show(eA (ec w) U).bind _=_;rw[el];rfl) (by lia) ?_
  walk_at"w";have G:=s.here.app1 (o:=.lst (nmD (af m))) (by rw[Ob.und];exact fx _);refine wx G (by lia) (xs:=nmD (af m)) (by rw[cO]) (by rw[ff,cW];lia) (fx _) λk ys V E P N u h=>?_;obtain⟨rs,rfl,n⟩:=BY (m:=m) λy u=>h.mem_iff.mp u;have K:rs.length=m:=by
   have:=h.length_eq;rw[ff,ff,cW]at this;exact this
  rw[ff,cW]at E;walk_at"w";refine⟨k,O,?_⟩;refine draw_W E (by lia) (by lia) (by lia) λd H i g T I=>?_;have j:=g.at u (by rw[lA1]at N;lia);walk_at"w";refine⟨d+1,nmD rs,by push_cast;rw[Int.add_comm],j,?_⟩;rw[yd];have t:=i.app1 (o:=.lst (nmD (rs.take (d+1)))) (by rw[Ob.und];exact fx _);refine Do (xs:=rs.take (d+1)) (by rw[cO]) (by rw[aR];lia) ?_;refine eh (xs:=nmD (m7 (rs.take (d+1)))) (by rw[cO]) ?_;have C:=oJ (rs.take (d+1));have au:=C.length_eq;rw[aR]at au;refine⟨m7 (rs.take (d+1)),λx L=>n x (cA (C.mem_iff.mp L)),by lia,by lia,by lia,(t.app1 (by rw[Ob.und];exact fx _)).more (by lia),O⟩
 rintro r V ⟨rs,h1,h2,v,z,ao,rfl⟩;have A:∀cs:List Nat,D.tup [.tup (nmD rs),.tup (nmD cs)]=eJ rs cs:=λcs=>rfl;walk_at"w";refine draw_W ao (by lia) (by lia) (by lia) λd H i g T I=>?_;walk_at"w";split
 ·wp_walk using oi
  rw[f];refine G4 (lo:=0) i (by lia) m8 (br _) λcs V3 p R _ t am l3=>?_;walk_at"w";rw[A];exact⟨t.more (by lia),ji rs cs 0,λe a b l=>q rs cs e ⟨by lia,by lia,h1,p⟩ v z a b l⟩
 ·have:=A [];rw[show nmD []=[]from rfl]at this;rw[this];exact⟨i.more (by lia),ji rs [] 0,λe a b l=>q rs [] e ⟨by lia,by simp,h1,λr wq=>by cases wq⟩ v z a b l⟩
mutual
def vd(S:dr):D->Bool
 | .non=>M
 | .bl _=>M
 | .int _=>M
 | .str _=>M
 | .tup xs=>hO S xs
 | .rol xs=>hO S xs
 | .ref n=>match S[n]? with
  |some (.lst _)=>M
  |some (.dct _)=>M
  |some (.dcT _)=>M
  |_=>J
 | .fn _=>J
def hO(S:dr):List D->Bool
 |[]=>M
 |d::ds=>vd S d&&hO S ds
end
mutual
theorem JW{S T:dr}:∀{d:D},vd S d=M->d.und 0=M->vd T d=M
 | .non,_,_=>by rw[vd]
 | .bl _,_,_=>by rw[vd]
 | .int _,_,_=>by rw[vd]
 | .str _,_,_=>by rw[vd]
 | .tup xs,v,h=>by rw[D.und]at h;rw[vd]at v ⊢;exact oF v h
 | .rol xs,v,h=>by rw[D.und]at h;rw[vd]at v ⊢;exact oF v h
 | .ref k,_,h=>by simp[D.und]at h
 | .fn x,v,_=>by simp[vd]at v
theorem oF{S T:dr}:∀{ds:List D},hO S ds=M->D.unds 0 ds=M->hO T ds=M
 |[],_,_=>by rw[hO]
 |d::ds,v,h=>by
  rw[D.unds,bA1]at h;rw[hO,bA1]at v;rw[hO,JW v.1 h.1,oF v.2 h.2];rfl
end
theorem jW{S:dr}{d:D}:∀{ds:List D},hO S ds=M->d∈ds->vd S d=M
 |[],_,h=>by cases h
 |x::ds,h,m=>by
  rw[hO,bA1]at h;rcases aE.mp m with z|z
  ·rw[z];exact h.1
  ·exact jW h.2 z
theorem sr{n:Nat}{f:FN}{ds:List D}{S:dr}{Q:D×dr->Prop}(hn:ds.length=n)(a:fh S)(hv:hO S ds=M)(h:∀T,fh T->hO T ds=M->W (f ds T) λp=>(∃G,p.2=T++G)/\p.1.und 0=M/\Q (p.1,S)):W (dv n f ds S) Q:=by
 cases hu:D.unds 0 ds with
 |true=>exact jx hn hu ((h [] rfl (oF hv hu)).mono λp q=>⟨q.2.1,q.2.2⟩)
 |false=>
  refine jR hn hu ((h S a hv).mono ?_);rintro⟨d,V⟩ ⟨⟨G,e⟩,b,q⟩;dsimp only at e b q;subst e;rw[pJ b a];exact q
def vj:D->Bool
 | .tup _=>M
 |_=>J
def isI:D->Bool
 | .int _=>M
 |_=>J
def Lb:D->Bool
 | .bl _=>M
 |_=>J
theorem lA{S:dr}{d:D}(h:vd S d=M):mO S .tuple d=Z (vj d):=by
 cases d with
 |ref n=>
  rw[vd]at h;rw[mO];split at h<;>first|(rename_i e;rw[e];rfl)|rfl|cases h
 |fn x=>simp[vd]at h
 |_=>rfl
theorem wj{S:dr}{d:D}(h:vd S d=M):mO S .int d=Z (isI d||Lb d):=by
 cases d with
 |ref n=>
  rw[vd]at h;rw[mO];split at h<;>first|(rename_i e;rw[e];rfl)|rfl|cases h
 |fn x=>simp[vd]at h
 |_=>rfl
theorem sK{S:dr}{d:D}(h:vd S d=M):mO S .bool d=Z (Lb d):=by
 cases d with
 |ref n=>
  rw[vd]at h;rw[mO];split at h<;>first|(rename_i e;rw[e];rfl)|rfl|cases h
 |fn x=>simp[vd]at h
 |_=>rfl
theorem NZ{S:dr}{d:D}(h:vd S d=M):hO S [d]=M:=by rw[hO,hO,h];rfl
theorem vd1'{S:dr}{d:D}{ds:List D}(h:hO S (d::ds)=M):vd S d=M:=jW h mS1
theorem DF{d:D}{S:dr}{Q:D×dr->Prop}(c:fh S)(hv:vd S d=M)(q:Q (.bl (isI d),S)):W (dv 1 iM [d] S) Q:=by
 refine sr O c (NZ hv) λT _ a=>?_;have h1:=wj (vd1' a);have h2:=sK (vd1' a);unfold iM;refine jg ?_;unfold qg
 wp_walk using gy,h1,h2
 cases d with
 |int i=>exact⟨⟨[],(aN T).symm⟩,O,q⟩
 |bl b=>exact⟨⟨[],(aN T).symm⟩,O,q⟩
 |_=>exact⟨⟨[],(aN T).symm⟩,O,q⟩
theorem GC{f g:FN}{a b c:FE}{r:Ev}{S:dr}{Q:D×dr->Prop}:W (ER f g a b c r S) Q↔W (a r S) λp=>W (b r p.2) λq=>W (f [p.1,q.1] q.2) λt=>W (match t.1 with | .bl k=>if k=true then(c r t.2).bind λz=>g [q.1,z.1] z.2 else some (.bl false,t.2)|_=>none) Q:=by
 unfold ER;simp only[dw]
 try exact Iff.rfl
def jy(m:Nat):D->Bool
 | .int i=>decide (0<=i)&&decide (i<m)
 |_=>J
theorem FX{m:Nat}{d:D}(h:isI d=J):jy m d=J:=by
 cases d with
 |int i=>cases h
 |_=>rfl
theorem Df{d:D}(h:isI d=M):∃i,d = .int i:=by
 cases d with
 |int i=>exact⟨i,O⟩
 |_=>cases h
theorem FH{r:Ev}{S:dr}{m i:Nat}{j:Int}{c:FE}{Q:D×dr->Prop}(hi:r[i]?=Z (Z (.int j)))(hc:c r S=Z (.int m,S))(q:Q (.bl (decide (0<=j)&&decide (j<m)),S)):W (ER (b2 (gU λi j=>decide (i<=j))) (b2 w8) (mC (D.int (0))) (mV i) c r S) Q:=by
 have e:mV i r S=Z (.int j,S):=by unfold mV;rw[hi]
 rw[GC];unfold mC;rw[dA];dsimp only;rw[e,dA];dsimp only;unfold b2 gU;dsimp only;rw[dA];dsimp only;cases h:decide (0<=j)with
 |false=>
  rw[aj (by decide),dA];rw[h]at q;exact q
 |true=>
  rw[ak O,hc,dw,dA];rw[h]at q;exact W.of O q
theorem FW{m:Nat}{d:D}{S:dr}{Q:D×dr->Prop}(c:fh S)(hv:vd S d=M)(q:Q (.bl (jy m d),S)):W (dv 2 gQ [d,.int m] S) Q:=by
 refine sr O c (by rw[hO,hv,hO,hO,vd];rfl) λT e a=>?_;have b:=vd1' a;unfold gQ;refine jg ?_;unfold qh;walk_at"w";refine DF e b ?_;walk_at"w";cases hw:isI d with
 |false=>
  rw[aj (by decide)];rw[FX hw]at q
  first|exact⟨⟨[],(aN T).symm⟩,rfl,q⟩|(rw[dA];exact⟨⟨[],(aN T).symm⟩,O,q⟩)
 |true=>
  rw[ak O];obtain⟨i,rfl⟩:=Df hw;refine FH (m:=m) O O ?_
  try walk_at"w"
  exact⟨⟨[],(aN T).symm⟩,O,q⟩
mutual
def bd(k:Nat):D->Bool
 | .tup xs=>decide (xs.length<=k)&&Aw k xs
 | .non=>M
 | .bl _=>M
 | .int _=>M
 | .str _=>M
 | .rol _=>J
 | .ref _=>M
 | .fn _=>J
def Aw(k:Nat):List D->Bool
 |[]=>M
 |d::ds=>bd k d&&Aw k ds
end
mutual
theorem kQ{k k':Nat}(h:k<=k'):∀{d:D},bd k d=M->bd k' d=M
 | .tup xs,q=>by
  rw[bd,bA1,al]at q;rw[bd,vP h q.2,ah (by lia)];rfl
 | .non,_=>by rw[bd]
 | .bl _,_=>by rw[bd]
 | .int _,_=>by rw[bd]
 | .str _,_=>by rw[bd]
 | .rol _,q=>by simp[bd]at q
 | .ref _,_=>by rw[bd]
 | .fn _,q=>by simp[bd]at q
theorem vP{k k':Nat}(h:k<=k'):∀{ds:List D},Aw k ds=M->Aw k' ds=M
 |[],_=>by rw[Aw]
 |d::ds,q=>by
  rw[Aw,bA1]at q;rw[Aw,kQ h q.1,vP h q.2];rfl
end
theorem ub{k:Nat}:∀xs:List D,Aw k xs=xs.all (bd k)
 |[]=>by rw[Aw];rfl
 |x::xs=>by rw[Aw,ub xs];rfl
theorem wg{S:dr}:∀xs:List D,hO S xs=xs.all (vd S)
 |[]=>by rw[hO];rfl
 |x::xs=>by rw[hO,wg xs];rfl
theorem kC{n:Nat}:∀xs:List D,D.unds n xs=xs.all (D.und n)
 |[]=>rfl
 |x::xs=>by rw[D.unds,kC xs];rfl
structure Ok (k:Nat)(S:dr)(d:D):Prop where
 v:vd S d=true
 u:d.und S.length=true
 b:bd k d=true
theorem Ok.tup{k:Nat}{S:dr}{xs:List D}(b:xs.length<=k)(h:∀x∈xs,Ok k S x):Ok k S (.tup xs):=by
 refine⟨?_,?_,?_⟩
 ·rw[vd,wg,bH];exact λx a=>(h x a).v
 ·rw[D.und,kC,bH];exact λx a=>(h x a).u
 ·rw[bd,ub,bA1,al,bH];exact⟨b,λx a=>(h x a).b⟩
theorem Ok.of{k:Nat}{S:dr}{xs:List D}(h:Ok k S (.tup xs)):xs.length<=k /\ ∀x∈xs,Ok k S x:=by
 obtain⟨h1,h2,b⟩:=h;rw[vd,wg,bH]at h1;rw[D.und,kC,bH]at h2;rw[bd,ub,bA1,al,bH]at b;exact⟨b.1,λx a=>⟨h1 x a,h2 x a,b.2 x a⟩⟩
theorem Ok.more{k k':Nat}{S:dr}{d:D}(h:Ok k S d)(hk:k<=k'):Ok k' S d:=⟨h.v,h.u,kQ hk h.b⟩
mutual
theorem Gd{k:Nat}{S:dr}:∀{d:D},bd k d=M->d.und 0=M->vd S d=M
 | .non,_,_=>by rw[vd]
 | .bl _,_,_=>by rw[vd]
 | .int _,_,_=>by rw[vd]
 | .str _,_,_=>by rw[vd]
 | .tup xs,v,h=>by
  rw[D.und]at h;rw[bd,bA1]at v;rw[vd];exact AH v.2 h
 | .rol xs,v,h=>by simp[bd]at v
 | .ref k,_,h=>by simp[D.und]at h
 | .fn x,v,_=>by simp[bd]at v
theorem AH{k:Nat}{S:dr}:∀{ds:List D},Aw k ds=M->D.unds 0 ds=M->hO S ds=M
 |[],_,_=>by rw[hO]
 |d::ds,v,h=>by
  rw[D.unds,bA1]at h;rw[Aw,bA1]at v;rw[hO,Gd v.1 h.1,AH v.2 h.2];rfl
end
theorem Ok.shut{k:Nat}{S:dr}{d:D}(h:d.und 0=M)(hb:bd k d=M):Ok k S d:=⟨Gd hb h,e6 h,hb⟩
theorem Ok.lst{k n:Nat}{S:dr}{xs:List D}(h:S[n]?=Z (.lst xs)):Ok k S (.ref n):=⟨by rw[vd,h],by rw[D.und,al];exact(gE1.mp h).1,by rw[bd]⟩
theorem Ok.dct{k n:Nat}{S:dr}{xs:List (Key×D)}(h:S[n]?=Z (.dct xs)):Ok k S (.ref n):=⟨by rw[vd,h],by rw[D.und,al];exact(gE1.mp h).1,by rw[bd]⟩
theorem Ok.nm{k:Nat}{S:dr}{rs:List Nat}(h:rs.length<=k):Ok k S (.tup (nmD rs)):=Ok.tup (by rw[ff];exact h) λx a=>by
 obtain⟨i,_,rfl⟩:=ci.mp a;exact .shut O (by rw[bd])
mutual
theorem sJ{S S':dr}(h:∀n,vd S (.ref n)=M->vd S' (.ref n)=M):∀{d:D},vd S d=M->vd S' d=M
 | .non,_=>by rw[vd]
 | .bl _,_=>by rw[vd]
 | .int _,_=>by rw[vd]
 | .str _,_=>by rw[vd]
 | .tup xs,q=>by rw[vd]at q ⊢;exact oE h q
 | .rol xs,q=>by rw[vd]at q ⊢;exact oE h q
 | .ref n,q=>h n q
 | .fn x,q=>by simp[vd]at q
theorem oE{S S':dr}(h:∀n,vd S (.ref n)=M->vd S' (.ref n)=M):∀{ds:List D},hO S ds=M->hO S' ds=M
 |[],_=>by rw[hO]
 |d::ds,q=>by
  rw[hO,bA1]at q;rw[hO,sJ h q.1,oE h q.2];rfl
end
mutual
theorem AI{A B:dr}:∀{d:D},vd (A++B) d=M->d.und A.length=M->vd A d=M
 | .non,_,_=>by rw[vd]
 | .bl _,_,_=>by rw[vd]
 | .int _,_,_=>by rw[vd]
 | .str _,_,_=>by rw[vd]
 | .tup xs,q,u=>by rw[vd]at q ⊢;rw[D.und]at u;exact sI q u
 | .rol xs,q,u=>by rw[vd]at q ⊢;rw[D.und]at u;exact sI q u
 | .ref n,q,u=>by
  rw[D.und,al]at u;rw[vd]at q ⊢;rw[gL1 u]at q;exact q
 | .fn x,q,_=>by simp[vd]at q
theorem sI{A B:dr}:∀{ds:List D},hO (A++B) ds=M->D.unds A.length ds=M->hO A ds=M
 |[],_,_=>by rw[hO]
 |d::ds,q,u=>by
  rw[hO,bA1]at q;rw[D.unds,bA1]at u;rw[hO,AI q.1 u.1,sI q.2 u.2];rfl
end
theorem Fk{o:Ob}{n:Nat}(h:Hnd o n):∃xs,o = .lst xs:=by
 obtain⟨g,m,c,rfl,_⟩:=h;exact⟨_,O⟩
theorem Ok.on{k n n':Nat}{o o':Ob}{T G:dr}{d:D}(h:Ok k (o::T) d)(ho:Hnd o' n'):Ok k (o'::(T++G)) d:=by
 refine⟨sJ (λi hi=>?_) h.v,AM (by simp) h.u,h.b⟩;obtain⟨xs,rfl⟩:=Fk ho;cases i with
 |zero=>rw[vd];rfl
 |succ i=>
  rw[vd,gC1]at hi ⊢;cases e:T[i]? with
  |none=>rw[e]at hi;cases hi
  |some x=>
   rw[gL1 (gE1.mp e).1,e];rw[e]at hi;exact hi
abbrev ClT(T:dr):Prop:=T.all (Ob.und (T.length+1))=M
theorem yL{m k n':Nat}{f:FN}{ds:List D}{o:Ob}{T:dr}{Q:D×dr->Prop}(hn:ds.length=m)(g:D.unds 0 ds=J)(d:ClT T)(h:W (f ds (o::T)) λp=>∃x o' G,p=(x,o'::(T++G))/\Hnd o' n'/\ClT (T++G)/\Ok k (o'::(T++G)) x)(q:∀x o' G,Hnd o' n'->ClT (T++G)->Ok k (o'::(T++G)) x->Q (x,o'::(T++G))):W (dv m f ds (o::T)) Q:=by
 refine jR hn g (h.mono ?_);rintro p ⟨x,o',G,rfl,c,hc,b⟩;unfold gc;split
 ·rename_i a;have e:(o'::(T++G)).take (o::T).length=o'::(T++[]):=by rw[aN,lC1,List.take_succ_cons,cI]
  rw[e];refine q x o' [] c (by rw[aN];exact d) ⟨?_,?_,b.b⟩
  ·rw[bA1]at a;rw[aN];refine AI (A:=o'::T) (B:=G) (by rw[bt];exact b.v) ?_;have:=a.1
   rwa [lC1]at this
  ·rw[bA1]at a;rw[aN];have:=a.1
   rwa [lC1]at this
 ·exact q x o' G c hc b
theorem C6{T G:dr}(h:ClT T)(hg:∀o∈G,o.und ((T++G).length+1)=M):ClT (T++G):=by
 rw[ClT,bH]at h ⊢;intro o a;rcases aF.mp a with a|a
 ·exact gC (by rw[lA1];lia) (h o a)
 ·exact hg o a
def EK(k:Nat)(r:Ev)(o:Ob)(T:dr)(e:FE):Prop:=∀G,ClT (T++G)->W (e r (o::(T++G))) λp=>∃G',p.2=o::(T++(G++G'))/\ClT (T++(G++G'))/\Ok k (o::(T++(G++G'))) p.1
def AK(k:Nat)(r:Ev)(o:Ob)(T:dr)(n:Nat)(a:FA):Prop:=∀G,ClT (T++G)->W (a r (o::(T++G))) λp=>∃G',p.2=o::(T++(G++G'))/\ClT (T++(G++G'))/\p.1.length=n /\ ∀x∈p.1,Ok k (o::(T++(G++G'))) x
section
variable{k n N:Nat}{r:Ev}{o:Ob}{T:dr}{e:FE}{a:FA}{d:D}
theorem g0(ho:Hnd o N)(h:∀S,e r S=Z (d,S))(hd:Ok k (o::T) d):EK k r o T e:=λG a=>by
 refine W.of (h _) ⟨[],by rw[aN],by rw[aN];exact a,?_⟩;rw[aN];exact hd.on (n:=N) ho
theorem iV:AK k r o T 0 dq:=λG a=>W.of O ⟨[],by rw[aN],by rw[aN];exact a,O,λx h=>by cases h⟩
theorem dN(ho:Hnd o N)(he:EK k r o T e)(ha:AK k r o T n a):AK k r o T (n+1) (dn e a):=λG i=>by
 unfold dn;rw[dw];refine(he G i).mono ?_;rintro⟨d,S⟩ ⟨G1,c,h1,h2⟩;dsimp only at c h2 ⊢;subst c;rw[dw];refine(ha (G++G1) h1).mono ?_;rintro⟨l,S⟩ ⟨G2,g,h,f,b⟩;dsimp only at g f b ⊢;subst g;rw[bf]at h b;refine dA.mpr ⟨G1++G2,by rw[bf],h,by rw[lC1,f],λx j=>?_⟩;rcases aE.mp j with z|z
 ·rw[z];have:=h2.on (n:=N) (G:=G2) ho
  rwa [bf,bf]at this
 ·exact b x z
theorem mU(ha:AK k r o T n a)(hn:n<=k)(hk:k<=1000):EK k r o T (d7 a):=λG d=>by
 rw[qr];refine(ha G d).mono ?_;rintro⟨l,S⟩ ⟨G1,b,h1,h2,c⟩;dsimp only at b h2 c ⊢;subst b;exact⟨dB (by lia),G1,O,h1,.tup (by lia) c⟩
theorem HZ{k:Nat}{S:dr}{L:List D}(h:∀x∈L,Ok k S x):D.unds S.length L=M:=by rw[kC,bH];exact λx a=>(h x a).u
theorem lG(a:ClT T){L:List D}(h:∀x∈L,Ok k (o::T) x):ClT (T++[.lst L]):=C6 a λx b=>by
 rw[cN.mp b,Ob.und];refine i3 ?_ (HZ h);simp
theorem Cj(ha:AK k r o T n a)(hn:n<=1000)(G:dr)(e:ClT (T++G)):W (eY a r (o::(T++G))) λp=>∃b L,p=(.ref (T++(G++b)).length.succ,o::(T++(G++b)++[.lst L]))/\ClT (T++(G++b)++[.lst L])/\L.length=n /\ ∀x∈L,Ok k (o::(T++(G++b))) x:=by
 rw[uc];refine(ha G e).mono ?_;rintro⟨l,S⟩ ⟨G1,d,h1,h2,c⟩;dsimp only at d h2 c ⊢;subst d;exact⟨dB (by lia),G1,l,O,lG h1 c,h2,c⟩
theorem Jd(ho:Hnd o N)(ha:AK k r o T n a)(hn:n<=1000):EK k r o T (eY a):=λG b=>by
 refine(Cj ha hn G b).mono ?_;rintro p ⟨G1,L,rfl,h1,h2,c⟩;refine⟨G1++[.lst L],by simp,by simpa using h1,.lst (xs:=L) ?_⟩;rw[cE,gC1,show T++(G++(G1++[Ob.lst L]))=(T++(G++G1))++[Ob.lst L] by simp,dL];rfl
theorem Fw:EK k r o T pA:=λG a=>by
 refine W.of (x:=(.ref (T++G).length.succ,o::(T++G++[.dct []]))) O ⟨[.dct []],by simp,?_,.dct (xs:=[]) ?_⟩
 ·rw[<- bf];exact C6 a λx b=>by rw[cN.mp b];rfl
 ·rw[cE,gC1,<- bf,dL];rfl
theorem Je(ho:Hnd o N)(h:d.und 0=M)(hb:bd k d=M):EK k r o T (mC d):=g0 ho (λ_=>rfl) (.shut h hb)
end
theorem xi{xs:List D}{lo hi:Option Int}:(∀x∈Mi.gl xs lo hi,x∈xs)/\(Mi.gl xs lo hi).length<=xs.length:=by
 unfold Mi.gl;refine⟨λx a=>cY (cA a),?_⟩;rw[aR,aW];lia
theorem FC(xs:List D)(k:Nat):Mi.gl xs (Z (k:Int)) Y=xs.drop k:=by
 unfold Mi.gl;rw[HT.uF,HT.oe];by_cases h:k<=xs.length
 ·rw[Nat.min_eq_left h,b7 (by simp)]
 ·rw[Nat.min_eq_right (by lia),List.drop_length,List.drop_of_length_le (by lia)];simp
section
variable{k n m N:Nat}{r:Ev}{o:Ob}{T:dr}{a:FA}{d:D}{S:dr}
theorem lI{e f:FE}{xs ys:List D}(ha:∀S,e r S=Z (.tup xs,S))(hb:∀S,f r S=Z (.tup ys,S))(a:xs.length+ys.length<=1000):∀S,m2 (b2 eD) e f r S=Z (.tup (xs++ys),S):=λS=>by
 unfold m2;rw[ha,oS1,hb,oS1];show(if xs.length+ys.length<=da then _ else _)=_;rw[ak (aC a (by decide))]
theorem BN{xs ys:List D}(h:Ok m (o::T) (.tup xs))(hs:∀y∈ys,y∈xs)(b:ys.length<=k)(hk:m<=k):Ok k (o::T) (.tup ys):=.tup b λy a=>(h.of.2 y (hs y a)).more hk
theorem lB{xs ys:List D}(h:Ok k (o::T) (.tup xs))(h':Ok k (o::T) (.tup ys))(b:xs.length+ys.length<=k):Ok k (o::T) (.tup (xs++ys)):=.tup (by rw[lA1];exact b) λy a=>by
 rcases aF.mp a with z|z
 ·exact h.of.2 y z
 ·exact h'.of.2 y z
end
section
variable{k N:Nat}{o:Ob}{T:dr}{xs:List D}{x2:Option D}
end
theorem jJ{d:D}(h:vj d=M):∃xs,d = .tup xs:=by
 cases d with
 |tup xs=>exact⟨xs,O⟩
 |_=>cases h
def Lo(d:D):Prop:=∀i,d = .int i->i.natAbs.log2<1920
theorem sQ{o:Ob}{n:Nat}{T:dr}(ho:Hnd o n)(a:ClT T):fh (o::T):=by
 unfold fh;rw[bS,ho.und,lC1];exact a
theorem n6{n:Nat}{o:Ob}{T:dr}{k:Int}{Q:D×dr->Prop}(ho:Hnd o n)(h:ClT T)(hn:n<=2^50)(hk:0<k)(b:k<2^62)(q:∀(d:Nat) o',Hnd o' (n+1)->(d:Int)<k->Q (.int d,o'::T)):W (dv 2 dy [.ref 0,.int k] (o::T)) Q:=by
 have s:HS n (o::T) (o::T):=.self O ho (sQ ho h);refine draw_W s hn hk b λd f a g l j=>?_;obtain⟨o',e,c⟩:=a.hand;have:f=o'::T:=by
  refine b4 λi=>?_;cases i with
  |zero=>rw[e];rfl
  |succ i=>
   by_cases hi:i+1<(o::T).length
   ·rw[g.same (i+1) hi (by lia)];rfl
   ·rw[b5 (by lia),b5 (by simpa using hi)]
 subst this;exact q d o' c j
theorem ra{f:FN}{a b:FE}{r:Ev}{S:dr}{Q:D×dr->Prop}(h:W (a r S) λp=>W (b r p.2) λq=>W (f [p.1,q.1] q.2) Q):W (m2 f a b r S) Q:=by
 unfold m2;rw[dw];exact h.mono λp c=>by rw[dw];exact c
theorem KM{k n p:Nat}{o:Ob}{T:dr}{L:List D}{Q:D×dr->Prop}(ho:Hnd o n)(hn:n<=2^40)(c:ClT T)(hp:T[p]? = Z (.lst L))(j:0<L.length)(g:L.length<=1000)(hx:∀ x∈L,Ok k (o::T) x)(q:∀x o' G,Hnd o' (n+1)->ClT (T++G)->Ok k (o'::(T++G)) x->Q (x,o'::(T++G))):W (dv 2 fr [.ref 0,.ref (p+1)] (o::T)) Q:=by
 refine yL (k:=k) (n':=n+1) O O c ?_ q;have e:∀o:Ob,(o::T)[p+1]?=Z (.lst L):=λo=>by rw[gC1];exact hp
 unfold fr;refine jg ?_;unfold mY
 walk_at"w";refine eh (e o) ?_;dsimp only
 refine n6 ho c (by lia) (by lia) (by lia) λd f a h=>?_;have b:d<L.length:=by lia
 refine nK (i:=d) (x:=L[d]) (e f) (gG1 b) ?_;refine⟨L[d],f,[],by rw[aN],a,by rw[aN];exact c,?_⟩;exact(hx _ (bV b)).on (n:=n+1) a
inductive Pj (k:Nat)(o:Ob)(T:dr)(d:D)(y:Option D)(n:Nat):Ev->dr->Prop
 |mk (G:dr) (L:List D) (p:Nat):(T++G)[p]?=some (.lst L)->L.length=n->ClT (T++G)->(∀x∈L,Ok k (o::(T++G)) x)->Pj k o T d y n [some (.ref 0),some d,some (.ref (p+1)),y] (o::(T++G))
section
variable{k n m N:Nat}{r:Ev}{o:Ob}{T:dr}{a:FA}{d:D}{S:dr}{y:Option D}
theorem Bd{x2:Option D}{V:dr}(G:dr)(g:V=o::(T++G))(b:ClT (T++G))(ho:Hnd o N)(ha:AK k [Z (.ref 0),Z d,x2,y] o T n a)(hn:n<=1000):W (dH (eY a) (gN 2) [Z (.ref 0),Z d,x2,y] V) λp=>p.1 = .nx/\Pj k o T d y n p.2.1 p.2.2:=by
 subst g;unfold dH;rw[dw];refine(Cj ha hn G b).mono ?_;rintro p ⟨G1,L,rfl,h1,h2,f⟩;refine W.of O ⟨O,?_⟩;have e:T++(G++G1)++[Ob.lst L]=T++(G++(G1++[Ob.lst L])):=by simp
 dsimp only;show Pj k o T d y n [Z (.ref 0),Z d,Z (.ref ((T++(G++G1)).length+1)),y] (o::(T++(G++G1)++[Ob.lst L]));rw[e]at h1 ⊢;refine .mk _ L _ ?_ h2 h1 λx c=>?_
 ·rw[<- e,dL];rfl
 ·have:=(f x c).on (n:=N) (G:=[Ob.lst L]) ho
  rwa [e]at this
theorem ye(ho:Hnd o N)(ha:∀x2,AK k [Z (.ref 0),Z d,x2,y] o T n a)(hn:n+m<=1000)(h:Pj k o T d y m r S):W (dH (m2 (b2 eD) (mV 2) (eY a)) (gN 2) r S) λp=>p.1 = .nx/\Pj k o T d y (m+n) p.2.1 p.2.2:=by
 obtain⟨G,L,p,h1,h2,i,j⟩:=h;have e:=(gE1.mp h1).1;unfold dH m2;rw[dw,dw];refine W.of (x:=(.ref (p+1),o::(T++G))) O ?_;rw[dw];refine(Cj (ha _) (by lia) G i).mono ?_;rintro q ⟨G1,b,rfl,v,l,u⟩;dsimp only[b2];have g:T++(G++G1)++[Ob.lst b]=(T++G)++(G1++[Ob.lst b]):=by simp
 refine(xw (xs:=L) (ys:=b) ?_ ?_).mpr ⟨dB (by lia),?_⟩
 ·rw[gC1,g,gL1 e];exact h1
 ·rw[cE,gC1,dL];rfl
 refine W.of O ⟨O,?_⟩;have s:o::(T++(G++G1)++[Ob.lst b])++[Ob.lst (L++b)]=o::(T++(G++(G1++[Ob.lst b,Ob.lst (L++b)]))):=by simp
 have f:∀x∈L++b,Ok k (o::(T++(G++G1))) x:=λx c=>by
  rcases aF.mp c with z|z
  ·have:=(j x z).on (n:=N) (G:=G1) ho
   rwa [bf]at this
  ·exact u x z
 have hc:ClT (T++(G++(G1++[Ob.lst b,Ob.lst (L++b)]))):=by
  have:=lG (o:=o) v λx c=>(f x c).on (n:=N) (G:=[Ob.lst b]) ho;have t:T++(G++G1)++[Ob.lst b]++[Ob.lst (L++b)]=T++(G++(G1++[Ob.lst b,Ob.lst (L++b)])):=by simp
  rwa [t]at this
 show Pj k o T d y (m+n) [Z (.ref 0),Z d,Z (.ref ((T++(G++G1)++[Ob.lst b]).length+1)),y] (o::(T++(G++G1)++[Ob.lst b])++[Ob.lst (L++b)]);rw[s];refine .mk _ (L++b) _ ?_ (by rw[lA1,h2,l]) hc λx c=>?_
 ·rw[show T++(G++(G1++[Ob.lst b,Ob.lst (L++b)]))=(T++(G++G1)++[Ob.lst b])++[Ob.lst (L++b)] by simp,dL];rfl
 ·have:=(f x c).on (n:=N) (G:=[Ob.lst b,Ob.lst (L++b)]) ho;simpa using this
theorem C1{xs:List D}{x2:Option D}(ho:Hnd o N)(hd:Ok m (o::T) (.tup xs)):EK k [Z (.ref 0),Z (.tup xs),x2,y] o T (mN (b1 nT) (dn (mV 1) dq)):=λG a=>by
 refine W.of (x:=(.ref (T++G).length.succ,o::(T++G++[.lst xs]))) O ⟨[.lst xs],by simp,?_,.lst (xs:=xs) ?_⟩
 ·rw[<- bf];exact lG (k:=m) (o:=o) a λx b=>(hd.of.2 x b).on (n:=N) ho
 ·rw[cE,gC1,<- bf,dL];rfl
end
theorem xf{k N:Nat}{o:Ob}{T:dr}{r:Ev}{e:FE}{i:Int}(ho:Hnd o N)(h:∀S,e r S=Z (.int i,S)):EK k r o T e:=g0 ho h (.shut O (by rw[bd]))
theorem H7{k N:Nat}{o:Ob}{T:dr}{xs:List D}(hd:Ok k (o::T) (.tup xs))(lo hi:Option Int):Ok (2*k+2) (o::T) (.tup (Mi.gl xs lo hi)):=BN hd (xi (xs:=xs)).1 (by have:=(xi (xs:=xs) (lo:=lo) (hi:=hi)).2;have:=hd.of.1;lia) (by lia)
theorem C4{xs:List D}{a:Nat}(ha:a<=xs.length):(Mi.gl xs Y (Z (a:Int))).length=a/\(Mi.gl xs (Z (a:Int)) Y).length=xs.length-a/\(Mi.gl xs (Z (a:Int)) (Z ((a:Int)+1))).length<=1:=by
 refine⟨by rw[Jm,aR];lia,by rw[FC,aW],?_⟩;unfold Mi.gl;rw[aR,aW,HT.oe,show((a:Int)+1)=((a+1:Nat):Int) by push_cast;rfl,HT.oe];lia
theorem GZ{i:Int}{x2 y:Option D}{S:dr}(h:i.natAbs.log2<1920):mN (b1 Fm) (dn (mV 1) dq) [Z (.ref 0),Z (.int i),x2,y] S=Z (.str (Str.ofString (toString i)),S):=by
 show(if i.natAbs.log2<1920 then _ else Y)=_;rw[ak h]
theorem gn{T:Ty}{m:FE}{r:Ev}{S:dr}{Q:D×dr->Prop}:W (gy T m r S) Q↔W (m r S) λp=>W (mO p.2 T p.1) λb=>Q (.bl b,p.2):=by
 unfold gy;rw[dw];simp only[lr]
theorem M6{c:FT}{b k:FS}{r:Ev}{T:dr}{Q:Fl×Ev×dr->Prop}(C:Bool->dr->Prop)(hc:W (c r T) λp=>C p.1 p.2)(h1:∀V,C M V->W (b r V) λp=>∃d,p.1 = .rt d/\Q (.rt d,p.2))(h0:∀V,C J V->W (k r V) Q):W (dG (fg c b kJ) k r T) Q:=by
 obtain⟨⟨t,V⟩,g,e⟩:=hc;dsimp only at e;cases t with
 |true=>
  obtain⟨⟨f,p⟩,j,d,h,a⟩:=h1 V e;dsimp only at h a;subst h;refine⟨(.rt d,p),?_,a⟩;simp only[dG,fg,g,j,oS1,if_true]
 |false=>
  obtain⟨p,i,a⟩:=h0 V e;refine⟨p,?_,a⟩;simp only[dG,fg,kJ,g,oS1,bF1,if_false];exact i
theorem Ok.cast{k:Nat}{S S':dr}{d:D}(h:Ok k S d)(e:S=S'):Ok k S' d:=e ▸ h
theorem Ok.hand{k n:Nat}{o o':Ob}{T:dr}{d:D}(h:Ok k (o::T) d)(ho:Hnd o' n):Ok k (o'::T) d:=(h.on (n:=n) (G:=[]) ho).cast (by rw[aN])
theorem Gq{o:Ob}{n k:Nat}{T:dr}{d:D}{Q:D×dr->Prop}(ho:Hnd o n)(hn:n<=2^39)(E:ClT T)(hd:Ok k (o::T) d)(u:Lo d)(hk:1<=k)(I:k<=50)(q:∀x o' G,Hnd o' (n+2)->ClT (T++G)->Ok (2*k+2) (o'::(T++G)) x->Q (x,o'::(T++G))):W (dv 2 gR [.ref 0,d] (o::T)) Q:=by
 refine yL (k:=2*k+2) (n':=n+2) O O E ?_ q;unfold gR;refine jg ?_;unfold qm;refine d1 (Pj (2*k+2) o T d Y 19) ?_ ?_
 ·refine Bd [] (by rw[aN]) (by rw[aN];exact E) ho ?_ (by lia);have z:∀r,EK (2*k+2) r o T (mC (D.int 0)):=λr=>Je ho O (by rw[bd]);have C:∀r,EK (2*k+2) r o T (d7 (dn (mC (D.int 0)) (dn (mC (D.int 0)) (dn (mC (D.int 0)) dq)))):=λr=>mU (dN ho (z r) (dN ho (z r) (dN ho (z r) iV))) (by lia) (by lia);repeat first|refine dN ho (Je ho O (by rw[bd])) ?_|refine dN ho (xf (i:= -1) ho λ_=>rfl) ?_|refine dN ho (mU iV (by lia) (by lia)) ?_
  exact dN ho (mU (dN ho (z _) iV) (by lia) (by lia)) (dN ho (C _) (dN ho (Jd ho (dN ho (z _) iV) (by lia)) (dN ho Fw (dN ho (mU (dN ho (C _) iV) (by lia) (by lia)) iV))))
 rintro r S h;refine d1 (λr S=>∃o' y c,Hnd o' (n+1)/\0<c/\c<=50/\Pj (2*k+2) o' T d y c r S) ?_ ?_
 ·obtain⟨G,L,p,h1,h2,f,g⟩:=h;have s:mO (o::(T++G)) .tuple d=Z (vj d):=lA (hd.on (n:=n) ho).v;cases ht:vj d with
  |false=>
   wp_walk using gn,s,ht
   exact⟨o,Y,19,ho.more (by lia),by lia,by lia,.mk G L p h1 h2 f g⟩
  |true=>
   obtain⟨xs,rfl⟩:=jJ ht;have aq:=hd.of.1;unfold fg;rw[dw];refine W.of (x:=(M,o::(T++G))) O ?_;dsimp only;rw[ak O];refine d1 (λr S=>∃o' a,Hnd o' (n+1)/\a<=xs.length/\S=o'::(T++G)/\r=[Z (.ref 0),Z (.tup xs),Z (.ref (p+1)),Z (.int (a:Nat))]) ?_ ?_
   ·walk_at"w";refine n6 ho f (by lia) (by lia) (by lia) λa o' b F=>?_;exact⟨o',a,b,by lia,O,O⟩
   rintro r S ⟨o',a,b,F,rfl,rfl⟩;have e:=hd.hand b;obtain⟨V,wq,X⟩:=C4 (xs:=xs) F;have U:(Mi.gl xs (Z ((a:Int)+1)) Y).length<=xs.length:=xi.2;have c:=H7 (N:=n) e;have h2:Ok (2*k+2) (o'::T) (.tup xs):=e.more (by lia);refine d1 (Pj (2*k+2) o' T (.tup xs) (Z (.int (a:Nat))) 4) ?_ ?_
   ·refine Bd G O f b ?_ (by lia);exact dN b (g0 b (lI (xs:=Mi.gl xs Y (Z (a:Int))) (ys:=Mi.gl xs (Z ((a:Int)+1)) Y) (λ_=>rfl) (λ_=>rfl) (by lia)) (lB (c _ _) (c _ _) (by lia))) (dN b (g0 b (lI (xs:=Mi.gl xs Y (Z (a:Int))++Mi.gl xs (Z (a:Int)) (Z ((a:Int)+1))) (ys:=Mi.gl xs (Z (a:Int)) Y) (lI (λ_=>rfl) (λ_=>rfl) (by lia)) (λ_=>rfl) (by rw[lA1];lia)) (lB (lB (c _ _) (c _ _) (by lia)) (c _ _) (by rw[lA1];lia))) (dN b (g0 (d:=.tup xs.reverse) b (λ_=>rfl) (BN e (λy l=>List.mem_reverse.mp l) (by rw[b8];lia) (by lia))) (dN b (C1 b e) iV)))
   intro r S h;refine(ye (n:=5) b (λx2=>?_) (by lia) h).mono ?_
   ·have am:Ok (2*k+2) (o'::T) (.tup [.int 0]):=.tup (by simp) λy l=>by rw[cN.mp l];exact .shut O (by rw[bd])
    have v:Ok (2*k+2) (o'::T) (.tup [.tup xs]):=.tup (by simp) λy l=>by rw[cN.mp l];exact h2
    exact dN b (g0 b (lI (xs:=Mi.gl xs Y (Z (a:Int))++[.int 0]) (ys:=Mi.gl xs (Z (a:Int)) Y) (lI (λ_=>rfl) (λ_=>rfl) (by simp;lia)) (λ_=>rfl) (by rw[lA1];simp;lia)) (lB (lB (c _ _) am (by simp;lia)) (c _ _) (by rw[lA1];simp;lia))) (dN b (g0 b (lI (xs:=Mi.gl xs (Z (a:Int)) Y) (ys:=Mi.gl xs Y (Z (a:Int))) (λ_=>rfl) (λ_=>rfl) (by lia)) (lB (c _ _) (c _ _) (by lia))) (dN b (Je b O (by rw[bd])) (dN b (mU iV (by lia) (by lia)) (dN b (g0 b (lI (xs:=xs) (ys:=[.tup xs]) (λ_=>rfl) (λ_=>rfl) (by simp;lia)) (lB h2 v (by simp;lia))) iV))))
   rintro p ⟨au,R⟩;exact⟨au,o',_,9,b,by lia,by lia,R⟩
 rintro r S ⟨o',y,c,b,m,hc,h⟩;refine d1 (λr S=>∃c,0<c/\c<=60/\Pj (2*k+2) o' T d y c r S) ?_ ?_
 ·obtain ⟨G,L,p,h1,h2,f,g⟩:=h;have s:=(hd.on (n:=n+1) (G:=G) b).v;have H:=wj s;have ao:=sK s;have t:W (mK (mTr (gy .int (mV 1))) (iA (mTr (gy .bool (mV 1)))) [some (.ref 0),some d,some (.ref (p+1)),y] (o'::(T++G))) fun q=>q=(isI d,o'::(T++G)):=by
   wp_walk using gn,H,ao
   cases d<;>simp[isI,Lb]
  obtain⟨_,K,rfl⟩:=t;unfold fg;rw[dw];refine W.of K ?_;dsimp only;cases hw:isI d with
  |false=>
   rw[aj (by decide)];exact W.of O ⟨O,c,m,by lia,.mk G L p h1 h2 f g⟩
  |true=>
   obtain⟨i,rfl⟩:=Df hw;rw[ak O];refine(ye (n:=8) b (λx2=>?_) (by lia) (.mk G L p h1 h2 f g)).mono λp A=>⟨A.1,c+8,by lia,by lia,A.2⟩;exact dN b (xf (i:=i+1) b λ_=>rfl) (dN b (xf (i:=i-1) b λ_=>rfl) (dN b (xf (i:=i+1) b λ_=>rfl) (dN b (xf (i:=i-1) b λ_=>rfl) (dN b (xf (i:=i+2) b λ_=>rfl) (dN b (g0 (d:=.str (Str.ofString (toString i))) b (λS=>GZ (u i O)) (.shut O (by rw[bd]))) (dN b (mU (dN b (xf (i:=i) b λ_=>rfl) iV) (by lia) (by lia)) (dN b (g0 (d:=.bl (i == 1)) b (λ_=>rfl) (.shut O (by rw[bd]))) iV)))))))
 rintro r S ⟨c,m,hc,⟨G,L,p,h1,h2,f,g⟩⟩;walk_at"w";refine KM (k:=2*k+2) b (by lia) f h1 (by lia) (by lia) g λx v G2 w j B=>?_;rw[bf]at j B ⊢;exact⟨x,v,G++G2,O,w,j,B⟩
def v7:Nat->D->Prop
 |0,d=>Lo d
 |n+1,d=>Lo d /\ ∀xs,d = .tup xs -> ∀x∈xs,v7 n x
theorem v7.lo:∀{n:Nat} {d:D},v7 n d->Lo d
 |0,_,h=>h
 |_+1,_,h=>h.1
theorem B0{xs:List D}{S:dr}:zQ (.tup xs) (.tup []) S=Z (.bl (!xs.isEmpty),S):=by
 cases xs<;>rfl
theorem Jx:∀ (e:Nat) {fuel n k:Nat} {o:Ob} {T:dr} {d:D} {Q:D×dr->Prop},e<fuel->Hnd o n->n+10*(e+1)<=2^39->ClT T->Ok k (o::T) d->v7 e d->1<=k->k<=50 ->
  (∀x o' G,Hnd o' (n+10*(e+1))->ClT (T++G)->Ok (2*k+2) (o'::(T++G)) x->Q (x,o'::(T++G)))->W (dv 3 (fS fuel) [.ref 0,d,.int (e:Nat)] (o::T)) Q:=by
 intro e
 induction e with
 |zero=>
  intro fuel n k o T d Q N z ao s A l F j q;obtain⟨f,rfl⟩:∃f,fuel=f+1:=⟨fuel-1,by lia⟩;refine yL (k:=2*k+2) (n':=n+10*(0+1)) O O s ?_ q;rw[fS];refine jg ?_;unfold ij;refine M6 (λb V=>b=J/\V=o::T) ?_ ?_ ?_
  ·have L:decide ((0:Int)<((0:Nat):Int))=J:=by decide
   wp_walk using L
  ·rintro V ⟨h,_⟩;cases h
  rintro V ⟨_,rfl⟩;walk_at"w";refine Gq z (by lia) s A l F j λx o' G u hc B=>?_;exact⟨x,o',G,O,u.more (by lia),hc,B⟩
 |succ e ih=>
  intro fuel n k o T d Q N z ao s A l F j q;obtain⟨f,rfl⟩:∃f,fuel=f+1:=⟨fuel-1,by lia⟩;refine yL (k:=2*k+2) (n':=n+10*(e+1+1)) O O s ?_ q;rw[fS];refine jg ?_;unfold ij;have am:=lA A.v;have t:decide ((0:Int)<((e+1:Nat):Int))=M:=ah (by lia);refine M6 (λb V=>∃v,V=v::T/\Hnd v (n+1)/\(b=M -> ∃xs,d = .tup xs/\0<xs.length)) ?_ ?_ ?_
  ·cases ht:vj d with
   |false=>
    wp_walk using gn,am,ht,t
    exact⟨o,O,z.more (by lia),λh=>by cases h⟩
   |true=>
    obtain⟨xs,rfl⟩:=jJ ht;cases he:xs.isEmpty with
    |true=>
     wp_walk using gn,am,ht,t,B0
     simp only[he]
     try walk_at"w"
     exact⟨o,O,z.more (by lia),λh=>by cases h⟩
    |false=>
     wp_walk using gn,am,ht,t,B0
     simp only[he];walk_at"w";refine n6 z s (by lia) (by lia) (by lia) λc v g hc=>?_;walk_at"w";refine⟨v,O,g,λ_=>⟨xs,O,?_⟩⟩;cases xs with
     |nil=>cases he
     |cons x xs=>exact Nat.succ_pos _
  ·rintro V ⟨v,rfl,g,h⟩;obtain⟨xs,rfl,au⟩:=h O;have K:=A.hand g;obtain⟨P,C⟩:=K.of;refine d1 (λr V=>∃w a,Hnd w (n+2)/\a<xs.length/\V=w::T/\r=[Z (.ref 0),Z (.tup xs),Z (.int ((e+1:Nat):Int)),Z (.int (a:Nat))]) ?_ ?_
   ·walk_at"w";refine n6 g s (by lia) (by lia) (by lia) λa w m H=>?_;exact⟨w,a,m,by lia,O,O⟩
   rintro r V ⟨w,a,m,H,rfl,rfl⟩;walk_at"w";refine W.of (x:=(.tup (Mi.gl xs Y (Z (a:Int))),w::T)) O ?_;rw[Jm];walk_at"w";refine jV (i:=a) (x:=xs[a]) (gG1 H) ?_;walk_at"w";rw[show(((e+1:Nat):Int)-1)=(e:Int) by lia];refine ih (by lia) m (by lia) s ((C _ (bV H)).hand m) (l.2 xs O _ (bV H)) F j λx I G E hc B=>?_;walk_at"w";rw[aR];refine⟨dB (by lia),?_⟩;refine W.of (x:=(.tup (Mi.gl xs (Z ((a:Int)+1)) Y),I::(T++G))) O ?_;rw[show((a:Int)+1)=((a+1:Nat):Int) by push_cast;rfl,FC];walk_at"w";refine⟨dB (by rw[aW];simp;lia),?_⟩;refine⟨_,O,_,I,G,O,E.more (by lia),hc,Ok.tup ?_ λy p=>?_⟩
   ·simp;lia
   ·have old:∀y∈xs,Ok (2*k+2) (I::(T++G)) y:=λy p=>((C y p).on (n:=n+2+10*(e+1)) E).more (by lia);simp only[bf,bt,bi,aF,aE]at p;rcases p with p|rfl|p
    ·exact old y (cA p)
    ·exact B
    ·exact old y (cY p)
  ·rintro V ⟨v,rfl,g,_⟩;walk_at"w";refine Gq g (by lia) s (A.hand g) l.lo F j λx o' G u hc B=>?_;exact⟨x,o',G,O,u.more (by lia),hc,B⟩
def Up(T V:dr):Prop:=(∃G,V=T++G)/\fh V
theorem Up.refl{T:dr}(h:fh T):Up T T:=⟨⟨[],by rw[aN]⟩,h⟩
theorem Up.trans{T V U:dr}(a:Up T V)(b:Up V U):Up T U:=by
 obtain⟨⟨G,rfl⟩,_⟩:=a;obtain⟨⟨c,rfl⟩,h⟩:=b;exact⟨⟨G++c,by rw[bf]⟩,h⟩
theorem Up.app{T V:dr}{o:Ob}(a:Up T V)(h:o.und 0=M):Up T (V++[o]):=by
 refine a.trans ⟨⟨_,O⟩,oK a.2 λx b=>?_⟩;rw[cN.mp b];exact gC (br _) h
theorem Up.vd{T V:dr}{d:D}(a:Up T V)(h:vd T d=M):vd V d=M:=by
 obtain⟨⟨G,rfl⟩,_⟩:=a;refine sJ (λn b=>?_) h;rw[Law.vd]at b ⊢;cases e:T[n]? with
 |none=>rw[e]at b;cases b
 |some x=>
  rw[gL1 (gE1.mp e).1,e];rw[e]at b;exact b
theorem iF{α:Type}{f:α->Bool}(xs:List α):(Ob.lst (xs.map λx=>D.bl (f x))).und 0=M:=by
 rw[Ob.und];exact Mi.dW λ_ _=>rfl
theorem pI{c:FT}{k:FS}{r:Ev}{T:dr}{b:Bool}{Q:Fl×Ev×dr->Prop}(hc:W (c r T) λp=>Up T p.2/\p.1 = !b)(h0:b=J -> ∀V,Up T V->Q (.rt (.bl J),r,V))(h1:b=M -> ∀V,Up T V->W (k r V) Q):W (dG (fg c (ee (mC (D.bl J))) kJ) k r T) Q:=by
 obtain⟨⟨f,V⟩,e,a,d⟩:=hc;dsimp only at a d;subst d;unfold dG fg;rw[e,oS1];cases b with
 |false=>exact dA.mpr (h0 O V a)
 |true=>exact h1 O V a
theorem Le{c:FT}{r:Ev}{T:dr}{b:Bool}{Q:Fl×Ev×dr->Prop}(hc:W (c r T) λp=>Up T p.2/\p.1 = !b)(h0:b=J -> ∀V,Up T V->Q (.rt (.bl J),r,V))(h1:b=M -> ∀V,Up T V->Q (.nx,r,V)):W (fg c (ee (mC (D.bl J))) kJ r T) Q:=by
 obtain⟨⟨f,V⟩,e,a,d⟩:=hc;dsimp only at a d;subst d;unfold fg;rw[e,oS1];cases b with
 |false=>exact dA.mpr (h0 O V a)
 |true=>exact dA.mpr (h1 O V a)
theorem qt{α:Type}{n:Nat}{S:dr}{xs:List α}{f:α->Bool}{Q:D×dr->Prop}(h:S[n]?=Z (.lst (xs.map λx=>.bl (f x))))(q:Q (.bl (xs.all f),S)):W (lD (.ref n) S) Q:=by
 refine W.of ?_ q;unfold lD;rw[fQ h,oS1];dsimp only;rw[vT (f:=f)];simp
theorem xu{α:Type}{n:Nat}{xs:List α}{f:α->Bool}{S:dr}{Q:D×dr->Prop}(h:S[n]?=Z (.lst (xs.map λx=>D.bl (f x))))(q:Q (.bl (xs.any f),S)):W (nU (.ref n) S) Q:=by
 refine W.of ?_ q;unfold nU;rw[fQ h,oS1];dsimp only;have:∀xs:List α,Mi.Dj (xs.map λx=>D.bl (f x))=Z (xs.any f):=by
  intro xs
  induction xs with
  |nil=>rfl
  |cons x xs ih=>rw[mP1,Mi.Dj,ih];rfl
 rw[this];rfl
theorem xt{a:FE}{b:FA}{r:Ev}{S:dr}{Q:List D×dr->Prop}(h:W (a r S) λp=>W (b r p.2) λq=>Q (p.1::q.1,q.2)):W (dn a b r S) Q:=by
 unfold dn;rw[dw];simp only[dw,dA];exact h
theorem k0{f:G1}{a:FE}{r:Ev}{S:dr}{Q:D×dr->Prop}(h:W (a r S) λp=>W (f p.1 p.2) Q):W (mN (b1 f) (dn a dq) r S) Q:=by
 unfold mN;rw[dw];exact xt (h.mono λp b=>W.of O b)
theorem xn{e:FE}{f:D->Bool}{keep:List Nat}{r P:Ev}{T:dr}{xs:List D}{i:Nat}(hi:r[i]? = some (some (.tup xs)))(d:xs.length<=1000)(b:jv 1 keep r=none::P)(hg:∀ x∈xs,W (e (some x::P) T) fun p=>p=(.bl (f x),T)):
  W (mN (b1 lD) (dn (d5 1 keep (eZ (mV i)) (gN 0) d9 (dU e)) dq) r T) λp=>p=(.bl (xs.all f),T++[.lst (xs.map λx=>.bl (f x))]):=by
 have c:∀S,mV i r S=Z (.tup xs,S):=λS=>by unfold mV;rw[hi]
 refine k0 ?_;rw[fc,iW,c,dA];dsimp only;rw[gg];dsimp only;rw[b];refine(λh=>by rwa [cH]at h:∀{Q},W (fV [] (gN 0) d9 (dU e) (xs.map id) (Y::P) T) Q->W (fV [] (gN 0) d9 (dU e) xs (Y::P) T) Q) ?_;refine kW (f:=id) (λx=>D.bl (f x)) (λr=>∃x,r=x::P) O xs _ ⟨_,O⟩ ?_ ?_
 ·rintro x a r ⟨y,rfl⟩;unfold gN d9;rw[dA];dsimp only;rw[dA];refine⟨O,?_⟩;refine(hg x a).mono ?_;rintro p rfl;exact⟨O,O,_,O⟩
 ·rintro g _;refine⟨dB (by rw[lM1];lia),?_⟩;refine qt (xs:=xs) (f:=f) (by rw[dL];rfl) ?_;rfl
def natD:D->Nat
 | .int i=>i.toNat
 |_=>0
theorem yN{m:Nat}{d:D}(h:jy m d=M):d = .int (natD d:Nat)/\natD d<m:=by
 cases d with
 |int i=>
  rw[jy,bA1,al,al]at h;rw[natD,Int.toNat_of_nonneg h.1];exact⟨O,by lia⟩
 |_=>cases h
theorem wO{m:Nat}{xs:List D}(h:xs.all (jy m)=M):xs=nmD (xs.map natD) /\ ∀r∈xs.map natD,r<m:=by
 rw[bH]at h;refine⟨?_,λr b=>?_⟩
 ·unfold nmD;rw[bD]
  conv=>lhs;rw[<- cH xs]
  exact cD λx a=>(yN (h x a)).1
 ·obtain⟨x,a,rfl⟩:=ci.mp b;exact(yN (h x a)).2
def inc(rs:List Nat):Bool:=(af (rs.length-1)).all λi=>decide (rs.getD i 0<rs.getD (i+1) 0)
theorem yq{rs:List Nat}:inc rs=M ↔ ∀i,(h:i+1<rs.length)->rs[i]<rs[i+1]:=by
 unfold inc;rw[bH];constructor
 ·intro h i hi;have:=of_decide_eq_true (h i (aB.mpr (by lia)));rw[bM,bM,gG1 hi,gG1 (by lia:i<rs.length)]at this;exact this
 ·intro h i hi;have hi:=aB.mp hi;rw[al,bM,bM,gG1 (by lia:i+1<rs.length),gG1 (by lia:i<rs.length)];exact h i (by lia)
theorem Ja{rs:List Nat}(h:inc rs=M):rs.Pairwise (· < ·):=by
 have a:=yq.mp h;rw[cb];intro i j hi e d;have b:∀k,(h:i+k+1<rs.length)->rs[i]<rs[i+k+1]:=by
  intro k
  induction k with
  |zero=>intro c;exact a i c
  |succ k ih=>intro c;exact bq (ih (by lia)) (a (i+k+1) (by lia))
 have:=b (j-i-1) (by lia);simp only[show i+(j-i-1)+1=j by lia]at this;exact this
theorem Fi(rs:List Nat):(rs.zip (rs.drop 1)).any (λp=>decide (p.2<=p.1)) = !inc rs:=by
 rw[bT,Bool.not_eq_true',<- Bool.not_eq_true,yq,bU];constructor
 ·rintro⟨p,c,a⟩ h;obtain⟨i,hi,rfl⟩:=bW.mp c;rw[List.length_zip,aW]at hi;have h1:=h i (by lia);rw[List.getElem_zip,List.getElem_drop,al]at a;dsimp only at a;simp only[Nat.add_comm 1 i]at a;lia
 ·intro h;refine Classical.byContradiction λb=>h λi hi=>Classical.byContradiction λd=>?_;refine b ⟨(rs[i],rs[i+1]),?_,ah (by show rs[i+1]<=rs[i];lia)⟩;refine bW.mpr ⟨i,by rw[List.length_zip,aW];lia,?_⟩;rw[List.getElem_zip,List.getElem_drop];simp only[Nat.add_comm 1 i]
theorem Hd{rs:List Nat}{S:dr}{Q:D×dr->Prop}(c:rs.length<=1000)(q:Q (.bl (inc rs),S)):W (dv 1 h9 [.tup (nmD rs)] S) Q:=by
 refine jx O (by rw[D.unds,D.und,fx];rfl) ?_;unfold h9;refine jg ?_;unfold nD;walk_at"w";rw[ff];refine⟨t8 (by lia) (by lia),?_⟩;rw[jP,show((rs.length:Int)-1).toNat=rs.length-1 by lia];have a:∀(i:Nat) (h:i<rs.length) (S:dr),dz (.tup (nmD rs)) (.int (i:Nat)) S=Z (.int (rs[i]:Nat),S):=λi h S=>by
  obtain⟨p,e,rfl⟩:W (dz (.tup (nmD rs)) (.int (i:Nat)) S) λp=>p=(.int (rs[i]:Nat),S):=jV (by unfold nmD;rw[gP1,gG1 h];rfl) O;exact e
 refine kW (f:=λj:Nat=>D.int j) (λi=>D.bl (decide (rs.getD i 0<rs.getD (i+1) 0))) (λb=>∃x,b=[x,Z (.tup (nmD rs))]) O (af (rs.length-1)) _ ⟨_,O⟩ ?_ ?_
 ·rintro i hi b ⟨x,rfl⟩;have hi:=aB.mp hi;have h1:i<rs.length:=by lia
  have h2:i+1<rs.length:=by lia
  wp_walk using a i h1
  rw[show((i:Int)+1)=((i+1:Nat):Int) by push_cast;rfl]
  wp_walk using a (i+1) h2
  refine⟨?_,_,O⟩;rw[bM,bM,gG1 h1,gG1 h2];simp
 ·rintro b _;refine⟨dB (by rw[lM1,cW];lia),?_⟩;walk_at"w";refine qt (n:=0) (xs:=af (rs.length-1)) (f:=λi=>decide (rs.getD i 0<rs.getD (i+1) 0)) O ?_
  first|exact⟨rfl,q⟩|(walk_at"w";exact⟨O,q⟩)
def xl(m:Nat):D->Bool
 | .tup xs=> !xs.isEmpty&&(xs.all (jy m)&&inc (xs.map natD))
 |_=>J
def iS(m:Nat):D->Bool
 | .tup xs=>xs.all (xl m)
 |_=>J
structure ChX (n:Nat)(ch:List Nat):Prop where
 lt:∀k∈ch,k<n
 pw:ch.Pairwise (· < ·)
 ne:0<ch.length
theorem CT{n:Nat}:∀{ch:List Nat} {a:Nat},ch.Pairwise (· < ·)->(∀k∈ch,k<n/\a<=k)->ch.length<=n-a
 |[],_,_,_=>br _
 |x::ch,a,h,hk=>by
  rw[b9]at h;have h1:=hk x mS1;have:=CT (a:=x+1) h.2 λk b=>⟨(hk k (mC1 _ b)).1,h.1 k b⟩;rw[lC1];lia
theorem ChX.few{n:Nat}{ch:List Nat}(h:ChX n ch):ch.length<=n:=CT (a:=0) h.pw λk b=>⟨h.lt k b,br _⟩
theorem Jn{m:Nat}{d:D}(h:xl m d=M):∃ch,d=chD ch/\ChX m ch:=by
 cases d with
 |tup xs=>
  rw[xl,bA1,bA1,Bool.not_eq_true']at h;obtain⟨h1,h2,b⟩:=h;obtain⟨e,a⟩:=wO h2;refine⟨xs.map natD,by unfold chD;rw[<- e],a,Ja b,?_⟩;cases xs with
  |nil=>cases h1
  |cons x xs=>simp
 |_=>cases h
theorem oy{m:Nat}{d:D}(h:iS m d=M):∃chs:List (List Nat),d = .tup (chs.map chD) /\ ∀ch∈chs,ChX m ch:=by
 cases d with
 |tup xs=>
  rw[iS,bH]at h
  induction xs with
  |nil=>exact⟨[],O,λch hc=>by cases hc⟩
  |cons x xs ih=>
   obtain⟨chs,e,hc⟩:=ih λy b=>h y (mC1 _ b);obtain⟨ch,rfl,f⟩:=Jn (h x mS1);refine⟨ch::chs,by rw[mP1,<- (D.tup.inj e)],λc a=>?_⟩;rcases aE.mp a with z|z
   ·rw[z];exact f
   ·exact hc c z
 |_=>cases h
theorem Dg{k:Nat}{xs:List D}{x:D}(h:bd k (.tup xs)=M)(hx:x∈xs):bd k x=M:=by
 rw[bd,ub,bA1,bH]at h;exact h.2 x hx
theorem jL{k:Nat}{xs:List D}(h:bd k (.tup xs)=M):xs.length<=k:=by
 rw[bd,bA1,al]at h;exact h.1
theorem xI{S:dr}{xs:List D}{x:D}(h:vd S (.tup xs)=M)(hx:x∈xs):vd S x=M:=by
 rw[vd]at h;exact jW h hx
def Gz:D->Bool
 | .tup xs=>xs.isEmpty
 |_=>J
theorem wY{m:Nat}{d:D}{S:dr}{Q:D×dr->Prop}(o:fh S)(hv:vd S d=M)(hb:bd 1000 d=M)(q:Q (.bl (xl m d),S)):W (dv 2 gt [.int m,d] S) Q:=by
 refine sr O o (by rw[hO,hO,hv,hO,vd];rfl) λT l j=>?_;have h:vd T d=M:=jW j (by simp);have h1:=lA h;unfold gt;refine jg ?_;unfold nE;refine pI (b:=vj d && !Gz d) ?_ ?_ ?_
 ·cases ht:vj d with
  |false=>
   wp_walk using gn,h1,ht
   exact⟨Up.refl l,O⟩
  |true=>
   obtain⟨xs,rfl⟩:=jJ ht
   wp_walk using gn,h1,ht
   refine⟨Up.refl l,?_⟩;cases xs with
   |nil=>rfl
   |cons x xs=>exact beq_eq_false_iff_ne.mpr (by push_cast [lC1];lia)
 ·intro a V g;refine ⟨g.1,rfl,?_⟩;have:xl m d=false:=by
   cases d with
   |tup xs=>
    rw[xl];rw[show vj (.tup xs)=M from rfl,cC]at a;rw[Gz]at a;rw[a];rfl
   |_=>rfl
  rw[this]at q;exact q
 ·intro a V g;rw[bA1]at a;obtain⟨xs,rfl⟩:=jJ a.1;have n:=a.2;rw[Gz]at n;have t:xl m (.tup xs)=(xs.all (jy m)&&inc (xs.map natD)):=by rw[xl,n];rfl
  rw[t]at q;have u:=xn (e:=mN (dv 2 gQ) (dn (mV 0) (dn (mV 1) dq))) (f:=jy m) (keep:=[0]) (r:=fH 2 [.int m,.tup xs]) (P:=[Z (.int m)]) (T:=V) (xs:=xs) (i:=1) O (jL hb) O λx s=>by
   walk_at"w";exact FW g.2 (g.vd (xI h s)) O
  obtain⟨p,e,rfl⟩:=u;have c:=g.app (iF (f:=jy m) xs);unfold ee;rw[dw];unfold gx;rw[dw];refine W.of e ?_;cases hall:xs.all (jy m)with
  |false=>
   rw[hall]at q;walk_at"w";exact⟨c.1,O,q⟩
  |true=>
   obtain⟨k,_⟩:=wO hall;rw[hall,cC]at q;walk_at"w";rw[k];refine Hd (by rw[lM1];exact jL hb) ?_;walk_at"w";refine⟨?_,O,q⟩;rw[<- k];exact c.1
theorem mq{m:Nat}{d:D}{S:dr}{Q:D×dr->Prop}(g:fh S)(hv:vd S d=M)(hb:bd 1000 d=M)(q:Q (.bl (iS m d),S)):W (dv 2 fE [.int m,d] S) Q:=by
 refine sr O g (by rw[hO,hO,hv,hO,vd];rfl) λT j b=>?_;have a:vd T d=M:=jW b (by simp);have h1:=lA a;unfold fE;refine jg ?_;unfold ln;unfold ee;rw[dw];unfold gx;rw[dw];cases ht:vj d with
 |false=>
  wp_walk using gn,h1,ht
  have:iS m d=J:=by
   cases d with
   |tup xs=>cases ht
   |_=>rfl
  rw[this]at q;exact⟨⟨[],(aN T).symm⟩,O,q⟩
 |true=>
  obtain⟨xs,rfl⟩:=jJ ht;rw[iS]at q;have h:gy .tuple (mV 1) (fH 2 [.int m,.tup xs]) T=Z (.bl M,T):=by
   obtain⟨p,e,rfl⟩:W (gy .tuple (mV 1) (fH 2 [.int m,.tup xs]) T) λp=>p=(.bl true,T):=by
    wp_walk using gn,h1,ht
   exact e
  refine W.of h ?_;dsimp only;have k:=xn (e:=mN (dv 2 gt) (dn (mV 1) (dn (mV 0) dq))) (f:=xl m) (keep:=[0]) (r:=fH 2 [.int m,.tup xs]) (P:=[Z (.int m)]) (T:=T) (xs:=xs) (i:=1) O (jL hb) O λx c=>by
   walk_at"w";exact wY j (xI a c) (Dg hb c) O
  obtain⟨p,e,rfl⟩:=k;rw[e];walk_at"w";exact⟨⟨_,O⟩,O,q⟩
theorem Da{r:Ev}{S:dr}{j:Int}{a b:Int}{Q:D×dr->Prop}(h1:r[1]?=Z (Z (.int a)))(h0:r[0]?=Z (Z (.int j)))(h2:r[2]?=Z (Z (.int b)))(q:Q (.bl (decide (a<=j)&&decide (j<=b)),S)):W (ER (b2 (gU λi j=>decide (i<=j))) (b2 (gU λi j=>decide (i<=j))) (mV 1) (mV 0) (mV 2) r S) Q:=by
 have d:∀S,mV 0 r S=Z (.int j,S):=λS=>by unfold mV;rw[h0]
 have c:∀S,mV 1 r S=Z (.int a,S):=λS=>by unfold mV;rw[h1]
 have e:∀S,mV 2 r S=Z (.int b,S):=λS=>by unfold mV;rw[h2]
 rw[GC,c,dA];dsimp only;rw[d,dA];dsimp only;unfold b2 gU;dsimp only;rw[dA];dsimp only;cases h:decide (a<=j)with
 |false=>
  rw[aj (by decide),dA];rw[h]at q;exact q
 |true=>
  rw[ak O,e,dw,dA];rw[h]at q;exact W.of O q
theorem BW{m:Nat}{d:D}{S:dr}{Q:D×dr->Prop}(g:fh S)(hv:vd S d=M)(q:Q (.bl (jy m d),S)):W (dv 3 ew [d,.int 0,.int ((m:Int)-1)] S) Q:=by
 refine sr O g (by rw[hO,hO,hO,hv,hO,vd,vd];rfl) λT h f=>?_;have c:=vd1' f;have h1:=wj c;have h2:=sK c;unfold ew;refine jg ?_;unfold iu
 wp_walk using gn,h1,h2
 cases d with
 |int i=>
  simp only[isI,Lb,Bool.or_false,Bool.not_false,if_true];have e:(decide ((0:Int)<=i)&&decide (i<=(m:Int)-1))=jy m (.int i):=by rw[jy];congr 1;rw[decide_eq_decide];lia
  try walk_at"w"
  refine Da (a:=0) (j:=i) (b:=(m:Int)-1) O O O ?_;rw[e];exact⟨⟨[],(aN T).symm⟩,O,q⟩
 |bl b=>
  simp only[isI,Lb,Bool.or_true,b6,if_true];exact⟨⟨[],(aN T).symm⟩,O,q⟩
 |_=>exact⟨⟨[],(aN T).symm⟩,O,q⟩
theorem vc{c:List (Nat×List D)}{g:FG}{b:FS}{Q:Fl×Ev×dr->Prop}(I:Nat->Ev->dr->Prop):∀ (items:List D) (k:Nat) (r:Ev) (S:dr),I k r S ->
  (∀i r S,I i r S->qC S c=M) ->
  (∀i d,items[i]?=Z d -> ∀r S,I (k+i) r S->W (g d r S) λp=>W (b p.1 p.2) λq=>(q.1 = .nx/\I (k+i+1) q.2.1 q.2.2) \/ ∃v,q.1 = .rt v/\Q (.rt v,q.2)) ->
  (∀r S,I (k+items.length) r S->Q (.nx,r,S))->W (jQ c g b items r S) Q:=by
 intro items
 induction items with
 |nil=>intro k r S hi a _ j;rw[jQ];dsimp only;rw[ak (a _ _ _ hi),dA];exact j r S (by simpa using hi)
 |cons d ds ih=>
  intro k r S hi a l j;rw[jQ];dsimp only;rw[ak (a _ _ _ hi),dw];obtain⟨p,m,⟨f,u,n⟩,s,h⟩:=l 0 d O r S (by simpa using hi);refine⟨p,m,?_⟩;dsimp only;rw[dw];refine⟨_,s,?_⟩;dsimp only at h ⊢;rcases h with⟨rfl,e⟩|⟨v,rfl,t⟩
  ·exact ih (k+1) u n e a (fun i d o r S e=>by
    have:=l (i+1) d o r S (by rw[show k+(i+1)=k+1+i by lia];exact e);rw[show k+(i+1)+1=k+1+i+1 by lia]at this;exact this) λr S e=>j r S (by rw[lC1,show k+(ds.length+1)=k+1+ds.length by lia];exact e)
  ·exact dA.mpr t
theorem Gi{a b:FS}{r:Ev}{S:dr}{Q:Fl×Ev×dr->Prop}(h:W (a r S) λp=>(p.1 = .nx/\W (b p.2.1 p.2.2) Q) \/ ∃v,p.1 = .rt v/\Q (.rt v,p.2)):W (dG a b r S) Q:=by
 obtain⟨⟨f,c,d⟩,e,h⟩:=h;unfold dG;rw[e];dsimp only at h;rcases h with⟨rfl,h⟩|⟨v,rfl,h⟩
 ·exact h
 ·exact dA.mpr h
theorem LQ{m:FA}{r:Ev}{S:dr}{xs ys:List D}{Q:Aq×dr->Prop}(hm:m r S=Z ([.tup xs,.tup ys],S))(q:Q (⟨um xs ys,[]⟩,S)):W (CB m r S) Q:=by
 refine W.of ?_ q;unfold CB;rw[hm];rfl
theorem Ga:∀a b:List Nat,um (nmD a) (nmD b)=(a.zip b).map λp=>D.tup [.int p.1,.int p.2]
 |[],_=>rfl
 |_::_,[]=>rfl
 |x::a,y::b=>by
  have:=Ga a b;unfold nmD at this ⊢;rw[mP1,mP1,um,bX,mP1,this]
theorem Lw{d:D}{r:Ev}{T:dr}{i:Nat}(b:fh T)(hi:r[i]?=Z (Z d))(hv:vd T d=M):W (wT (iA (mTr (gy .tuple (mV i)))) (mB (m2 (b2 gEq) (mV i) (d7 dq))) r T) λp=>Up T p.2/\p.1 = !(vj d && !Gz d):=by
 have h1:=lA hv;have e:∀S,mV i r S=Z (d,S):=λS=>by unfold mV;rw[hi]
 have a:gy .tuple (mV i) r T=Z (.bl (vj d),T):=by
  obtain⟨p,e,rfl⟩:W (gy .tuple (mV i) r T) λp=>p=(.bl (vj d),T):=by
   rw[gn,e,dA];dsimp only;rw[h1,dA]
  exact e
 have ne:∀xs:List D,gEq (.tup xs) (.tup []) T=Z (.bl xs.isEmpty,T):=λxs=>by cases xs<;>rfl
 cases ht:vj d with
 |false=>
  rw[ht]at a;refine W.of (x:=(M,T)) ?_ ⟨Up.refl b,O⟩;simp only[wT,iA,mTr,a,oS1,mx,oP1,Bool.not_false,if_true]
 |true=>
  obtain⟨xs,rfl⟩:=jJ ht;rw[ht]at a;refine W.of (x:=(xs.isEmpty,T)) ?_ ⟨Up.refl b,by rw[Gz,cC,Bool.not_not]⟩;have c:mB (m2 (b2 gEq) (mV i) (d7 dq)) r T=Z (xs.isEmpty,T):=by
   obtain⟨p,e,rfl⟩:W (mB (m2 (b2 gEq) (mV i) (d7 dq)) r T) λp=>p=(xs.isEmpty,T):=by
    unfold mB m2;rw[dw,dw,e,dA];dsimp only
    wp_walk using ne
   exact e
  simp only[wT,iA,mTr,a,oS1,mx,oP1,b6,bF1,if_false,c]
theorem zE{m:Nat}{k d:D}{T:dr}{Q:Fl×Ev×dr->Prop}(v:fh T)(hv:vd T d=M)(hb:bd 1000 d=M)(q:∀V,Up T V->Q (if xl m d=M then .nx else .rt (.bl J),[Z (.int (m:Nat)),Z k,Z d],V)):W (fJ [Z (.int (m:Nat)),Z k,Z d] T) Q:=by
 unfold fJ;have j:xl m d=(vj d && !Gz d&&(match d with | .tup xs=>xs.all (jy m)&&inc (xs.map natD)|_=>false)):=by
  cases d with
  |tup xs=>rw[xl,Gz];rfl
  |_=>rfl
 refine pI (b:=vj d && !Gz d) (Lw v O hv) (λh V g=>?_) λh V g=>?_
 ·have:=q V g;rw[j,h,aL]at this;exact this
 rw[h,cC]at j;rw[bA1]at h;obtain⟨xs,rfl⟩:=jJ h.1;dsimp only at j;have w:=xn (e:=mN (dv 3 ew) (dn (mV 0) (dn (mC (D.int 0)) (dn (m2 (b2 gSub) (mV 1) (mC (D.int 1))) dq)))) (f:=jy m) (keep:=[0]) (r:=[Z (.int (m:Nat)),Z k,Z (.tup xs)]) (P:=[Z (.int (m:Nat))]) (T:=V) (xs:=xs) (i:=2) O (jL hb) O λx u=>by
  walk_at"w";exact BW g.2 (g.vd (xI hv u)) O
 obtain⟨p,e,rfl⟩:=w;have l:=g.app (iF (f:=jy m) xs);have hc:W (iA (mTr (mN (b1 lD) (dn (d5 1 [0] (eZ (mV 2)) (gN 0) d9 (dU (mN (dv 3 ew) (dn (mV 0) (dn (mC (D.int 0)) (dn (m2 (b2 gSub) (mV 1) (mC (D.int 1))) dq)))))) dq))) [Z (.int (m:Nat)),Z k,Z (.tup xs)] V) λp=>Up V p.2/\p.1 = !xs.all (jy m):=by
  refine W.of (x:=(!xs.all (jy m),V++[.lst (xs.map λx=>.bl (jy m x))])) ?_ ⟨⟨⟨_,O⟩,l.2⟩,O⟩;simp only[iA,mTr,e,oS1,mx,oP1]
 refine pI (b:=xs.all (jy m)) hc (λh2 U s=>?_) λh2 U s=>?_
 ·have:=q U (g.trans s);rw[j,h2,aL]at this;exact this
 rw[h2,cC]at j;obtain⟨t,_⟩:=wO h2;have A:=jL hb;have c:=g.trans s;refine Le (b:=inc (xs.map natD)) ?_ (λn wq o=>?_) λn wq o=>?_
 ·unfold mTr;rw [dw];refine k0 ?_;rw [fc];have z:dn (mV 2) (dn (ig (mV 2) (eV (mC (D.int 1))) fu) dq) [some (.int (m:Nat)),some k,some (.tup xs)] U=some ([.tup (nmD (xs.map natD)),.tup (nmD ((xs.map natD).drop 1))],U):=by
   have:nmD ((xs.map natD).drop 1)=Mi.gl xs (Z ((1:Nat):Int)) Y:=by
    rw[FC]
    conv=>rhs;rw[t]
    unfold nmD;rw[List.map_drop]
   rw[this,<- t];rfl
  refine LQ z ?_;rw[Ga];refine kW (f:=λp:Nat×Nat=>D.tup [.int p.1,.int p.2]) (λp=>D.bl (decide (p.2<=p.1))) (λr=>∃a b,r=[a,b]) O _ _ ⟨_,_,O⟩ ?_ ?_
  ·rintro⟨x,y⟩ _ r ⟨a,b,rfl⟩;walk_at"w";refine⟨?_,_,_,O⟩;simp
  ·rintro B _;refine⟨dB (by rw[lM1,List.length_zip,lM1];lia),?_⟩;refine xu (xs:=(xs.map natD).zip ((xs.map natD).drop 1)) (f:=λp=>decide (p.2<=p.1)) (by rw[dL];rfl) ?_;rw[Fi];exact W.of O ⟨⟨⟨_,O⟩,((Up.refl c.2).app (iF _)).2⟩,O⟩
 ·have:=q wq (c.trans o);rw[j,n]at this;exact this
 ·have:=q wq (c.trans o);rw[j,n]at this;exact this
theorem lj{m:Nat}{d:D}{S:dr}{Q:D×dr->Prop}(n:fh S)(hv:vd S d=M)(hb:bd 1000 d=M)(q:Q (.bl (iS m d),S)):W (dv 2 eF [.int m,d] S) Q:=by
 refine sr O n (by rw[hO,hO,hv,hO,vd];rfl) λT o f=>?_;have e:vd T d=M:=jW f (by simp);have h1:=lA e;unfold eF;refine jg ?_;unfold iU;refine pI (b:=vj d) ?_ (λh V j=>?_) λh V j=>?_
 ·wp_walk using gn,h1
  exact⟨Up.refl o,trivial⟩
 ·have:iS m d=false:=by
   cases d with
   |tup xs=>cases h
   |_=>rfl
  rw[this]at q;exact⟨j.1,O,q⟩
 obtain⟨xs,rfl⟩:=jJ h;rw[iS]at q;refine Gi ?_;unfold fC;rw[dw,iW];refine W.of (x:=(.tup xs,V)) O ?_;dsimp only;rw[gg];dsimp only;refine vc (λi r U=>Up T U/\(xs.take i).all (xl m)=M /\ ∃x2,r=[Z (.int (m:Nat)),Z (.tup xs),x2]) xs 0 _ _ ⟨j,O,_,O⟩ (λ_ _ _ _=>rfl) ?_ ?_
 ·rintro i x k r U ⟨c,a,x2,rfl⟩;have g:=gM1 k;walk_at"w";refine zE c.2 (c.vd (xI e g)) (Dg hb g) λwq l=>?_;rw[bQ]at a ⊢;cases hc:xl m x with
  |true=>
   refine .inl ⟨O,c.trans l,?_,_,O⟩;rw[cj,k,cM,a];simp[hc]
  |false=>
   refine .inr ⟨_,O,.inr ⟨_,O,(c.trans l).1,O,?_⟩⟩;have:xs.all (xl m)=J:=by
    rw[<- Bool.not_eq_true,bH];intro h;rw[h x g]at hc;cases hc
   rw[this]at q;exact q
 ·rintro r U ⟨c,a,x2,rfl⟩;rw[bQ,b0]at a;rw[a]at q;refine .inl ⟨O,?_⟩;walk_at"w";exact⟨c.1,O,q⟩
theorem oo{α:Type}[DecidableEq α]{S:dr}{n:Nat}{f:α->D}(h:∀a b,lE S n (f a) (f b)=Z (decide (a=b))):∀as bs:List α,vY (lE S n) (as.map f) (bs.map f)=Z (decide (as=bs))
 |[],[]=>rfl
 |[],b::bs=>by rw[ai (by simp)];rfl
 |a::as,[]=>by rw[ai (by simp)];rfl
 |a::as,b::bs=>by
  rw[mP1,mP1,vY,h,oo h as bs,oS1,oP1];refine congrArg Z ?_;rw[bT,bA1,al,al,al,List.cons.injEq]
theorem Jb{S:dr}{n:Nat}(a b:List Nat):lE S (n+2) (.tup (nmD a)) (.tup (nmD b))=Z (decide (a=b)):=by
 rw[show n+2=n+1+1 from rfl,Lv];refine oo (λx y=>?_) a b;show Z ((x:Int) == (y:Int))=_;refine congrArg Z ?_;rw[bT,beq_iff_eq,al];lia
theorem Lq{S:dr}{n:Nat}(u v:Wk):lE S (n+2) (eN u) (eN v)=Z (decide (u=v)):=by
 rw[show n+2=n+1+1 from rfl];show lE S (n+1+1) (.tup [.int (u.1:Nat),.int (u.2.1:Nat),.int (u.2.2:Nat)]) (.tup [.int (v.1:Nat),.int (v.2.1:Nat),.int (v.2.2:Nat)])=_;rw[Lv];have:=oo (S:=S) (n:=n+1) (f:=λx:Nat=>D.int x) (λx y=>by
  show Z ((x:Int) == (y:Int))=_;refine congrArg Z ?_;rw[bT,beq_iff_eq,al];lia) [u.1,u.2.1,u.2.2] [v.1,v.2.1,v.2.2]
 simp only[mP1,bj]at this;rw[this];refine congrArg Z ?_;rw[decide_eq_decide];obtain⟨a,b,c⟩:=u;obtain⟨d,e,f⟩:=v;simp
theorem Gy{S:dr}(a b:Wh):gEq (whD a) (whD b) S=Z (.bl (decide (a=b)),S):=by
 show(lE S (57+2+1) (.tup [.tup (a.1.map eN),.tup (nmD a.2)]) (.tup [.tup (b.1.map eN),.tup (nmD b.2)])).map _=_;have h1:lE S (57+2) (.tup (a.1.map eN)) (.tup (b.1.map eN))=Z (decide (a.1=b.1)):=by
  rw[show 57+2=56+2+1 from rfl,Lv];exact oo Lq a.1 b.1
 rw[Lv,vY,h1,vY,Jb,vY];simp only[oS1,oP1,bP];refine congrArg Z ?_;refine congrArg (λz=>(D.bl z,S)) ?_;rw[bT,bA1,al,al,al];obtain⟨x,y⟩:=a;obtain⟨z,w⟩:=b;simp
def nQ(a:Wh):Bool:=match a.1 with
 |[]=>M
 |u::us=>us.all λv=>decide (v.1=u.1)
theorem Fa{a:Wh}{S:dr}{Q:D×dr->Prop}(h0:0<a.1.length)(h:a.1.length<=100)(q:Q (.bl (nQ a),S)):W (dv 1 iN [whD a] S) Q:=by
 refine jx O (by rw[D.unds,kB];rfl) ?_;obtain⟨ws,cs⟩:=a;cases ws with
 |nil=>cases h0
 |cons u d=>
  dsimp only at h;rw[nQ]at q;dsimp only at q;have g:∀S,dz (whD (u::d,cs)) (.int 0) S=Z (.tup ((u::d).map eN),S):=λS=>rfl;have i:∀S,dz (.tup ((u::d).map eN)) (.int 0) S=Z (eN u,S):=λS=>by
   obtain⟨p,e,rfl⟩:W (dz (.tup ((u::d).map eN)) (.int ((0:Nat):Int)) S) λp=>p=(eN u,S):=jV O O;exact e
  have k:∀S,dz (eN u) (.int 0) S=Z (.int (u.1:Nat),S):=λS=>rfl;unfold iN;refine jg ?_;unfold vQ;refine d1 (λr V=>V=[]/\r=[Z (whD (u::d,cs)),Z (.int (u.1:Nat))]) ?_ ?_
  ·rw [show fH 2 [whD (u::d,cs)]=[some (whD (u::d,cs)),none] from rfl];have j:m2 (b2 dz) (m2 (b2 dz) (m2 (b2 dz) (mV 0) (mC (D.int 0))) (mC (D.int 0))) (mC (D.int 0)) [some (whD (u::d,cs)),none] []=some (.int (u.1:Nat),[]):=by
    simp only[m2,b2,mV,mC,cK,oS1,g,i,k]
   unfold dH;rw[dw];refine W.of j ?_;exact W.of O ⟨O,O,O⟩
  rintro r V ⟨rfl,rfl⟩;unfold ee;rw[dw];refine k0 ?_;rw[fc,iW];refine W.of (x:=(.tup ((u::d).map eN),[])) O ?_;dsimp only;rw[gg];dsimp only;rw[show jv 3 [1] [Z (whD (u::d,cs)),Z (D.int (u.1:Nat))]=[Y,Y,Y,Z (.int (u.1:Nat))]from rfl];refine kW (f:=eN) (λv=>D.bl (decide (v.1=u.1))) (λr=>∃a b c,r=[a,b,c,Z (.int (u.1:Nat))]) O (u::d) _ ⟨_,_,_,O⟩ ?_ ?_
  ·rintro v _ r ⟨a,b,c,rfl⟩;unfold eN;walk_at"w";refine⟨?_,_,_,_,O⟩;refine congrArg D.bl ?_;rw[bT,beq_iff_eq,al];lia
  ·rintro l _;refine⟨dB (by rw[lM1];lia),?_⟩;refine qt (n:=0) (xs:=u::d) (f:=λv=>decide (v.1=u.1)) O ?_;rw[bS,ah O,cC];exact W.of O ⟨O,q⟩
theorem IU{n:Nat}{S:dr}{kvs:List (Key×D)}(h:S[n]?=Z (.dct kvs)):pL (.ref n) S=Z (.int kvs.length,S):=by
 simp only[pL,h]
theorem wE{l:List Wk}:mG (l.map λv=>D.tup [.int (v.1:Nat),.bl M])=Z (l.map λv=>((.inl (v.1:Nat):Key),D.bl M)):=by
 induction l with
 |nil=>rfl
 |cons v l ih=>rw[mP1,mG,ih];rfl
theorem IS{a:Wh}{S:dr}{Q:D×dr->Prop}(h0:0<a.1.length)(j:a.1.length<=100)(q:Q (.bl (nQ a),S)):W (dv 1 gj [whD a] S) Q:=by
 refine jx O (by rw[D.unds,kB];rfl) ?_;obtain⟨ws,cs⟩:=a;cases ws with
 |nil=>cases h0
 |cons u c=>
  dsimp only at j;rw[nQ]at q;dsimp only at q;unfold gj;refine jg ?_;unfold qo;rw[show fH 1 [whD (u::c,cs)]=[Z (whD (u::c,cs))]from rfl];unfold ee;rw[dw];refine ra ?_;refine k0 ?_;refine k0 ?_;rw[fc,iW];refine W.of (x:=(.tup ((u::c).map eN),[])) O ?_;dsimp only;rw[gg];dsimp only;rw[show jv 1 [] [Z (whD (u::c,cs))]=[Y]from rfl];refine kW (f:=eN) (λv=>D.tup [.int (v.1:Nat),.bl M]) (λr=>∃a,r=[a]) O (u::c) _ ⟨_,O⟩ ?_ ?_
  ·rintro v _ r ⟨a,rfl⟩;unfold eN;walk_at"w";refine jV (i:=0) O ?_;walk_at"w";exact⟨_,O⟩
  ·rintro l _;refine ⟨dB (by rw [lM1];lia),?_⟩;dsimp only;have e:pN (.ref 0) [.lst ((u::c).map fun v=>D.tup [.int (v.1:Nat),.bl true])]=some (.ref 1,[.lst ((u::c).map fun v=>D.tup [.int (v.1:Nat),.bl true]),.dct (vw ((u::c).map fun v=>((.inl (v.1:Nat):Key),D.bl true)))]):=by
    unfold pN;rw[fQ (n:=0) O];dsimp only;rw[wE,oS1,ak (by rw[lM1];lia)];rfl
   refine W.of e ?_;refine W.of (IU (n:=1) O) ?_;refine W.of (x:=(.int 1,_)) O ?_;have b:=zS (α:=Nat) (f:=λx:Nat=>(.inl (x:Int):Key)) (λx y h=>by have:=Sum.inl.inj h;lia) (d:=.bl M) u.1 (c.map λv=>v.1);have g:(u.1::c.map λv=>v.1).map (λx:Nat=>((.inl (x:Int):Key),D.bl M))=(u::c).map λv=>((.inl (v.1:Nat):Key),D.bl M):=by rw[mP1,mP1,bD];rfl
   rw[g]at b;generalize vw ((u::c).map λv=>((.inl (v.1:Nat):Key),D.bl M))=F at b ⊢;refine W.of (x:=(.bl (((F.length:Nat):Int) == 1),_)) O ?_;have k:(((F.length:Nat):Int) == 1)=c.all λv=>decide (v.1=u.1):=by
    rw[List.all_map]at b;rw[bT]at b ⊢;rw[beq_iff_eq]at b ⊢;exact⟨λh=>b.mp (by lia),λh=>by have:=b.mpr h;lia⟩
   rw[k];exact W.of O ⟨O,q⟩
theorem Di{g:FN}{r:Ev}{T:dr}{n i:Nat}{b:List Wh}(hi:r[i]? = some (some (.ref n)))(hn:T[n]? = some (.lst (b.map whD)))(h:b.length<=1000)(hg:∀ a∈b,∀ Q:D×dr->Prop,Q (.bl (nQ a),T)->W (dv 1 g [whD a] T) Q):
  W (mN (b1 nU) (dn (d5 1 [] (eZ (mV i)) (gN 0) d9 (dU (mN (dv 1 g) (dn (mV 0) dq)))) dq) r T) λp=>p=(.bl (b.any nQ),T++[.lst (b.map λa=>.bl (nQ a))]):=by
 have d:∀S,mV i r S=Z (.ref n,S):=λS=>by unfold mV;rw[hi]
 refine k0 ?_;rw[fc,iW,d,dA];dsimp only;refine eh hn ?_;dsimp only;rw[show jv 1 [] r=[Y]from rfl];refine kW (f:=whD) (λa=>D.bl (nQ a)) (λr=>∃x,r=[x]) (fR hn) b _ ⟨_,O⟩ ?_ ?_
 ·rintro a c r ⟨y,rfl⟩;walk_at"w";refine hg a c _ ?_;exact⟨O,O,_,O⟩
 ·rintro e _;refine⟨dB (by rw[lM1];lia),?_⟩;refine xu (xs:=b) (f:=nQ) (by rw[dL];rfl) ?_;rfl
def G0(n:Nat)(chs:List (List Nat)):Bool:=(af n).all λk=>chs.any λch=>ch.contains k
def Jh(n m:Nat)(w:dD)(e:E4)(L:List Rw)(a:Wh)(c1 c2:List (List Nat)):Bool:=
 G0 n c2&&(decide (eW m w e L c1 a=eW m w e L (c1++c2) a) && !((WsC m w e L (c1++c2) a).any nQ))
def Nh:D->List Nat
 | .tup ys=>ys.map natD
 |_=>[]
def FD:D->List (List Nat)
 | .tup xs=>xs.map Nh
 |_=>[]
theorem mi(chs:List (List Nat)):FD (.tup (chs.map chD))=chs:=by
 rw[FD,bD]
 conv=>rhs;rw[<- cH chs]
 refine cD λch _=>?_;show Nh (chD ch)=ch;unfold chD nmD;rw[Nh,bD]
 conv=>rhs;rw[<- cH ch]
 refine cD λx _=>?_;show natD (.int (x:Nat))=x;rw[natD,Int.toNat_natCast]
def xg(n m:Nat)(w:dD)(e:E4)(L:List Rw)(a:Wh)(x y:D):Bool:=(iS n x&&iS n y)&&Jh n m w e L a (FD x) (FD y)
theorem Jp{n:Nat}{f:FN}{as bs:List D}{S:dr}{Q:D×dr->Prop}(hn:(as++bs).length=n)(a:fh S)(ha:D.unds 0 as=M)(hv:hO S bs=M)(h:∀T,fh T->hO T bs=M->W (f (as++bs) T) λp=>(∃G,p.2=T++G)/\p.1.und 0=M/\Q (p.1,S)):W (dv n f (as++bs) S) Q:=by
 cases hu:D.unds 0 (as++bs)with
 |true=>
  have c:D.unds 0 bs=M:=by
   rw[kC,cM,bA1]at hu;rw[kC];exact hu.2
  exact jx hn hu ((h [] rfl (oF hv c)).mono λp q=>⟨q.2.1,q.2.2⟩)
 |false=>
  refine jR hn hu ((h S a hv).mono ?_);rintro⟨d,V⟩ ⟨⟨G,e⟩,b,q⟩;dsimp only at e b q;subst e;rw[pJ b a];exact q
theorem Lc{x:Nat}{ch:List Nat}{S:dr}:fY (.int (x:Nat)) (chD ch) S=Z (.bl (ch.contains x),S):=Cv
theorem A2{k:Nat}{cs:List (List Nat)}{V:dr}{r:Ev}(d:cs.length<=1000)(h0:r[0]? = some (some (.int (k:Nat))))(h1:r[1]? = some (some (.tup (cs.map chD)))):
  W (mN (b1 nU) (dn (d5 1 [0] (eZ (mV 1)) (gN 0) d9 (dU (m2 (b2 fY) (mV 1) (mV 0)))) dq) r V) λp=>p.1 = .bl (cs.any λch=>ch.contains k) /\ ∃xs,p.2=V++[.lst xs]/\(Ob.lst xs).und 0=M:=by
 have b:∀S,mV 1 r S=Z (.tup (cs.map chD),S):=λS=>by unfold mV;rw[h1]
 have a:jv 1 [0] r=[Y,Z (.int (k:Nat))]:=by unfold jv;simp[h0]
 refine k0 ?_;rw[fc,iW,b,dA];dsimp only;rw[gg];dsimp only;rw[a];refine kW (f:=chD) (λch=>D.bl (ch.contains k)) (λr=>∃x,r=[x,Z (.int (k:Nat))]) O cs _ ⟨_,O⟩ ?_ ?_
 ·rintro ch _ r ⟨y,rfl⟩
  wp_walk using Lc
  exact⟨_,O⟩
 ·rintro c _;refine⟨dB (by rw[lM1];lia),?_⟩;refine xu (xs:=cs) (f:=λch=>ch.contains k) (by rw[dL];rfl) ?_;exact⟨O,_,O,iF _⟩
theorem DN{n:Nat}{cs:List (List Nat)}{V:dr}{r:Ev}(hn:n<=100)(j:cs.length<=1000)(l:fh V)(q:r[5]? = some (some (.int (n:Nat))))(m:r[4]? = some (some (.tup (cs.map chD)))):
  W (mN (b1 lD) (dn (d5 1 [4] (nS (dn (mV 5) dq)) (gN 0) d9 (dU (mN (b1 nU) (dn (d5 1 [0] (eZ (mV 1)) (gN 0) d9 (dU (m2 (b2 fY) (mV 1) (mV 0)))) dq)))) dq) r V) λp=>p.1 = .bl (G0 n cs)/\Up V p.2:=by
 have o:∀S,dn (mV 5) dq r S=Z ([.int (n:Nat)],S):=λS=>by simp only[dn,dq,mV,q,oS1]
 have s:jv 1 [4] r=[Y,Z (.tup (cs.map chD))]:=by unfold jv;simp[m]
 refine k0 ?_;rw[fc,nL,o,dA];unfold Bi;dsimp only;rw[Int.toNat_natCast];refine⟨gG (by lia),?_⟩;rw[s,jP];refine iB (λi b r S=>i<=n/\Up V S/\b=(af i).map (λk=>D.bl (cs.any λch=>ch.contains k)) /\ ∃x,r=[x,Z (.tup (cs.map chD))]) _ 0 [] _ _ ⟨br _,Up.refl l,O,_,O⟩ (λ_ _ _ _ _=>rfl) ?_ ?_
 ·rintro i d a b r S ⟨hi,e,rfl,x,rfl⟩;have c:=(gE1.mp a).1;rw[lM1,cW]at c;rw[gP1,cr c]at a;have a:=(Option.some.inj a).symm;subst a;rw[bQ]at *
  unfold gN d9;rw[dA];dsimp only;rw[dA,ak O];refine(A2 (k:=i) j O O).mono ?_;rintro⟨p,U⟩ ⟨h1,xs,h2,h⟩;dsimp only at h1 h2 ⊢;subst h1 h2;exact⟨by lia,e.app h,by rw[List.range_succ,cg];rfl,_,O⟩
 ·rintro xs r S ⟨hi,e,g,x,rfl⟩;rw[lM1,cW,bQ]at *
  rw[bi]at g;subst g;refine⟨dB (by rw[lM1,cW];lia),?_⟩;refine qt (xs:=af n) (f:=λk=>cs.any λch=>ch.contains k) (by rw[dL];rfl) ?_;exact⟨O,e.app (iF _)⟩
theorem Bg{m:FE}{r:Ev}{S:dr}{Q:Fl×Ev×dr->Prop}(h:W (m r S) λp=>Q (.rt p.1,r,p.2)):W (ee m r S) Q:=by
 unfold ee;rw[dw];exact h.mono λp a=>dA.mpr a
theorem pY{n:Nat}{x y:D}{i j k:Nat}{g:FN}{r:Ev}{T:dr}(c:fh T)(hk:r[k]? = some (some (.int (n:Nat))))(hi:r[i]? = some (some x))(e:r[j]? = some (some y))(hg:∀ d,d=x\/d=y->W (dv 2 g [.int n,d] T) fun p=>p=(.bl (iS n d),T)):
  W (wT (iA (mTr (mN (dv 2 g) (dn (mV k) (dn (mV i) dq))))) (iA (mTr (mN (dv 2 g) (dn (mV k) (dn (mV j) dq))))) r T) λp=>Up T p.2/\p.1 = !(iS n x&&iS n y):=by
 have a:∀S,mV k r S=Z (.int (n:Nat),S):=λS=>by unfold mV;rw[hk]
 have f:∀S,mV i r S=Z (x,S):=λS=>by unfold mV;rw[hi]
 have l:∀S,mV j r S=Z (y,S):=λS=>by unfold mV;rw[e]
 obtain⟨_,b,rfl⟩:=hg x (.inl O);obtain⟨_,h,rfl⟩:=hg y (.inr O);have c1:mN (dv 2 g) (dn (mV k) (dn (mV i) dq)) r T=Z (.bl (iS n x),T):=by simp only[mN,dn,dq,a,f,oS1,b]
 have c2:mN (dv 2 g) (dn (mV k) (dn (mV j) dq)) r T=Z (.bl (iS n y),T):=by simp only[mN,dn,dq,a,l,oS1,h]
 refine W.of (x:=(!(iS n x&&iS n y),T)) ?_ ⟨Up.refl c,O⟩;simp only[wT,iA,mTr,c1,c2,oS1,mx,oP1];cases iS n x<;>cases iS n y<;>rfl
abbrev rS(w:dD)(e:E4)(L:List Rw)(rs cs:List Nat)(c1 c2:List (List Nat))(y6:Option D):Ev:=[Z (ec w),Z (mcD e L),Z (eJ rs cs),Z (.tup (c1.map chD)),Z (.tup (c2.map chD)),Z (.int (rs.length:Nat)),y6]
section
variable{m:Nat}{w:dD}{e:E4}{L:List Rw}{rs cs:List Nat}
theorem DU{x y:D}{S:dr}{Q:D×dr->Prop}(hw:jU m w)(hm:m<=8)(hst:ue m rs cs)(r0:0<rs.length)(inc:Inc e L)(ok:∀ p∈L,gr p)(hl:L.length<=4000)(hS:fh S)(hx:vd S x=M)(hy:vd S y=M)(P:bd 150 x=M)(t:bd 150 y=M)(q:Q (.bl (xg rs.length m w e L (iY rs cs) x y),S)):W (dv 5 ga [ec w,mcD e L,eJ rs cs,x,y] S) Q:=by
 refine Jp (as:=[ec w,mcD e L,eJ rs cs]) (bs:=[x,y]) O hS (by rw[D.unds,D.unds,D.unds,hK,kG ok,ji];rfl) (by rw[hO,hO,hO,hx,hy];rfl) λT I u=>?_;have N:vd T x=M:=jW u (by simp);have ao:vd T y=M:=jW u (by simp);have hf:=hst.few;unfold ga;refine jg ?_;unfold lm;refine d1 (λr V=>V=T/\r=[Z (ec w),Z (mcD e L),Z (eJ rs cs),Z x,Z y,Z (.int (rs.length:Nat)),Y]) ?_ ?_
 ·have aq:∀S,dz (eJ rs cs) (.int 0) S=Z (.tup (nmD rs),S):=λS=>rfl
  wp_walk using aq,ff
 rintro r V ⟨rfl,rfl⟩;refine pI (b:=iS rs.length x&&iS rs.length y) (pY I O O O λd c=>?_) (λh U v=>?_) λh U v=>?_
 ·rcases c with rfl|rfl
  ·exact mq I N (kQ (by lia) P) O
  ·exact mq I ao (kQ (by lia) t) O
 ·unfold xg at q;rw[h,aL]at q;exact⟨v.1,O,q⟩
 unfold xg at q;rw[h,cC]at q;rw[bA1]at h;obtain⟨c1,rfl,h1⟩:=oy h.1;obtain⟨c2,rfl,h2⟩:=oy h.2;rw[mi,mi]at q;have l1:=jL P;have l2:=jL t
 rw[lM1]at l1 l2;unfold Jh at q;refine pI (b:=G0 rs.length c2) ?_ (λC wq K=>?_) λC wq K=>?_
 ·obtain⟨⟨d,R⟩,ea,c,s⟩:=DN (n:=rs.length) (cs:=c2) (V:=U) (r:=(rS w e L rs cs c1 c2 Y)) (by lia) (by lia) v.2 O O;dsimp only at c s;subst c;refine W.of (x:=(!G0 rs.length c2,R)) ?_ ⟨s,O⟩;simp only[iA,mTr,ea,oS1,mx,oP1]
 ·rw[C,aL]at q;exact⟨(v.trans K).1,O,q⟩
 rw[C,cC]at q;have E:=v.trans K;have H:=ua hw hm hst;have hbl:(iY rs cs).1.length=rs.length:=lM1 ..
 have o:=λS Q q=>FY (rs:=rs) (cs:=cs) (S:=S) (Q:=Q) (by lia) q;generalize iY rs cs=a at *
 refine d1 (λr au=>au=wq++[.lst ((WsC m w e L (c1++c2) a).map whD)]/\r=(rS w e L rs cs c1 c2 (Z (.ref wq.length)))) ?_ ?_
 ·walk_at"w";refine o _ _ ?_;walk_at"w";refine⟨dB (by rw[lM1,lM1];lia),?_⟩;rw[<- cg];refine we H inc ok hl (by rw[lA1];lia) ?_;exact⟨O,O⟩
 rintro r au ⟨rfl,rfl⟩;have hws:=LL (chs:=c1++c2) (e:=e) ok H;have k:((WsC m w e L (c1++c2) a).map whD).length=(c1++c2).length+1:=by rw[lM1,mZ]
 have j:(wq++[Ob.lst ((WsC m w e L (c1++c2) a).map whD)])[wq.length]?=Z (.lst ((WsC m w e L (c1++c2) a).map whD)):=by rw[cO]
 have G:((WsC m w e L (c1++c2) a).map whD)[c1.length]?=Z (whD (eW m w e L c1 a)):=by
  rw[gP1,sD (by rw[lA1];lia),cI];rfl
 have B:((WsC m w e L (c1++c2) a).map whD)[(c1++c2).length]?=Z (whD (eW m w e L (c1++c2) a)):=by
  rw[gP1,sD (nR1 _),b0];rfl
 have l:Up V (wq++[Ob.lst ((WsC m w e L (c1++c2) a).map whD)]):=E.app (by rw[Ob.und];exact n4 _ _);refine Bg ?_;unfold gx;rw[dw];have z:=Di (g:=iN) (r:=(rS w e L rs cs c1 c2 (Z (.ref wq.length)))) (i:=6) O j (by rw[mZ,lA1];lia) λb F Q q=>by
  obtain⟨i,_,rfl⟩:=ci.mp F;have h2:=jt (e:=e) ok (chs:=(c1++c2).take i) H;exact Fa (by rw[h2.2];lia) (by rw[h2.2];lia) q
 obtain⟨_,X,rfl⟩:=z;generalize mN (b1 nU) (dn (d5 1 [] (eZ (mV 6)) (gN 0) d9 (dU (mN (dv 1 iN) (dn (mV 0) dq)))) dq)=A at *
 have am:W (m2 (b2 gEq) (m2 (b2 dz) (mV 6) (mN (b1 eA) (dn (mV 3) dq))) (m2 (b2 dz) (mV 6) (m1 (b1 mR) (mC (D.int 1)))) (rS w e L rs cs c1 c2 (Z (.ref wq.length))) (wq++[.lst ((WsC m w e L (c1++c2) a).map whD)])) λp=>p=(.bl (decide (eW m w e L c1 a=eW m w e L (c1++c2) a)),wq++[.lst ((WsC m w e L (c1++c2) a).map whD)]):=by
  refine ra ?_;refine ra ?_;refine W.of (x:=(.ref wq.length,_)) O ?_;refine k0 ?_;refine W.of (x:=(.tup (c1.map chD),_)) O ?_;dsimp only;rw[gY,lM1];refine dA.mpr ?_;refine nK j G ?_;refine ra ?_;refine W.of (x:=(.ref wq.length,_)) O ?_;refine W.of (x:=(.int (-1),_)) O ?_;refine mr j k B ?_;exact W.of (Gy _ _) O
 obtain⟨_,eq,rfl⟩:=am;refine W.of eq ?_;dsimp only;cases c:decide (eW m w e L c1 a=eW m w e L (c1++c2) a)with
 |false=>
  rw[c,aL]at q;walk_at"w";exact⟨l.1,O,q⟩
 |true=>
  rw[c,cC]at q
  wp_walk using X
  exact⟨by simpa using(l.app (iF (f:=nQ) (WsC m w e L (c1++c2) a))).1,O,q⟩
end
theorem LH{n:Nat}{f:FN}{ds:List D}{S:dr}{Q:D×dr->Prop}(hn:ds.length=n)(c:D.unds 0 ds=J)(b:fh S)(h:W (f ds S) λp=>(∃G,p.2=S++G)/\p.1.und 0=M/\Q (p.1,S)):W (dv n f ds S) Q:=by
 refine jR hn c (h.mono ?_);rintro⟨d,V⟩ ⟨⟨G,e⟩,a,q⟩;dsimp only at e a q;subst e;rw[pJ a b];exact q
theorem LS{n k:Nat}{S:dr}{xs ys:List D}{Q:D×dr->Prop}(h1:S[n]?=Z (.lst xs))(h2:S[k]?=Z (.lst ys))(a:xs.length+ys.length<=10000)(q:Q (.non,S.set n (.lst (xs++ys)))):W (CM (.ref n) (.ref k) S) Q:=by
 refine W.of ?_ q;simp only[CM,h1,h2];rw[ak (aC a (by decide))]
theorem pR{n:Nat}:∀{cs:List (List Nat)},(∀ch∈cs,ch.length<=n)->cs.flatten.length<=n*cs.length
 |[],_=>by simp
 |c::cs,h=>by
  have h1:=h c mS1;have h2:=pR (cs:=cs) λx a=>h x (mC1 _ a);rw[a0,lA1,lC1,Nat.mul_succ];lia
theorem DO{n:Nat}{cs:List (List Nat)}:(af n).all (λk=>cs.flatten.contains k)=G0 n cs:=by
 unfold G0
 congr 1
 funext k
 rw[bT,cw,bU,cR];constructor
 ·rintro⟨l,h1,h2⟩;exact⟨l,h1,cw.mpr h2⟩
 ·rintro⟨l,h1,h2⟩;exact⟨l,h1,cw.mp h2⟩
theorem F1{n a:Nat}{cs:List Nat}{V:dr}{r:Ev}(hn:n<=100)(hk:V[a]? = some (.lst (nmD cs)))(d:r[5]? = some (some (.int (n:Nat))))(b:r[9]? = some (some (.ref a))):
  W (mN (b1 lD) (dn (d5 1 [9] (nS (dn (mV 5) dq)) (gN 0) d9 (dU (m2 (b2 fY) (mV 0) (mV 1)))) dq) r V) λp=>p.1 = .bl ((af n).all λk=>cs.contains k) /\ ∃xs,p.2=V++[.lst xs]:=by
 have c:∀S,dn (mV 5) dq r S=Z ([.int (n:Nat)],S):=λS=>by simp only[dn,dq,mV,d,oS1]
 have g:jv 1 [9] r=[Y,Z (.ref a)]:=by unfold jv;simp[b]
 refine k0 ?_;rw[fc,nL,c,dA];unfold Bi;dsimp only;rw[Int.toNat_natCast];refine⟨gG (by lia),?_⟩;rw[g,jP];refine kW (f:=λi:Nat=>D.int i) (λk=>D.bl (cs.contains k)) (λr=>∃x,r=[x,Z (.ref a)]) O _ _ ⟨_,O⟩ ?_ ?_
 ·rintro k _ r ⟨y,rfl⟩;have e:=Cw (x:=k) hk
  wp_walk using e
  exact⟨_,O⟩
 ·rintro h _;refine⟨dB (by rw[lM1,cW];lia),?_⟩;refine qt (xs:=af n) (f:=λk=>cs.contains k) (by rw[dL];rfl) ?_;exact⟨O,_,O⟩
def rD(w:dD)(e:E4)(kd:Nat)(rs cs:List Nat)(c1 c2:List (List Nat))(a:Wh)(y7 y8 y9 y10:Option D):Ev:=[Z (ec w),Z (owD e kd),Z (eJ rs cs),Z (.tup (c1.map chD)),Z (.tup (c2.map chD)),Z (.int (rs.length:Nat)),Z (whD a),y7,y8,y9,y10]
section
variable{m kd:Nat}{w:dD}{e:E4}{L:List Rw}{rs cs:List Nat}{c1 c2:List (List Nat)}{a:Wh}
theorem zY{n:Nat}{U:dr}{y8:Option D}{Q:Fl×Ev×dr->Prop}(h:iD m w a.1 a.2)(hn:a.1.length=n)(I:n<=8)(inc:Inc e L)(ok:∀ p∈L,gr p)(E:L.length<=4000)(F:fh U)(hd:U[kd]? = some (dO (rwF e L)))(h1:∀ ch∈c1,ChX n ch)(h2:∀ ch∈c2,ChX n ch)(am:c1.length<=200)(K:c2.length<=200)(q:∀l,Q (.nx,rD w e kd rs cs c1 c2 a (some (.ref U.length)) l none none,U++[.lst ((WsC m w e L (c1++c2) a).map whD)])):
  W (fC (eZ (m2 (b2 eD) (mV 3) (mV 4))) (gN 8) jE (rD w e kd rs cs c1 c2 a (Z (.ref U.length)) y8 Y Y) (U++[.lst [whD a]])) Q:=by
 unfold fC;rw[dw,iW];refine ra ?_;refine W.of (x:=(.tup (c1.map chD),_)) O ?_;refine W.of (x:=(.tup (c2.map chD),_)) O ?_;walk_at"w";refine⟨dB (by rw[lM1,lM1];lia),?_⟩;rw[<- cg];rw[gg];refine fz (λi r V=>V=U++[.lst ((WsC m w e L ((c1++c2).take i) a).map whD)] /\ ∃l,r=rD w e kd rs cs c1 c2 a (Z (.ref U.length)) l Y Y) _ 0 _ _ ⟨O,_,O⟩ (λ_ _ _ _=>rfl) ?_ ?_
 ·rintro i d o r V ⟨rfl,l,rfl⟩;rw[gP1]at o;obtain⟨ch,g,rfl⟩:=oM1.mp o;have C:=(gE1.mp g).1;have G:(c1++c2).take (i+1)=(c1++c2).take i++[ch]:=by rw[cj,g];rfl
  have s:((c1++c2).take i).length=i:=by rw[aR];lia
  have A:ChX n ch:=by
   rcases aF.mp (gM1 g)with z|z
   ·exact h1 ch z
   ·exact h2 ch z
  rw[bQ]at *
  have c:=jt (e:=e) (m:=m) (w:=w) ok (chs:=(c1++c2).take i) h;rw[hn]at c;have f:((WsC m w e L ((c1++c2).take i) a).map whD).length=i+1:=by rw[lM1,mZ,s]
  have t:((WsC m w e L ((c1++c2).take i) a).map whD)[i]?=Z (whD (eW m w e L ((c1++c2).take i) a)):=by
   rw[gP1,sD (by lia),b7 (by lia)];rfl
  have u:=yU (m:=m) (w:=w) (e:=e) (L:=L) (chs:=(c1++c2).take i) (a:=a) (ch:=ch);have j:(U++[Ob.lst ((WsC m w e L ((c1++c2).take i) a).map whD)])[U.length]?=Z (.lst ((WsC m w e L ((c1++c2).take i) a).map whD)):=by rw[cO]
  have y:fh (U++[Ob.lst ((WsC m w e L ((c1++c2).take i) a).map whD)]):=((Up.refl F).app (by rw[Ob.und];exact n4 _ _)).2;have v:(U++[Ob.lst ((WsC m w e L ((c1++c2).take i) a).map whD)])[kd]?=Z (dO (rwF e L)):=fF hd;rw[G];generalize eW m w e L ((c1++c2).take i) a=b at *
  unfold rD at *
  walk_at"w";unfold jE fj;rw[dw];refine kl ?_;walk_at"w";refine⟨U.length,_,O,j,?_⟩
  wp_walk using mR
  refine mr j f t ?_;walk_at"w";refine yi (ws:=b.1) (cs:=b.2) (ch:=ch) c.1 (Gk inc ok E) v y (λk H=>by rw[c.2];exact A.lt k H) (by have:=A.few;lia) ?_;refine(ls j).mpr ⟨dB (by rw[f,lA1]at *;lia),?_⟩;refine⟨?_,_,O⟩;have B:(WsC m w e L ((c1++c2).take i) a).map whD++[Gx m w (eG w b.1 b.2 e L ch) b.2]=(WsC m w e L ((c1++c2).take i++[ch]) a).map whD:=by rw[u,cg];rfl
  rw[B,cU _ _ (nR1 _),cP];rfl
 ·rintro r V ⟨rfl,l,rfl⟩;rw[lM1,bQ,b0];exact q l
theorem A0{n:Nat}{V:dr}{y7 y8 y10:Option D}{Q:Fl×Ev×dr->Prop}(t:n<=8)(u:fh V)(h2:∀ ch∈c2,ChX n ch)(A:c2.length<=200)(q:∀c j,Up V j->j[V.length]?=some (.lst (nmD c2.flatten))->Q (.nx,rD w e kd rs cs c1 c2 a y7 c (some (.ref V.length)) y10,j)):
  W (fC (eZ (mV 4)) (gN 8) jD (rD w e kd rs cs c1 c2 a y7 y8 (Z (.ref V.length)) y10) (V++[.lst []])) Q:=by
 unfold fC;rw[dw,iW];refine W.of (x:=(.tup (c2.map chD),_)) O ?_;dsimp only;rw[gg];have y:=pR (cs:=c2) λch hc=>(h2 ch hc).few;refine fz (λi r U=>(∃G,U=V++[.lst (nmD (c2.take i).flatten)]++G/\fh U) /\ ∃c,r=rD w e kd rs cs c1 c2 a y7 c (Z (.ref V.length)) y10) _ 0 _ _ ⟨⟨[],by rw[aN];rfl,((Up.refl u).app O).2⟩,_,O⟩ (λ_ _ _ _=>rfl) ?_ ?_
 ·rintro i d f r U ⟨⟨G,rfl,b⟩,c,rfl⟩;rw[gP1]at f;obtain⟨ch,g,rfl⟩:=oM1.mp f;have s:=h2 ch (gM1 g);have v:(c2.take (i+1)).flatten=(c2.take i).flatten++ch:=by rw[cj,g,List.flatten_append];simp
  have m:=pR (cs:=c2.take i) λch hc=>(h2 ch (cA hc)).few;have h:(c2.take i).length<=200:=by rw[aR];lia
  have z:=Nat.mul_le_mul t h;have l:=s.few;rw[bQ]at *
  rw[v];have k:∀o,(V++[Ob.lst (nmD (c2.take i).flatten)]++G++[o])[V.length]?=Z (.lst (nmD (c2.take i).flatten)):=λo=>by
   rw[bf,bf,dL];rfl
  unfold rD at *
  walk_at"w";unfold jD fj;rw[dw];refine kl ?_;walk_at"w";refine⟨V.length,_,O,by rw[dL];rfl,?_⟩;refine W.of (x:=(.ref (V++[Ob.lst (nmD (c2.take i).flatten)]++G).length,V++[Ob.lst (nmD (c2.take i).flatten)]++G++[.lst (nmD ch)])) ?_ ?_
  ·show nT (chD ch) _=_;rw[show V++Ob.lst (nmD (c2.take i).flatten)::G=V++[Ob.lst (nmD (c2.take i).flatten)]++G by simp];rfl
  dsimp only;refine LS (k _) (by rw[cO]) (by rw[ff,ff];lia) ?_;refine⟨⟨G++[.lst (nmD ch)],?_,?_⟩,_,O⟩
  ·rw[bf,bf,cU _ _ (nR1 _),cP,wP];simp
  ·have p:=((Up.refl b).app (o:=.lst (nmD ch)) (by rw[Ob.und];exact fx _)).2;refine lP p ?_;rw[Ob.und,wP];exact fm (fx _)
 ·rintro r U ⟨⟨G,rfl,b⟩,c,rfl⟩;rw[lM1,bQ,b0]at *
  refine q c _ ⟨⟨[Ob.lst (nmD c2.flatten)]++G,by rw[bf]⟩,b⟩ ?_;rw[bf,dL];rfl
end
section
variable{m kd:Nat}{w:dD}{e:E4}{L:List Rw}{rs cs:List Nat}
theorem IV{x y:D}{S:dr}{Q:D×dr->Prop}(hw:jU m w)(hm:m<=8)(hst:ue m rs cs)(r0:0<rs.length)(inc:Inc e L)(ok:∀ p∈L,gr p)(hl:L.length<=4000)(ao:fh S)(hd:S[kd]? = Z (dO (rwF e L)))(hx:vd S x=M)(hy:vd S y=M)(bx:bd 150 x=M)(z:bd 150 y=M)(q:Q (.bl (xg rs.length m w e L (iY rs cs) x y),S)):W (dv 5 iR [ec w,owD e kd,eJ rs cs,x,y] S) Q:=by
 have hu:D.unds 0 [ec w,owD e kd,eJ rs cs,x,y]=J:=by
  rw[D.unds,D.unds,show(owD e kd).und 0=J by unfold owD;simp[D.und,D.unds]];simp
 refine LH O hu ao ?_;have hf:=hst.few;have hb:=ua hw hm hst;have hbl:(iY rs cs).1.length=rs.length:=lM1 ..
 have u:=λS Q q=>vg (rs:=rs) (cs:=cs) (S:=S) (Q:=Q) (by lia) q;generalize iY rs cs=a at *
 unfold iR;refine jg ?_;unfold qp;refine d1 (λr V=>V=S/\r=[Z (ec w),Z (owD e kd),Z (eJ rs cs),Z x,Z y,Z (.int (rs.length:Nat)),Z (whD a),Y,Y,Y,Y]) ?_ ?_
 ·have s0:∀S,dz (eJ rs cs) (.int 0) S=Z (.tup (nmD rs),S):=λS=>rfl
  wp_walk using s0,ff
  refine u _ _ ?_;walk_at"w"
  try exact⟨O,O⟩
 rintro r V ⟨R,rfl⟩;have R:=R.symm;subst R;refine pI (b:=iS rs.length x&&iS rs.length y) (pY ao O O O λd hd=>?_) (λh U C=>?_) λh U C=>?_
 ·rcases hd with rfl|rfl
  ·exact lj ao hx (kQ (by lia) bx) O
  ·exact lj ao hy (kQ (by lia) z) O
 ·unfold xg at q;rw[h,aL]at q;exact⟨C.1,O,q⟩
 unfold xg at q;rw[h,cC]at q;rw[bA1]at h;obtain⟨c1,rfl,h1⟩:=oy h.1;obtain⟨c2,rfl,h2⟩:=oy h.2;rw[mi,mi]at q;have l1:=jL bx;have l2:=jL z
 rw[lM1]at l1 l2;unfold Jh at q;have P:U[kd]?=Z (dO (rwF e L)):=by
  obtain⟨⟨G,rfl⟩,_⟩:=C;exact fF hd
 refine d1 (λr V=>V=U++[.lst [whD a]]/\r=rD w e kd rs cs c1 c2 a (Z (.ref U.length)) Y Y Y) ?_ ?_
 ·unfold rD;walk_at"w"
  try exact⟨O,O⟩
 rintro r V ⟨rfl,rfl⟩;refine d1 (λr V=>V=U++[.lst ((WsC m w e L (c1++c2) a).map whD)] /\ ∃f,r=rD w e kd rs cs c1 c2 a (Z (.ref U.length)) f Y Y) ?_ ?_
 ·exact zY hb hbl (by lia) inc ok hl C.2 P h1 h2 (by lia) (by lia) λf=>⟨O,O,_,O⟩
 rintro r V ⟨rfl,f,rfl⟩;have hat:(U++[Ob.lst ((WsC m w e L (c1++c2) a).map whD)])[U.length]?=Z (.lst ((WsC m w e L (c1++c2) a).map whD)):=by rw[cO]
 have t:=C.app (o:=.lst ((WsC m w e L (c1++c2) a).map whD)) (by rw[Ob.und];exact n4 _ _);generalize hZ:U++[Ob.lst ((WsC m w e L (c1++c2) a).map whD)]=wq at *
 refine d1 (λr V=>V=wq++[.lst []]/\r=rD w e kd rs cs c1 c2 a (Z (.ref U.length)) f (Z (.ref wq.length)) Y) ?_ ?_
 ·unfold rD;walk_at"w"
  try exact⟨O,O⟩
 rintro r V ⟨rfl,rfl⟩;refine d1 (λr V=>Up wq V/\V[wq.length]?=Z (.lst (nmD c2.flatten)) /\ ∃f,r=rD w e kd rs cs c1 c2 a (Z (.ref U.length)) f (Z (.ref wq.length)) Y) ?_ ?_
 ·exact A0 (by lia) t.2 h2 (by lia) λf V' a1 a2=>⟨O,a1,a2,_,O⟩
 rintro r V ⟨am,v,N,rfl⟩;have c:V[U.length]?=Z (.lst ((WsC m w e L (c1++c2) a).map whD)):=by
  obtain⟨⟨G,rfl⟩,_⟩:=am;exact fF hat
 have I:=t.trans am;have s:((WsC m w e L (c1++c2) a).map whD).length=(c1++c2).length+1:=by rw[lM1,mZ]
 have aq:((WsC m w e L (c1++c2) a).map whD)[c1.length]?=Z (whD (eW m w e L c1 a)):=by
  rw[gP1,sD (by rw[lA1];lia),cI];rfl
 have au:((WsC m w e L (c1++c2) a).map whD)[(c1++c2).length]?=Z (whD (eW m w e L (c1++c2) a)):=by
  rw[gP1,sD (nR1 _),b0];rfl
 refine d1 (λr k=>k=V/\r=rD w e kd rs cs c1 c2 a (Z (.ref U.length)) N (Z (.ref wq.length)) (Z (.bl (decide (eW m w e L c1 a=eW m w e L (c1++c2) a))))) ?_ ?_
 ·have heq:W (m2 (b2 gEq) (m2 (b2 dz) (mV 7) (m1 (b1 mR) (mC (D.int 1)))) (m2 (b2 dz) (mV 7) (mN (b1 eA) (dn (mV 3) dq))) (rD w e kd rs cs c1 c2 a (some (.ref U.length)) N (some (.ref wq.length)) none) V) fun p=>p=(.bl (decide (eW m w e L c1 a=eW m w e L (c1++c2) a)),V):=by
   refine ra ?_;refine ra ?_;refine W.of (x:=(.ref U.length,_)) O ?_;refine W.of (x:=(.int (-1),_)) O ?_;refine mr c s au ?_;refine ra ?_;refine W.of (x:=(.ref U.length,_)) O ?_;refine k0 ?_;refine W.of (x:=(.tup (c1.map chD),_)) O ?_;dsimp only;rw[gY,lM1];refine dA.mpr ?_;refine nK c aq ?_;refine W.of (Gy _ _) ?_;rw[decide_eq_decide.mpr (eq_comm (a:=eW m w e L (c1++c2) a))]
  obtain⟨_,eq,rfl⟩:=heq;unfold dH;rw[dw];refine W.of eq ?_;exact W.of O ⟨O,O,O⟩
 rintro r k ⟨T,rfl⟩;subst T;refine Bg ?_;unfold gx;rw[dw];refine W.of (x:=(.bl (decide (eW m w e L c1 a=eW m w e L (c1++c2) a)),k)) O ?_;dsimp only;cases hdd:decide (eW m w e L c1 a=eW m w e L (c1++c2) a)with
 |false=>
  rw[hdd,aL,Bool.and_false]at q;walk_at"w";exact⟨I.1,O,q⟩
 |true=>
  rw[hdd,cC]at q;obtain⟨⟨d,V3⟩,K,B,j,l⟩:=F1 (n:=rs.length) (r:=rD w e kd rs cs c1 c2 a (Z (.ref U.length)) N (Z (.ref wq.length)) (Z (.bl M))) (by lia) v O O;dsimp only at B l;subst B l;rw[DO]at K;generalize mN (b1 lD) (dn (d5 1 [9] (nS (dn (mV 5) dq)) (gN 0) d9 (dU (m2 (b2 fY) (mV 0) (mV 1)))) dq)=A3 at *
  have F:(k++[Ob.lst j])[U.length]?=Z (.lst ((WsC m w e L (c1++c2) a).map whD)):=fF c;have E:=Di (g:=gj) (r:=rD w e kd rs cs c1 c2 a (Z (.ref U.length)) N (Z (.ref wq.length)) (Z (.bl M))) (i:=7) O F (by rw[mZ,lA1];lia) λb X Q q=>by
   obtain⟨i,_,rfl⟩:=ci.mp X;have h2:=jt (e:=e) ok (chs:=(c1++c2).take i) hb;exact IS (by rw[h2.2];lia) (by rw[h2.2];lia) q
  obtain⟨_,en,rfl⟩:=E;generalize mN (b1 nU) (dn (d5 1 [] (eZ (mV 7)) (gN 0) d9 (dU (mN (dv 1 gj) (dn (mV 0) dq)))) dq)=A at *
  have H:∃G,k++[Ob.lst j]=S++G:=by
   obtain⟨G,rfl⟩:=I.1;exact⟨G++[Ob.lst j],by rw[bf]⟩
  cases hsb:G0 rs.length c2 with
  |false=>
   rw[hsb,aL]at q;rw[hsb]at K
   wp_walk using K
   exact⟨H,O,q⟩
  |true=>
   rw[hsb,cC]at q;rw[hsb]at K
   wp_walk using K,en
   refine⟨?_,O,q⟩;obtain⟨G,hG⟩:=H;exact⟨G++[Ob.lst ((WsC m w e L (c1++c2) a).map λb=>D.bl (nQ b))],by rw[<- bf,<- hG];simp⟩
end
def im(n:Nat)(ch:List Nat):Prop:=(∀k∈ch,k<n)/\ch.length<=n
theorem HS.split{c:Nat}{B U:dr}(s:HS c B U):∃o T,U=o::T/\Hnd o c/\ClT T:=by
 obtain⟨o,e,h⟩:=s.hand;cases U with
 |nil=>cases e
 |cons x T=>
  cases e;refine⟨o,T,O,h,?_⟩;have:=s.shut;unfold fh at this;rw[bS,bA1,lC1]at this;exact this.2
theorem HS.join{c:Nat}{o:Ob}{T:dr}(h:Hnd o c)(a:ClT T):HS c (o::T) (o::T):=.self O h (sQ h a)
theorem vL(chs:List (List Nat))(n:Nat):(Ob.lst (chs.map chD)).und n=M:=by rw[Ob.und];exact kP _ _
theorem Fh{c n s:Nat}{B V:dr}(h:HS c B V)(hc:c<=2^43)(h0:0<n)(t:n<=8)(hs:s<=7):
  W (mN (b1 Mi.gTup) (dn (d5 1 [1,2] (nS (dn (mV 0) dq)) (gN 0) d9 (dU (mN (dv 2 eH) (dn (mV 1) (dn (mV 2) dq))))) dq) [Z (.int (s:Nat)),Z (.ref 0),Z (.int (n:Nat))] V) λp=>∃chs:List (List Nat),p.1 = .tup (chs.map chD)/\chs.length<=s/\(∀ch∈chs,im n ch)/\HS (c+s) B p.2/\HS (c+s) V p.2:=by
 refine k0 ?_;rw[fc,nL];refine W.of (x:=([.int (s:Nat)],V)) O ?_;unfold Bi;dsimp only;rw[Int.toNat_natCast];refine⟨gG (by lia),?_⟩;rw[show jv 1 [1,2] [Z (D.int (s:Nat)),Z (.ref 0),Z (.int (n:Nat))]=[Y,Z (.ref 0),Z (.int (n:Nat))]from rfl,jP];refine iB (λi e r U=>i<=s/\(∃chs:List (List Nat),e=chs.map chD/\chs.length=i /\ ∀ch∈chs,im n ch)/\HS (c+i) B U/\HS (c+i) V U /\ ∃x,r=[x,Z (.ref 0),Z (.int (n:Nat))]) _ 0 [] _ _ ⟨br _,⟨[],O,O,λch hc=>by cases hc⟩,h,h.here,_,O⟩ (λ_ _ _ _ _=>rfl) ?_ ?_
 ·rintro i d q e r U ⟨hi,⟨chs,rfl,o,k⟩,j,g,x,rfl⟩;have m:=(gE1.mp q).1;rw[lM1,cW]at m;rw[bQ]at *
  walk_at"w";refine vM j (by lia) h0 t λch u h1 h2 a b l=>?_;refine⟨by lia,⟨chs++[ch],by rw[cg];rfl,by rw[lA1,o];rfl,λx f=>?_⟩,a,g.trans b,_,O⟩;rcases aF.mp f with z|z
  ·exact k x z
  ·rw[cN.mp z];exact⟨h1,h2⟩
 ·rintro xs r U ⟨hi,⟨chs,f,o,k⟩,j,g,x,rfl⟩;rw[lM1,cW,bQ]at *
  rw[bi]at f;subst f;refine⟨dB (by rw[lM1];lia),?_⟩;dsimp only;refine qs.mpr ?_;refine eh (xs:=chs.map chD) (by rw[cO]) ?_;exact⟨chs,O,by lia,k,j.app1 (vL _ _),g.app1 (vL _ _)⟩
theorem tI{α:Type}{f:α->D}{g:α->TK}:∀{l:List α},(∀x∈l,kD (f x)=Z (g x))->Cq (l.map f)=Z (l.map g)
 |[],_=>rfl
 |x::l,h=>by rw[mP1,Cq,h x mS1,tI λy a=>h y (mC1 _ a)];rfl
theorem tU{k:Nat}:∀{l:List TK},(∀x∈l,x.dep<=k)->TK.depAll l<=k
 |[],_=>by rw[TK.depAll];exact br _
 |x::l,h=>by
  rw[TK.depAll];exact Nat.max_le.mpr ⟨h x mS1,tU λy a=>h y (mC1 _ a)⟩
theorem GO(a:Wh):∃k,keyT (whD a)=Z k:=by
 have c:kD (.tup (a.1.map eN))=Z (.tup (a.1.map λu=>.tup [.int (u.1:Nat),.int (u.2.1:Nat),.int (u.2.2:Nat)])):=by
  rw[kD,tI (g:=λu:Wk=>TK.tup [.int (u.1:Nat),.int (u.2.1:Nat),.int (u.2.2:Nat)]) λu _=>rfl];rfl
 have d:kD (.tup (nmD a.2))=Z (.tup (a.2.map λx=>.int (x:Nat))):=by
  rw[kD];unfold nmD;rw[tI (g:=λx:Nat=>TK.int (x:Nat)) λu _=>rfl];rfl
 refine⟨.tup [.tup (a.1.map λu=>.tup [.int (u.1:Nat),.int (u.2.1:Nat),.int (u.2.2:Nat)]),.tup (a.2.map λx=>.int (x:Nat))],?_⟩;show(Cq [.tup (a.1.map eN),.tup (nmD a.2)]).bind _=_;rw[Cq,c,oS1,Cq,d,oS1,Cq,oP1,oP1,oS1,ak];have e:TK.depAll (a.1.map λu=>TK.tup [.int (u.1:Nat),.int (u.2.1:Nat),.int (u.2.2:Nat)])<=2:=tU λx b=>by
  obtain⟨u,_,rfl⟩:=ci.mp b;simp[TK.dep,TK.depAll]
 have f:TK.depAll (a.2.map λx=>TK.int (x:Nat))<=2:=tU λx b=>by
  obtain⟨u,_,rfl⟩:=ci.mp b;simp[TK.dep]
 simp only[TK.dep,TK.depAll];lia
theorem Hk{F:List (TK×D)}{k:TK}{x:D}(P:D->Prop)(h:∀p∈F,P p.2)(hx:P x):∀p∈eX F k x,P p.2:=λp a=>by
 unfold eX at a;split at a
 ·obtain⟨q,b,rfl⟩:=ci.mp a;split
  ·exact hx
  ·exact h q b
 ·rcases aF.mp a with z|z
  ·exact h p z
  ·rw[cN.mp z];exact hx
theorem put_len{F:List (TK×D)}{k:TK}{x:D}:(eX F k x).length<=F.length+1:=by
 unfold eX;split
 ·rw[lM1];exact bc _
 ·rw[lA1];exact nR1 _
theorem ET{F:List (TK×D)}{k:TK}{x:D}(P:D->Prop)(h:∀p∈F,P p.2)(hx:dZ F k=Z x):P x:=by
 unfold dZ at hx;obtain⟨p,a,rfl⟩:=oM1.mp hx;exact h p (List.mem_of_find?_eq_some a)
theorem Ng{F:List (TK×D)}{n:Nat}(h:∀p∈F,∃t:Nat,t<14/\p.2 = .int (t:Nat)):(dO F).und n=M:=yF λp a=>by
 obtain⟨t,_,e⟩:=h p a;rw[e];rfl
theorem MF{a:Wh}{F:List (TK×D)}{k:TK}{x:D}{n:Nat}{S:dr}(hk:keyT (whD a)=Z k)(c:S[n]?=Z (dO F))(d:F.length<=100000):gJ (.ref n) (whD a) x S=Z (.non,S.set n (dO (eX F k x))):=by
 cases F with
 |nil=>
  have b:S[n]?=Z (.dct []):=c;simp only[gJ,b,hk];rfl
 |cons p F=>
  have b:S[n]?=Z (.dcT (p::F)):=c;rw[LC Bm];simp only[gJ,b,hk,oS1];rw[ak (bK d (by decide))]
theorem Ox{a:Wh}{F:List (TK×D)}{k:TK}{n:Nat}{S:dr}(hk:keyT (whD a)=Z k)(c:S[n]?=Z (dO F)):zR (whD a) (.ref n) S=Z (.bl (dZ F k).isSome,S):=by
 cases F with
 |nil=>
  have b:S[n]?=Z (.dct []):=c;simp only[zR,b,hk];rfl
 |cons p F=>
  have b:S[n]?=Z (.dcT (p::F)):=c;simp only[zR,fY,b,hk,oP1]
theorem Ov{a:Wh}{F:List (TK×D)}{k:TK}{x:D}{n:Nat}{S:dr}(hk:keyT (whD a)=Z k)(c:S[n]?=Z (dO F))(hx:dZ F k=Z x):dz (.ref n) (whD a) S=Z (x,S):=by
 cases F with
 |nil=>cases hx
 |cons p F=>
  have b:S[n]?=Z (.dcT (p::F)):=c;simp only[dz,b,hk,oS1,hx,oP1]
theorem LN{m hm:FE}{r:Ev}{S:dr}{Q:D×dr->Prop}(h:W (m r S) λp=>∃n,p.1 = .ref n/\W (hm r p.2) λb=>∃(k:Nat) (xs:List D),b.1 = .int (k:Nat)/\b.2[n]?=Z (.lst xs)/\Q (.ref b.2.length,b.2++[.lst (xs.drop k)])):W (ig m (eV hm) fu r S) Q:=by
 obtain⟨⟨d,j⟩,i,n,f,⟨⟨l,c⟩,g,k,xs,a,e,q⟩⟩:=h;dsimp only at f g a e q;subst f a;rw[<- FC]at q;refine W.of ?_ q;unfold ig;rw[i,oS1];dsimp only;rw[show eV hm r j=Z (Z (k:Int),c) by unfold eV;rw[g];rfl,oS1];dsimp only;rw[show fu r c=Z (Y,c)from rfl,oS1];simp only[wv,fQ e,oP1,if_true]
def rG(w:dD)(e:E4)(kd:Nat)(rs cs:List Nat)(a:Wh)(kp km:Nat)(y7:Option D):Ev:=[Z (.ref 0),Z (ec w),Z (owD e kd),Z (eJ rs cs),Z (whD a),Z (.ref kp),Z (.ref km),y7]
structure RgI (c m kd kp km:Nat)(w:dD)(e:E4)(L:List Rw)(rs cs:List Nat)(U:dr)(i:Nat)(a:Wh)(F:List (TK×D))(chs:List (List Nat))(V:dr):Prop where
 wh:iD m w a.1 a.2
 wl:a.1.length=rs.length
 fl:F.length<=i
 fi:∀p∈F,∃t:Nat,t<14/\p.2 = .int (t:Nat)
 cl:chs.length=i
 ck:∀ch∈chs,im rs.length ch
 hs:HS (c+i) U V
 dp:V[kp]?=some (.lst (chs.map chD))
 dm:V[km]?=some (dO F)
 dk:V[kd]?=some (dO (rwF e L))
def prD(c1 c2:List (List Nat)):D:=.tup [.tup (c1.map chD),.tup (c2.map chD)]
theorem Br(c1 c2:List (List Nat))(n:Nat):(prD c1 c2).und n=M:=by
 have h1:=kP c1 n;have h2:=kP c2 n;simp[prD,D.und,D.unds,h1,h2]
section
variable{c m kd kp km:Nat}{w:dD}{e:E4}{L:List Rw}{rs cs:List Nat}{U V:dr}{a:Wh}{F:List (TK×D)}{chs:List (List Nat)}
theorem BF{t:Nat}{hm:FE}{r:Ev}{V:dr}{Q:Fl×Ev×dr->Prop}(j:r[5]? = some (some (.ref kp)))(hc:HS c U V)(e:V[kp]? = some (.lst (chs.map chD)))(he:∀ G,HS c U (V++G)->W (hm r (V++G)) fun p=>p=(.int (t:Nat),V++G))(a:∀ ch∈chs,im rs.length ch)(q:∀c1 c2 b,c1.length<=chs.length->c2.length<=chs.length->(∀ch∈c1,im rs.length ch)->(∀ch∈c2,im rs.length ch)->HS c U b->Q (.rt (prD c1 c2),r,b)):
  W (ee (d7 (dn (mN (b1 Mi.gTup) (dn (ig (mV 5) fu (eV hm)) dq)) (dn (mN (b1 Mi.gTup) (dn (ig (mV 5) (eV hm) fu) dq)) dq))) r V) Q:=by
 have f:∀S,mV 5 r S=Z (.ref kp,S):=λS=>by unfold mV;rw[j]
 refine Bg ?_;rw[qr];refine xt ?_;refine k0 ?_;refine Dp ?_;refine W.of (f _) ⟨kp,O,?_⟩;have:=he [] (by rw[aN];exact hc);rw[aN]at this;obtain⟨_,g,rfl⟩:=this;refine W.of g ⟨t,_,O,e,?_⟩;dsimp only;refine qs.mpr ?_;refine eh (by rw[cO]) ?_;have d:HS c U (V++[.lst ((chs.map chD).take t)]):=hc.app1 (by rw[<- List.map_take];exact vL _ _);refine xt ?_;refine k0 ?_;refine LN ?_;refine W.of (f _) ⟨kp,O,?_⟩;obtain⟨_,i,rfl⟩:=he _ d;refine W.of i ⟨t,_,O,fF e,?_⟩;dsimp only;refine qs.mpr ?_;refine eh (by rw[cO]) ?_;have h:HS c U (V++[.lst ((chs.map chD).take t)]++[.lst ((chs.map chD).drop t)]):=d.app1 (by rw[<- List.map_drop];exact vL _ _);refine W.of (x:=([],_)) O ?_;refine⟨dB (by simp),?_⟩;have:=q (chs.take t) (chs.drop t) _ (by rw[aR];lia) (by rw[aW];lia) (λch hc=>a ch (cA hc)) (λch hc=>a ch (cY hc)) h;unfold prD at this;rw[List.map_take,List.map_drop]at this;exact this
theorem wz{i:Nat}{Q:Fl×Ev×dr->Prop}(I:RgI c m kd kp km w e L rs cs U i a F chs V)(hi:i<14)(hc:c<=2^42)(inc:Inc e L)(ok:∀ p∈L,gr p)(hl:L.length<=4000)(r0:0<rs.length)(hf:rs.length<=8)(h1:U.length<=kp)(h2:U.length<=km)(h3:kp≠km)(hkd:kd<U.length)(hkd0:0<kd)(q0:∀c1 c2 f,c1.length<=14->c2.length<=14->(∀ch∈c1,im rs.length ch)->(∀ch∈c2,im rs.length ch)->HS (c+20) U f->Q (.rt (prD c1 c2),rG w e kd rs cs a kp km (some (.int (i:Nat))),f))(q:∀a' g u f,RgI c m kd kp km w e L rs cs U (i+1) a' g u f->Q (.nx,rG w e kd rs cs a' kp km (some (.int (i:Nat))),f)):
  W (jc (rG w e kd rs cs a kp km (Z (.int (i:Nat)))) V) Q:=by
 obtain⟨g1,g2,g3,g4,ao,g6,au,X,H,s⟩:=I;obtain⟨k,y⟩:=GO a;have hp0:=au.pos;unfold jc;refine M6 (λb f=>f=V/\b=(dZ F k).isSome) ?_ ?_ ?_
 ·have R:=Ox y H;unfold rG
  wp_walk using R
 ·rintro f ⟨rfl,hb⟩;obtain⟨x,C⟩:=aQ.mp hb.symm;obtain⟨t,ht,rfl⟩:=ET (λx=>∃t:Nat,t<14/\x = .int (t:Nat)) g4 C;refine BF (t:=t) (chs:=chs) O (au.more (by lia:c+i<=c+20)) X (λG hG=>?_) g6 λc1 c2 wq a1 a2 a3 a4 a5=>?_
  ·have:=Ov y (S:=f++G) (fF H) C;unfold rG
   wp_walk using this
  ·exact⟨_,O,q0 c1 c2 wq (by lia) (by lia) a3 a4 a5⟩
 rintro f ⟨rfl,hb⟩;have P:=(gE1.mp H).1;have hkp:=(gE1.mp X).1;refine d1 (λr V=>∃g,g.length<=i+1/\(∀p∈g,∃t:Nat,t<14/\p.2 = .int (t:Nat))/\HS (c+i) U V/\V[kp]?=Z (.lst (chs.map chD))/\V[km]?=Z (dO g)/\V[kd]?=Z (dO (rwF e L))/\r=rG w e kd rs cs a kp km (Z (.int (i:Nat)))) ?_ ?_
 ·have hs:=MF (x:=.int (i:Nat)) y H (by lia);have j:∀p∈eX F k (.int (i:Nat)),∃t:Nat,t<14/\p.2 = .int (t:Nat):=Hk (λx=>∃t:Nat,t<14/\x = .int (t:Nat)) g4 ⟨i,hi,O⟩;unfold rG
  wp_walk using hs
  refine⟨eX F k (.int (i:Nat)),by have:=put_len (F:=F) (k:=k) (x:=.int (i:Nat));lia,j,au.set h2 (Ng j),?_,?_,?_⟩
  ·rw[gS1 (by lia)];exact X
  ·rw[aH P]
  ·rw[gS1 (by lia)];first|exact s|exact⟨s,trivial⟩
 rintro r wq ⟨g,f1,f2,s2,N,d2,d3,rfl⟩;refine d1 (λr V=>∃ch,im rs.length ch/\HS (c+i+1) U V/\V[kp]?=Z (.lst ((chs++[ch]).map chD))/\V[km]?=Z (dO g)/\V[kd]?=Z (dO (rwF e L))/\r=rG w e kd rs cs a kp km (Z (.int (i:Nat)))) ?_ ?_
 ·have s0:∀S,dz (eJ rs cs) (.int 0) S=Z (.tup (nmD rs),S):=λS=>rfl;have hkp2:=(gE1.mp N).1;unfold rG fj;rw[dw];refine kl ?_;walk_at"w";refine⟨kp,_,O,N,?_⟩
  wp_walk using s0,ff
  refine vM s2 (by lia) r0 hf λch V3 A E D n l3=>?_;have h:=n.at N (by lia);refine(ls h).mpr ⟨dB (by rw[lM1];lia),?_⟩;have em:chs.map chD++[.tup (nmD ch)]=(chs++[ch]).map chD:=by rw[cg];rfl
  rw[em];dsimp only;have B:(V3.set kp (Ob.lst ((chs++[ch]).map chD)))[kp]?=Z (.lst ((chs++[ch]).map chD)):=by rw[aH (by lia)]
  have x2:(V3.set kp (Ob.lst ((chs++[ch]).map chD)))[km]?=Z (dO g):=by rw[gS1 h3];exact n.at d2 (by lia)
  have K:(V3.set kp (Ob.lst ((chs++[ch]).map chD)))[kd]?=Z (dO (rwF e L)):=by rw[gS1 (by lia)];exact n.at d3 (by lia)
  have am:=D.set h1 (vL (chs++[ch]) V3.length)
  first|exact⟨ch,⟨A,E⟩,am,B,x2,K,rfl⟩|exact⟨ch,⟨A,E⟩,am,B,x2,K,trivial⟩|exact⟨rfl,ch,⟨A,E⟩,am,B,x2,K,rfl⟩|exact⟨ch,⟨A,E⟩,am,B,x2,K⟩
 rintro r V3 ⟨ch,l,D,h,aq,v,rfl⟩;have o:((chs++[ch]).map chD).length=i+1:=by rw[lM1,lA1,ao];rfl
 have T:((chs++[ch]).map chD)[i]?=Z (chD ch):=by rw[gP1,<- ao,cO];rfl
 have d:=uA (m:=m) (w:=w) (e:=e) (L:=L) (ch:=ch) g1 ok;have qq:=q (oI m w e L ch a) g (chs++[ch]) V3 ⟨d.1,d.2.trans g2,f1,f2,by rw[lA1,ao];rfl,λx C=>by
  rcases aF.mp C with z|z
  ·exact g6 x z
  ·rw[cN.mp z];exact l,D,h,aq,v⟩
 unfold rG at qq ⊢;unfold dH;rw[dw]
 wp_walk using mR
 refine mr h o T ?_;walk_at"w";refine yi (ws:=a.1) (cs:=a.2) (ch:=ch) g1 (Gk inc ok hl) v D.shut (λk y=>by rw[g2];exact l.1 k y) (by have:=l.2;lia) ?_
 try walk_at"w"
 exact qq
theorem He{B S:dr}{Q:D×dr->Prop}(s:HS c B S)(hc:c<=2^42)(hw:jU m w)(hm:m<=8)(hst:ue m rs cs)(P:0<rs.length)(inc:Inc e L)(ok:∀ p∈L,gr p)(T:L.length<=4000)(hd:S[kd]? = Z (dO (rwF e L)))(j:0<kd)(q:∀c1 c2 n,c1.length<=14->c2.length<=14->(∀ch∈c1,im rs.length ch)->(∀ch∈c2,im rs.length ch)->HS (c+20) B n->HS (c+20) S n->n.length=S.length->Q (prD c1 c2,n)):W (dv 4 ib [.ref 0,ec w,owD e kd,eJ rs cs] S) Q:=by
 refine p8 (c':=c+20) O (by simp[D.unds,D.und]) s ?_;have hf:=hst.few;have K:=s.pos;have au:=s.len;have C:=(gE1.mp hd).1;have U:=ua hw hm hst;have H:(iY rs cs).1.length=rs.length:=lM1 ..
 have k:=λS Q q=>vg (rs:=rs) (cs:=cs) (S:=S) (Q:=Q) (by lia) q;generalize iY rs cs=a at *
 unfold ib;refine jg ?_;unfold nG;refine d1 (λr V=>V=S++[.lst [],.dct []]/\r=rG w e kd rs cs a S.length (S.length+1) Y) ?_ ?_
 ·walk_at"w";refine k _ _ ?_;have A:∀r V,pA r V=Z (.ref V.length,V++[.dct []]):=λ_ _=>rfl
  wp_walk using A
  first|rfl|exact⟨by simp,rfl⟩
 rintro r V ⟨rfl,rfl⟩;have v:HS (c+0) S (S++[.lst [],.dct []]):=s.here.app λo ao=>by
  simp only[aE,bO,or_false]at ao;rcases ao with rfl|rfl<;>rfl
 have g:RgI c m kd S.length (S.length+1) w e L rs cs S 0 a [] [] (S++[.lst [],.dct []]):=⟨U,H,nR1 _,λp K=>(by cases K),O,λch h=>(by cases h),v,by rw[dL];rfl,by rw[gF];rfl,fF hd⟩;refine Gi ?_;unfold fC;rw[dw,nL];refine W.of (x:=([.int 14],_)) O ?_;unfold Bi;dsimp only;refine⟨t8 (by decide) (by decide),?_⟩;rw[show(14:Int).toNat=14 from rfl,jP];refine vc (λi r V=>∃a F chs y7,RgI c m kd S.length (S.length+1) w e L rs cs S i a F chs V/\r=rG w e kd rs cs a S.length (S.length+1) y7) _ 0 _ _ ⟨a,[],[],Y,g,O⟩ (λ_ _ _ _=>rfl) ?_ ?_
 ·rintro i d b r V ⟨a,F,chs,y7,I,rfl⟩;have f:=(gE1.mp b).1;rw[lM1,cW]at f;rw[gP1,cr f]at b;have b:=(Option.some.inj b).symm;subst b;rw[bQ]at *
  unfold gN;rw[dA];dsimp only;rw[show(rG w e kd rs cs a S.length (S.length+1) y7).set 7 (Z (.int (i:Nat)))=rG w e kd rs cs a S.length (S.length+1) (Z (.int (i:Nat)))from rfl];refine wz I f hc inc ok T P (by lia) (by lia) (by lia) (by lia) C j (λc1 c2 N a1 a2 a3 E am=>?_) λaq R l N X=>?_
  ·exact .inr ⟨_,O,.inr ⟨_,O,am,Br _ _ _,λu x y z=>q c1 c2 u a1 a2 a3 E x y z⟩⟩
  ·exact .inl ⟨O,aq,R,l,_,X,O⟩
 ·rintro r V ⟨a,F,chs,y7,I,rfl⟩;rw[lM1,cW,bQ]at I;refine .inl ⟨O,?_⟩;refine BF (t:=3) (chs:=chs) O (I.hs.more (by lia:c+14<=c+20)) I.dp (λG hG=>W.of O O) I.ck λc1 c2 wq a1 a2 a3 E am=>?_;have:=I.cl;exact⟨am,Br _ _ _,λu x y z=>q c1 c2 u (by lia) (by lia) a3 E x y z⟩
end
theorem rh{i:Int}(h:i.natAbs<1000):i.natAbs.log2<1920:=bK (Nat.log2_le_self _) (by lia)
theorem v7.tup{xs:List D}(h:∀x∈xs,∀n,v7 n x):∀n,v7 n (.tup xs)
 |0=>λi h=>by cases h
 |n+1=>⟨λi h=>(by cases h),λys e x a=>(by cases e;exact h x a n)⟩
theorem v7.int{k:Nat}(h:k<1000):∀n,v7 n (.int (k:Nat))
 |0=>λi e=>by cases e;exact rh (by lia)
 |n+1=>⟨λi e=>(by cases e;exact rh (by lia)),λxs e=>(by cases e)⟩
theorem LF{n:Nat}{ch:List Nat}(c:n<=8)(h:im n ch):∀m,v7 m (chD ch):=v7.tup λx b=>by
 obtain⟨k,a,rfl⟩:=ci.mp b;exact v7.int (by have:=h.1 k a;lia)
theorem C8{n:Nat}{chs:List (List Nat)}(c:n<=8)(h:∀ch∈chs,im n ch):∀m,v7 m (.tup (chs.map chD)):=v7.tup λx b=>by
 obtain⟨ch,a,rfl⟩:=ci.mp b;exact LF c (h ch a)
theorem Kz{n:Nat}{c1 c2:List (List Nat)}(b:n<=8)(h1:∀ch∈c1,im n ch)(h2:∀ch∈c2,im n ch):∀m,v7 m (prD c1 c2):=v7.tup λx a=>by
 simp only[aE,bO,or_false]at a;rcases a with rfl|rfl
 ·exact C8 b h1
 ·exact C8 b h2
theorem C7{n k:Nat}{chs:List (List Nat)}{S:dr}(hk:n<=k)(b:chs.length<=k)(h:∀ch∈chs,im n ch):Ok k S (.tup (chs.map chD)):=Ok.tup (by rw[lM1];exact b) λx a=>by
 obtain⟨ch,hc,rfl⟩:=ci.mp a;exact Ok.nm (by have:=(h ch hc).2;lia)
theorem Go{n k:Nat}{c1 c2:List (List Nat)}{S:dr}(b:2<=k)(hk:n<=k)(c:c1.length<=k)(d:c2.length<=k)(h1:∀ch∈c1,im n ch)(h2:∀ch∈c2,im n ch):Ok k S (prD c1 c2):=Ok.tup b λx a=>by
 simp only[aE,bO,or_false]at a;rcases a with rfl|rfl
 ·exact C7 hk c h1
 ·exact C7 hk d h2
def ze:D->Bool
 | .tup xs=>decide (xs.length=2)
 |_=>J
theorem Ko{d:D}(h:ze d=M):∃x y,d = .tup [x,y]:=by
 cases d with
 |tup xs=>
  rw[ze,al]at h
  match xs,h with
  |[x,y],_=>exact⟨x,y,O⟩
 |_=>cases h
def rT(N K:D)(w:dD)(e:E4)(L:List Rw)(rs cs:List Nat)(y7 y8 y9 y10 y11 y12 y13 y14 y15:Option D):Ev:=[Z N,Z K,Z (.ref 0),Z (ec w),Z (mcD e L),Z (eJ rs cs),Z (.int (rs.length:Nat)),y7,y8,y9,y10,y11,y12,y13,y14,y15]
section
variable{c k:Nat}{o:Ob}{T:dr}
theorem A5{P x:D}{r:Ev}(N:r[9]? = some (some P))(t:r[10]? = some (some x))(ho:Hnd o c)(au:ClT T)(C:Ok k (o::T) P)(hx:Ok k (o::T) x):
  W (m2 (b2 eD) (eY (dn (mV 9) dq)) (m2 (b2 r6) (eY (dn (mV 10) dq)) (mN (b1 ma) (dn (gx (gy .tuple (mV 10)) (m2 (b2 gEq) (mN (b1 eA) (dn (mV 10) dq)) (mC (D.int 2)))) dq))) r (o::T)) λp=>∃G n E,p=(.ref n,o::(T++G))/\(o::(T++G))[n]?=Z (.lst E)/\ClT (T++G) /\ ∀d∈E,d=P\/(d=x/\ze x=M):=by
 have one:∀{d:D} {i:Nat} {G:dr},r[i]?=Z (Z d)->eY (dn (mV i) dq) r G=Z (.ref G.length,G++[.lst [d]]):=λ{d i G} h=>by
  obtain⟨p,e,rfl⟩:W (eY (dn (mV i) dq) r G) λp=>p=(.ref G.length,G++[.lst [d]]):=by
   rw[uc];refine W.of (x:=([d],G)) (by simp only[dn,dq,mV,h,oS1]) ?_;exact⟨NO,O⟩
  exact e
 refine ra ?_;refine W.of (one N) ?_;refine ra ?_;dsimp only;refine W.of (one t) ?_;dsimp only;have c1:ClT (T++[.lst [P]]):=lG (o:=o) au λd f=>by rw[cN.mp f];exact C
 have c2:ClT (T++[.lst [P]]++[.lst [x]]):=lG (o:=o) c1 λd f=>by rw[cN.mp f];exact hx.on (n:=c) ho
 have j:Ok k (o::(T++[.lst [P]]++[.lst [x]])) x:=by
  have:=hx.on (n:=c) (G:=[.lst [P]]++[.lst [x]]) ho
  rwa [<- bf]at this
 have w:Ok k (o::(T++[.lst [P]]++[.lst [x]])) P:=by
  have:=C.on (n:=c) (G:=[.lst [P]]++[.lst [x]]) ho
  rwa [<- bf]at this
 have es:o::T++[.lst [P]]++[.lst [x]]=o::(T++[.lst [P]]++[.lst [x]]):=by simp
 have H:gx (gy .tuple (mV 10)) (m2 (b2 gEq) (mN (b1 eA) (dn (mV 10) dq)) (mC (D.int 2))) r (o::(T++[.lst [P]]++[.lst [x]]))=Z (.bl (ze x),o::(T++[.lst [P]]++[.lst [x]])):=by
  have B:=lA j.v;obtain⟨p,e,rfl⟩:W (gx (gy .tuple (mV 10)) (m2 (b2 gEq) (mN (b1 eA) (dn (mV 10) dq)) (mC (D.int 2))) r (o::(T++[.lst [P]]++[.lst [x]]))) λp=>p=(.bl (ze x),o::(T++[.lst [P]]++[.lst [x]])):=by
   have s:∀S,mV 10 r S=Z (x,S):=λS=>by unfold mV;rw[t]
   generalize o::(T++[.lst [P]]++[.lst [x]])=S at *
   generalize mV 10=A at *
   cases ht:vj x with
   |false=>
    wp_walk using gn,B,ht,s
    cases x<;>first|rfl|cases ht
   |true=>
    obtain⟨xs,rfl⟩:=jJ ht
    wp_walk using gn,B,ht,s
    rw[ze];refine congrArg (λb=>(D.bl b,S)) ?_;rw[bT,beq_iff_eq,al];lia
  exact e
 rw[es];refine k0 ?_;refine W.of H ?_;refine W.of (x:=(.int (if ze x=M then 1 else 0),_)) (by cases ze x<;>rfl) ?_;dsimp only[b2];have q:(o::(T++[.lst [P]]++[.lst [x]]))[(o::T++[Ob.lst [P]]).length]?=Z (.lst [x]):=by rw[<- es,cO]
 have ao:∃b:Nat,b<=1/\(if ze x=M then(1:Int)else 0)=(b:Nat)/\(b=1->ze x=M):=by
  cases ze x with
  |true=>exact⟨1,by lia,O,λ_=>rfl⟩
  |false=>exact⟨0,by lia,O,λh=>by cases h⟩
 obtain⟨b,b1,v,u⟩:=ao;rw[v];have F:r6 (.ref (o::T++[Ob.lst [P]]).length) (.int (b:Nat)) (o::(T++[.lst [P]]++[.lst [x]]))=Z (.ref (o::(T++[.lst [P]]++[.lst [x]])).length,o::(T++[.lst [P]]++[.lst [x]])++[.lst (aP b [x]).flatten]):=by
  simp only[r6,q];rw[ak ⟨by lia,by lia,by rw[Int.toNat_natCast,bh,Nat.one_mul];exact aC b1 (by decide)⟩,Int.toNat_natCast]
 refine W.of F ?_;have a:∀d∈(aP b [x]).flatten,d=x/\ze x=M:=λd f=>by
  obtain⟨l,h1,h2⟩:=cR.mp f;obtain⟨Q,rfl⟩:=List.mem_replicate.mp h1;exact⟨cN.mp h2,u (by lia)⟩
 have I:(aP b [x]).flatten.length<=1:=by
  rcases bY b 1 with h|h
  ·have g:b=0:=by lia
   subst g;exact br _
  ·have g:b=1:=by lia
   subst g;exact nR1 _
 generalize (aP b [x]).flatten=R at *
 have m:(o::(T++[.lst [P]]++[.lst [x]])++[.lst R])[(o::T).length]?=Z (.lst [P]):=by
  rw[<- es,bf,bf,dL];rfl
 refine(xw m (by rw[cO])).mpr ⟨dB (by simp;lia),?_⟩;have K:ClT (T++[.lst [P]]++[.lst [x]]++[.lst R]):=lG (o:=o) c2 λd f=>by rw[(a d f).1];exact j
 have L:ClT (T++[.lst [P]]++[.lst [x]]++[.lst R]++[.lst ([P]++R)]):=lG (o:=o) (k:=k) K λd f=>by
  rcases aF.mp f with z|z
  ·rw[cN.mp z];exact w.on (n:=c) ho
  ·rw[(a d z).1];exact j.on (n:=c) ho
 have y:o::(T++([.lst [P]]++([.lst [x]]++([.lst R]++[.lst ([P]++R)]))))=o::(T++[.lst [P]]++[.lst [x]])++[.lst R]++[.lst ([P]++R)]:=by simp only[bf,bt]
 have am:ClT (T++([.lst [P]]++([.lst [x]]++([.lst R]++[.lst ([P]++R)])))):=by
  have:T++([.lst [P]]++([.lst [x]]++([.lst R]++[.lst ([P]++R)])))=T++[.lst [P]]++[.lst [x]]++[.lst R]++[.lst ([P]++R)]:=by simp only[bf]
  rw[this];exact L
 refine⟨_,(o::(T++[Ob.lst [P]]++[Ob.lst [x]])++[Ob.lst R]).length,[P]++R,congrArg (λz=>(D.ref (o::(T++[Ob.lst [P]]++[Ob.lst [x]])++[Ob.lst R]).length,z)) y.symm,?_,am,λd f=>?_⟩
 ·rw[y,cO]
 ·rcases aF.mp f with z|z
  ·exact .inl (cN.mp z)
  ·exact .inr (a d z)
end
theorem KY{b:Bool}{S:dr}:zQ (.bl b) (.bl b) S=Z (.bl J,S):=by cases b<;>rfl
section
variable{c k m:Nat}{N K:D}{w:dD}{e:E4}{L:List Rw}{rs cs:List Nat}{o:Ob}{T:dr}{y7 y8 y9 y10 y11 y12 y13 y14 y15:Option D}
theorem wH(inc:Inc e L)(ok:∀p∈L,gr p){S:dr}(c:fh S):Up S (S++[.lst (L.map (eU e)),dO (rwF e L)]):=by
 refine⟨⟨_,O⟩,oK c λx a=>?_⟩;rcases aE.mp a with z|z
 ·rw[z,Ob.und];exact Mi.dW λp b=>e6 (oY (ok p b).2)
 ·rw [cN.mp z];exact yF fun p b=>by
   obtain⟨x,a,rfl⟩:=ci.mp b;exact(ok x a).2.und
theorem Jv{x y:D}{S:dr}{Q:Fl×Ev×dr->Prop}(hw:jU m w)(hm:m<=8)(hst:ue m rs cs)(j:0<rs.length)(inc:Inc e L)(ok:∀ p∈L,gr p)(c:L.length<=4000)(g:fh S)(hx:vd S x=true)(hy:vd S y=true)(i:bd 150 x=true)(a:bd 150 y=true)(q:∀b,Q (.nx,rT N K w e L rs cs y7 y8 y9 y10 y11 (some x) (some y) (some (.bl b)) (some (.bl b)),S++[.lst (L.map (eU e)),dO (rwF e L)])):
  W (oh (rT N K w e L rs cs y7 y8 y9 y10 y11 (Z x) (Z y) y14 y15) S) Q:=by
 have f:=wH inc ok g;have k:=λQ q=>DU (S:=S) (Q:=Q) hw hm hst j inc ok c g hx hy i a q
 have n:=λQ q=>IV (S:=S++[.lst (L.map (eU e)),dO (rwF e L)]) (kd:=S.length+1) (Q:=Q) hw hm hst j inc ok c f.2 (by rw[gF];rfl) (f.vd hx) (f.vd hy) i a q
 generalize xg rs.length m w e L (iY rs cs) x y=b at *
 have h:=q b;unfold oh;refine d1 (λr V=>V=S/\r=rT N K w e L rs cs y7 y8 y9 y10 y11 (Z x) (Z y) (Z (.bl b)) y15) ?_ ?_
 ·unfold rT;walk_at"w";refine k _ ?_
  first|exact⟨rfl,rfl,rfl⟩|exact⟨rfl,rfl⟩|rfl
 rintro r V ⟨d,rfl⟩;have d:=d.symm;subst d;refine d1 (λr V=>V=S++[.lst (L.map (eU e)),dO (rwF e L)]/\r=rT N K w e L rs cs y7 y8 y9 y10 y11 (Z x) (Z y) (Z (.bl b)) (Z (.bl b))) ?_ ?_
 ·unfold rT;walk_at"w";refine Gp inc ok c ?_;walk_at"w";refine n _ ?_
  first|exact⟨rfl,rfl,rfl⟩|exact⟨rfl,rfl⟩|rfl
 rintro r V ⟨rfl,rfl⟩;have l:∀S,mO S .bool (.bl b)=Z M:=λS=>rfl;unfold rT at h ⊢
 wp_walk using gn,l,KY
 exact h
inductive TI (c:Nat)(N K:D)(w:dD)(e:E4)(L:List Rw)(rs cs:List Nat)(r:Ev)(V:dr):Prop
 |mk (o:Ob) (T:dr) (y7 y8 y9 y10 y11 y12 y13 y14 y15:Option D) (h1:V=o::T) (h2:Hnd o c) (h3:ClT T) (h4:r=rT N K w e L rs cs y7 y8 y9 y10 y11 y12 y13 y14 y15):TI c N K w e L rs cs r V
theorem E9{n:Nat}{G:dr}{z:List D}{P x:D}{Q:Fl×Ev×dr->Prop}(ho:Hnd o c)(E:ClT G)(hn:(o::G)[n]? = some (.lst z))(hw:jU m w)(hm:m<=8)(hst:ue m rs cs)(C:0<rs.length)(inc:Inc e L)(ok:∀ p∈L,gr p)(H:L.length<=4000)(ao:∀d∈z,∃x y,d = .tup [x,y]/\Ok 150 (o::G) x/\Ok 150 (o::G) y)(q:∀r V,TI c N K w e L rs cs r V->Q (.nx,r,V)):
  W (fC (eZ (mV 11)) (gT 2 (eT (gN 12) (eT (gN 13) i8))) oh (rT N K w e L rs cs y7 y8 y9 y10 (Z (.ref n)) y12 y13 y14 y15) (o::G)) Q:=by
 have I:=λx y S Q am j k F u q (y14 y15:Option D)=>Jv (N:=N) (K:=K) (x:=x) (y:=y) (S:=S) (Q:=Q) (y7:=y7) (y8:=y8) (y9:=y9) (y10:=y10) (y11:=Z (.ref n)) (y14:=y14) (y15:=y15) hw hm hst C inc ok H am j k F u q
 unfold fC;rw[dw,iW];refine W.of (x:=(.ref n,o::G)) O ?_;dsimp only;refine eh hn ?_;dsimp only;have s:=sQ ho E;refine fz (λi r V=>Up (o::G) V /\ ∃y12 y13 y14 y15,r=rT N K w e L rs cs y7 y8 y9 y10 (Z (.ref n)) y12 y13 y14 y15) z 0 _ _ ⟨Up.refl s,_,_,_,_,O⟩ (λi r V h=>?_) ?_ ?_
 ·obtain⟨⟨⟨A,rfl⟩,_⟩,_⟩:=h;exact fR (fF hn)
 ·rintro i d B r V ⟨a,t,l,f,g,rfl⟩;obtain⟨x,y,rfl,j,k⟩:=ao d (gM1 B);have h2:=I x y V (λq=>q.1 = .nx/\(λi r V=>Up (o::G) V /\ ∃y12 y13 y14 y15,r=rT N K w e L rs cs y7 y8 y9 y10 (Z (.ref n)) y12 y13 y14 y15) (0+i+1) q.2.1 q.2.2) a.2 (a.vd j.v) (a.vd k.v) j.b k.b (λb=>⟨O,a.trans (wH inc ok a.2),_,_,_,_,O⟩) f g;unfold rT at h2 ⊢;walk_at"w";exact h2
 ·rintro r V ⟨a,t,l,f,g,rfl⟩;obtain⟨⟨A,rfl⟩,v⟩:=a;refine q _ _ ⟨o,G++A,_,_,_,_,_,_,_,_,_,O,ho,?_,O⟩;unfold fh at v;rw[bt,bS,bA1,lC1]at v;exact v.2
theorem DS{V:dr}(h:HS c V V)(hc:c<=2^40):
  W (dH (eY (dn (mN (dv 2 dy) (dn (mV 2) (dn (mC (D.int 7)) dq))) (dn (mN (dv 2 dy) (dn (mV 2) (dn (mC (D.int 7)) dq))) dq))) (gN 8) (rT N K w e L rs cs y7 y8 y9 y10 y11 y12 y13 y14 y15) V) λp=>p.1 = .nx /\ ∃(b a kz:Nat),b<7/\a<7/\0<kz/\HS (c+2) V p.2.2/\p.2.2[kz]?=Z (.lst [.int (b:Nat),.int (a:Nat)])/\p.2.1=rT N K w e L rs cs y7 (Z (.ref kz)) y9 y10 y11 y12 y13 y14 y15:=by
 have k:=h.pos;unfold rT;walk_at"w";refine draw_W h (by lia) (by lia) (by lia) λf l b g m h1=>?_;walk_at"w";refine draw_W b (by lia) (by lia) (by lia) λj d a i n h2=>?_;walk_at"w";exact⟨f,j,d.length,by lia,by lia,by lia,a.app1 O,by rw[cO],O⟩
theorem HJ{V:dr}{A o kz:Nat}(h:HS c V V)(hc:c<=2^40)(F:0<rs.length)(hf:rs.length<=8)(h1:A<7)(h2:o<7)(u:0<kz)(hk:V[kz]? = some (.lst [.int (A:Nat),.int (o:Nat)])):
  W (dH (mN (b1 Mi.gTup) (dn (d5 1 [2,6] (eZ (mV 8)) (gN 0) d9 (dU (mN (b1 Mi.gTup) (dn (d5 1 [1,2] (nS (dn (mV 0) dq)) (gN 0) d9 (dU (mN (dv 2 eH) (dn (mV 1) (dn (mV 2) dq))))) dq)))) dq)) (gN 9) (rT N K w e L rs cs y7 (Z (.ref kz)) y9 y10 y11 y12 y13 y14 y15) V) λp=>p.1 = .nx /\ ∃c1 c2,c1.length<=14/\c2.length<=14/\(∀ch∈c1,im rs.length ch)/\(∀ch∈c2,im rs.length ch)/\HS (c+14) V p.2.2/\p.2.1=rT N K w e L rs cs y7 (Z (.ref kz)) (Z (prD c1 c2)) y10 y11 y12 y13 y14 y15:=by
 unfold dH;rw[dw];refine k0 ?_;rw[fc,iW];refine W.of (x:=(.ref kz,V)) O ?_;dsimp only;refine eh hk ?_;dsimp only;rw[show jv 1 [2,6] (rT N K w e L rs cs y7 (Z (.ref kz)) y9 y10 y11 y12 y13 y14 y15)=[Y,Z (.ref 0),Z (.int (rs.length:Nat))]from rfl];refine iB (λi j r U=>i<=2/\HS (c+7*i) V U/\(∃f:List (List (List Nat)),j=f.map (λx=>D.tup (x.map chD))/\f.length=i /\ ∀x∈f,x.length<=7 /\ ∀ch∈x,im rs.length ch) /\ ∃x,r=[x,Z (.ref 0),Z (.int (rs.length:Nat))]) _ 0 [] _ _ ⟨by lia,h,⟨[],O,O,λx l=>by cases l⟩,_,O⟩ (λi j r U am=>fR (am.2.1.at hk u)) ?_ ?_
 ·rintro i d E j r U ⟨hi,B,⟨f,rfl,k,g⟩,x,rfl⟩;have t:=(gE1.mp E).1;have I:∃ s:Nat,s<=7/\d = .int (s:Nat):=by
   have:=gM1 E;simp only[aE,bO,or_false]at this;rcases this with rfl|rfl
   ·exact⟨A,by lia,O⟩
   ·exact⟨o,by lia,O⟩
  obtain⟨s,q,rfl⟩:=I;rw[bQ]at *
  have H:i<2:=t;have y:=Fh (s:=s) (n:=rs.length) B (by lia) F hf q;unfold gN d9;rw[dA];dsimp only;rw[dA,ak O];refine y.mono ?_;rintro⟨p,ao⟩ ⟨chs,C,au,m,a,b⟩;dsimp only at C a b ⊢;subst C;refine⟨by lia,a.more (by lia),⟨f++[chs],by rw[cg];rfl,by rw[lA1,k];rfl,λx l=>?_⟩,_,O⟩;rcases aF.mp l with z|z
  ·exact g x z
  ·rw[cN.mp z];exact⟨by lia,m⟩
 ·rintro xs r U ⟨hi,B,⟨f,l,k,g⟩,x,rfl⟩;rw[bi]at l;subst l;have v:f.length=2:=k;refine⟨dB (by rw[lM1];lia),?_⟩;dsimp only;refine qs.mpr ?_;refine eh (by rw[cO]) ?_
  match f,v with
  |[c1,c2],_=>
   have m:=g c1 (by simp);have G:=g c2 (by simp);refine W.of (x:=(.nx,rT N K w e L rs cs y7 (Z (.ref kz)) (Z (prD c1 c2)) y10 y11 y12 y13 y14 y15,_)) O ⟨O,c1,c2,by lia,by lia,m.2,G.2,?_,O⟩;refine HS.more (B.app1 ?_) (by show c+7*2<=c+14;lia);have h1:=kP c1 0;have h2:=kP c2 0;simp[Ob.und,D.unds,D.und,h1,h2]
theorem GX{r:Ev}{V:dr}(I:TI c N K w e L rs cs r V)(hc:c<=2^38)(hw:jU m w)(hm:m<=8)(hst:ue m rs cs)(E:0<rs.length)(inc:Inc e L)(ok:∀ p∈L,gr p)(wq:L.length<=4000):
  W (sX r V) λp=>p.1 = .nx/\TI (c+100) N K w e L rs cs p.2.1 p.2.2:=by
 obtain⟨o,T,y7,y8,y9,y10,y11,y12,y13,y14,y15,rfl,ho,hT,rfl⟩:=I;have hf:=hst.few;unfold sX;refine d1 (λr V=>∃aq f kz:Nat,aq<7/\f<7/\0<kz/\HS (c+2) (o::T) V/\V[kz]?=Z (.lst [.int (aq:Nat),.int (f:Nat)])/\r=rT N K w e L rs cs y7 (Z (.ref kz)) y9 y10 y11 y12 y13 y14 y15) (DS (HS.join ho hT) (by lia)) ?_;rintro r V ⟨aq,f,kz,h1,h2,ao,t,hk,rfl⟩;refine d1 (λr V=>∃c1 c2,c1.length<=14/\c2.length<=14/\(∀ch∈c1,im rs.length ch)/\(∀ch∈c2,im rs.length ch)/\HS (c+16) V V/\r=rT N K w e L rs cs y7 (Z (.ref kz)) (Z (prD c1 c2)) y10 y11 y12 y13 y14 y15) ?_ ?_
 ·refine(HJ t.here (by lia) E hf h1 h2 ao hk).mono ?_;rintro p ⟨a1,c1,c2,a2,a3,a4,a5,a6,a7⟩;exact⟨a1,c1,c2,a2,a3,a4,a5,a6.here,a7⟩
 rintro r V ⟨c1,c2,R,A,l,v,t,rfl⟩;refine d1 (λr V=>∃c1 c2,c1.length<=14/\c2.length<=14/\(∀ch∈c1,im rs.length ch)/\(∀ch∈c2,im rs.length ch)/\HS (c+40) V V/\r=rT N K w e L rs cs y7 (Z (.ref kz)) (Z (prD c1 c2)) y10 y11 y12 y13 y14 y15) ?_ ?_
 ·have ht:W (mB (m2 (b2 gEq) (mN (dv 2 dy) (dn (mV 2) (dn (mC (D.int 2)) dq))) (mC (D.int 0))) (rT N K w e L rs cs y7 (some (.ref kz)) (some (prD c1 c2)) y10 y11 y12 y13 y14 y15) V) fun p=>HS (c+17) p.2 p.2:=by
   unfold rT;walk_at"w";refine draw_W t (by lia) (by lia) (by lia) λd k f s2' A hd=>?_;walk_at"w";exact f.here
  obtain⟨⟨b,k⟩,et,f⟩:=ht;dsimp only at f;unfold fg;rw[dw];refine W.of et ?_;dsimp only;cases b with
  |false=>
   rw[aj (by decide)];exact W.of O ⟨O,c1,c2,R,A,l,v,f.more (by lia),O⟩
  |true=>
   rw[ak O];have hU:=wH inc ok f.shut;have s3:HS (c+17) k (k++[.lst (L.map (eU e)),dO (rwF e L)]):=by
    obtain⟨o,e1,h1⟩:=f.hand;have hp:=f.pos;exact⟨by rw[lA1];lia,hp,λi hi _=>gL1 hi,⟨o,fF e1,h1⟩,hU.2⟩
   have hp:=f.pos;have am:=λQ q=>He (S:=k++[.lst (L.map (eU e)),dO (rwF e L)]) (kd:=k.length+1) (Q:=Q) s3 (by lia) hw hm hst E inc ok wq (by rw[gF];rfl) (by lia) q;unfold rT;walk_at"w";refine Gp inc ok wq ?_;walk_at"w";have es:k++[Ob.lst (L.map (eU e)),dO (rwF e L)]=k++[Ob.lst (L.map (eU e)),dO (rwF e L)]:=rfl;refine am _ λc1 c2 S' a1 a2 a3 a4 a5 _ _=>?_;refine⟨c1,c2,a1,a2,a3,a4,a5.here.more (by lia),?_⟩
   first|rfl|trivial
 rintro r V ⟨c1,c2,R,A,l,v,t,rfl⟩;obtain⟨o1,X,rfl,B,H⟩:=t.split;refine d1 (λr V=>∃x g h,V=g::h/\Hnd g (c+100)/\ClT h/\Ok 30 (g::h) x/\r=rT N K w e L rs cs y7 (Z (.ref kz)) (Z (prD c1 c2)) (Z x) y11 y12 y13 y14 y15) ?_ ?_
 ·have hP:Ok 14 (o1::X) (prD c1 c2):=Go (n:=rs.length) (by lia) (by lia) R A l v;have bw:=λQ q=>Jx 4 (fuel:=8) (Q:=Q) (by lia) B (by lia) H hP (Kz hf l v 4) (by lia) (by lia) q;unfold rT;walk_at"w";refine bw _ λx g G h1 h2 h3=>?_
  first|exact⟨x,g,X++G,rfl,h1.more (by lia),h2,h3,rfl⟩|exact⟨rfl,x,g,X++G,rfl,h1.more (by lia),h2,h3,rfl⟩
 rintro r V ⟨x,g,h,rfl,j,C,hx,rfl⟩;have y:Ok 30 (g::h) (prD c1 c2):=Go (n:=rs.length) (by lia) (by lia) (by lia) (by lia) l v;refine d1 (λr V=>∃G n z,V=g::(h++G)/\(g::(h++G))[n]?=Z (.lst z)/\ClT (h++G)/\(∀d∈z,d=prD c1 c2\/(d=x/\ze x=M))/\r=rT N K w e L rs cs y7 (Z (.ref kz)) (Z (prD c1 c2)) (Z x) (Z (.ref n)) y12 y13 y14 y15) ?_ ?_
 ·unfold dH;rw[dw];refine(A5 O O j C y hx).mono ?_;rintro p ⟨G,n,z,rfl,U,F,au⟩;exact W.of O ⟨O,G,n,z,O,U,F,au,O⟩
 rintro r V ⟨G,n,z,rfl,U,F,au,rfl⟩;refine E9 (m:=m) (P:=prD c1 c2) (x:=x) j F U hw hm hst E inc ok wq (λd hd=>?_) λr V hI=>⟨O,hI⟩;have s:Ok 150 (g::(h++G)) x:=(hx.on (n:=c) j).more (by lia);have u:Ok 150 (g::(h++G)) (prD c1 c2):=(y.on (n:=c) j).more (by lia);rcases au d hd with rfl|⟨rfl,h2⟩
 ·exact⟨_,_,O,u.of.2 _ (by simp),u.of.2 _ (by simp)⟩
 ·obtain⟨a,b,rfl⟩:=Ko h2;exact⟨a,b,O,s.of.2 _ (by simp),s.of.2 _ (by simp)⟩
end
abbrev rU(N:D)(i:Nat)(a b c d:Option D):Ev:=[Z N,Z (.int (i:Nat)),a,b,c,d,Y,Y,Y,Y,Y,Y,Y,Y,Y,Y]
abbrev rV(N:D):Ev:=[Z N,Y,Y,Y,Y,Y,Y,Y,Y,Y,Y,Y,Y,Y,Y,Y]
theorem DW(ns:List Int)(i:Nat)(hi:i<8):W (sU [Z (.rol (ns.map D.int)),Z (.int (i:Nat)),Y,Y,Y,Y,Y,Y,Y,Y,Y,Y,Y,Y,Y,Y] []) λp=>p.1 = .nx /\ ∃E:Ev,p.2.1=Z (.rol (ns.map D.int))::E/\E.length=15:=by
 obtain⟨o,F,v⟩:=Ju ns i (by lia) (by lia);generalize U:D.rol (ns.map D.int)=N at *
 unfold sU;refine d1 (λr V=>V=[o]/\r=(rU N i (Z (.ref 0)) Y Y Y)) ?_ ?_
 ·wp_walk using F
 rintro r V ⟨rfl,rfl⟩;have au:HS 0 [o] [o]:=.self O v (by unfold fh;rw[bS,v.und];rfl);refine d1 (λr V=>∃(m:Nat) (w:dD) (e:E4) (L:List Rw),0<m/\m<=6/\jU m w/\Inc e L/\(∀p∈L,gr p)/\L.length<=75/\HS 600 [o] V/\r=(rU N i (Z (.ref 0)) (Z (ec w)) (Z (mcD e L)) Y)) ?_ ?_
 ·walk_at"w";refine JV (most:=6) au (by lia) (by lia) (by lia) λm w aq u B h Q _ X=>?_;walk_at"w";refine zC Q (by lia) λe L G inc ok C q _ wq=>?_;walk_at"w";exact⟨m,w,e,L,u,B,h,inc,ok,C,q,O⟩
 rintro r V ⟨m,w,e,L,u,B,h,inc,ok,C,q,rfl⟩;refine d1 (λr V=>∃rs cs,ue m rs cs/\0<rs.length/\HS 700 [o] V/\r=(rU N i (Z (.ref 0)) (Z (ec w)) (Z (mcD e L)) (Z (eJ rs cs)))) ?_ ?_
 ·have g:∀ S,w6 (.int 4) (.int (m:Nat)) S=some (.int ((min 4 m:Nat):Int),S):=fun S=>by
   simp only[w6];refine congrArg (λz=>Z (D.int z,S)) ?_;split<;>lia
  wp_walk using oi,g
  rw[h.len,g];walk_at"w";refine wu (most:=min 4 m) h u (by lia) (by lia) (by lia) q (by lia) λrs cs G f l R k ao _=>?_
  first|exact⟨rs,cs,f,l,k.more (by lia),rfl⟩|exact⟨rfl,rs,cs,f,l,k.more (by lia),rfl⟩
 rintro r V ⟨rs,cs,f,l,k,rfl⟩;refine d1 (λr y=>y=V/\r=rT N (.int (i:Nat)) w e L rs cs Y Y Y Y Y Y Y Y Y) ?_ ?_
 ·have st0:∀S,dz (eJ rs cs) (.int 0) S=Z (.tup (nmD rs),S):=λS=>rfl;unfold rT
  wp_walk using st0,gY,ff
 rintro r y ⟨rfl,rfl⟩;obtain⟨K,P,rfl,n,s⟩:=k.split;unfold fC;rw[dw,nL];refine W.of (x:=([.int 4],_)) O ?_;unfold Bi;dsimp only;refine⟨t8 (by decide) (by decide),?_⟩;rw[show(4:Int).toNat=4 from rfl,jP];refine fz (λj r V=>j<=4/\TI (700+100*j) N (.int (i:Nat)) w e L rs cs r V) _ 0 _ _ ⟨by lia,K,P,_,_,_,_,_,_,_,_,_,O,n,s,O⟩ (λ_ _ _ _=>rfl) ?_ ?_
 ·rintro j d am r V ⟨H,I⟩;have t:=(gE1.mp am).1;rw[lM1,cW]at t;rw[bQ]at *
  obtain⟨o,T,y7,y8,y9,y10,y11,y12,y13,y14,y15,rfl,h2,A,rfl⟩:=I;unfold gN;rw[dA];dsimp only;refine(GX (c:=700+100*j) ⟨o,T,Z d,y8,y9,y10,y11,y12,y13,y14,y15,O,h2,A,O⟩ (by lia) h (by lia) f l inc ok (by lia)).mono ?_;rintro p ⟨a,b⟩;exact⟨a,by lia,b⟩
 ·rintro r V ⟨H,I⟩;obtain⟨o,T,y7,y8,y9,y10,y11,y12,y13,y14,y15,rfl,h2,A,rfl⟩:=I;exact⟨O,_,O,O⟩
theorem D3{c a:List Bool}{b:FS}{r r1 d r2:Ev}{S S':dr}(h1:fU c r=r1)(h2:jM r1=M)(e:b r1 []=Z (.nx,d,S'))(f:fU a d=r2)(g:jM r2=M):py c a b r S=Z (.nx,r2,S):=by
 unfold py;rw[h1,ak h2,e,oS1];dsimp only;rw[f,ak g]
theorem truth(ns:List Int)(w:ns.length<=63):∃S,m_law [.rol (ns.map D.int)] []=Z (.bl M,S):=by
 have j:W (m_law [.rol (ns.map D.int)] []) λp=>p.1 = .bl M:=by
  unfold m_law;refine jg ?_;unfold Dh;have n:(D.rol (ns.map D.int)).und 0=M:=by simp[D.und,mw]
  have v:=λi hi=>DW ns i hi;generalize q:D.rol (ns.map D.int)=N at *
  have a:eA N []=Z (.int ns.length,[]):=by rw[<- q];simp[eA,dQ]
  refine d1 (λr S=>S=[]/\r=rV N) ?_ ?_
  ·wp_walk using Fo,w6,a
   have u:∃t:Nat,t<=8/\(if(if(ns.length:Int)<8 then(ns.length:Int)else 8)>1 then(if(ns.length:Int)<8 then(ns.length:Int)else 8)else 1)=(t:Int):=by
    by_cases h1:(ns.length:Int)<8
    ·rw[ak h1];by_cases h2:(ns.length:Int)>1
     ·rw[ak h2];exact⟨ns.length,by lia,O⟩
     ·rw[aj h2];exact⟨1,by lia,O⟩
    ·rw[aj h1];exact⟨8,by lia,by decide⟩
   obtain⟨t,y,te⟩:=u;rw[te,Int.toNat_natCast];refine⟨gG (by lia),?_⟩;refine fz (λ_ r S=>S=[]/\r=rV N) _ 0 _ _ ⟨O,O⟩ (λ_ _ _ _=>rfl) ?_ ?_
   ·rintro i d k r S ⟨rfl,rfl⟩;have c:=(gE1.mp k).1;rw [fK] at c;have g:d = .int (i:Nat):=by
     rw[jP,gP1,cr c]at k;exact(Option.some.inj k).symm
    subst g;walk_at"w";obtain⟨⟨f,r2,z⟩,s,m,o,b,l⟩:=v i (by lia);dsimp only at m b;subst m;subst b;refine W.of (x:=(.nx,rV N,[])) (D3 (r1:=rU N i Y Y Y Y) O (by simp[jM,D.und,n]) s ?_ (by simp[jM,n])) ⟨O,O,O⟩
    match o,l with
    |[z1,z2,z3,z4,z5,z6,z7,z8,z9,z10,z11,z12,z13,z14,z15],_=>rfl
   ·rintro r S ⟨rfl,rfl⟩;exact⟨O,O,O⟩
  ·rintro r S ⟨rfl,rfl⟩;walk_at"w"
 obtain⟨⟨d,S⟩,e,h⟩:=j;dsimp only at h;exact⟨S,by rw[e,h]⟩
end Law
end
open PySem PySem.W PyProof.Rows
namespace PySem.W.Fast
def tw15161302348294233479:=()
def tw13471576787426393621:=()
def tw6072375637306195612:=()
def tw2328386067379176722:=()
def tw15623416064408028725:=()
def tw2372807567759329390:=()
def tw17382330526728476876:=()
def tw7307385248148033098:=()
def tw5407243144957508794:=()
def tw18138676990959195740:=()
def tw4524819546057132097:=()
def tw6727103326712095170:=()
def tw14943493751240913145:=()
def tw11557749886795137153:=()
def tw14932629582366064764:=()
def tw3899983045168283031:=()
def tw17218317666296811399:=()
def tw790709901528103076:=()
def tw6710139817106718324:=()
def tw3724027854577047943:=()
def tw3164770055291244532:=()
def tw14060692905058048088:=()
def tw763864712662949980:=()
def tw8824904626391520216:=()
def tw12981728008597187388:=()
def tw2319512094146195651:=()
def tw2285517436581767169:=()
def tw16020121209668063746:=()
def tw17087390800761707333:=()
def tw14259107952601761137:=()
def tw3237577745095341014:=()
def tw366372040770560366:=()
def tw17622776125966499196:=()
def tw8059729288719066402:=()
def tw391116499401525237:=()
def tw10604448449237622444:=()
def tw8489303417492638562:=()
def tw16346970432289804196:=()
def tw9758751381102045397:=()
def tw10068360028302819683:=()
def tw4214468135948610653:=()
def tw16286785225992257637:=()
def tw11410628468740139634:=()
def tw12617065658106692876:=()
def tw10216504065461245774:=()
def tw462821925040886627:=()
def tw17270424502549121234:=()
def tw8372816021858539365:=()
def tw9614176631026287000:=()
def tw7321274368439031838:=()
def tw13314700103728203924:=()
def tw13618164583540667138:=()
def tw3094107127512627875:=()
def tw3604588261153098725:=()
def tw2978152746897740256:=()
def tw15292991065183250444:=()
def tw11734221760308574397:=()
def tw1214607826935944667:=()
def tw2963917029561701536:=()
def tw7795406164117752391:=()
def tw4656359927727019266:=()
def tw13749534716964621137:=()
def tw11228622115773870703:=()
def tw5570999855129969840:=()
def tw283345348087476056:=()
def tw6707030676234678923:=()
def tw1634066272290323766:=()
def tw7230564920059869492:=()
def tw8702555060100808230:=()
def tw17361122040741804670:=()
def tw8904119130219907515:=()
def tw7956480914843451195:=()
def tw5463142650880481598:=()
def tw16564223123771522710:=()
def tw8742162891562978302:=()
def tw92769527968025312:=()
def tw5522715533270659237:=()
def tw2746741626588699871:=()
def tw2725591387425852570:=()
def tw15488911292142053971:=()
def tw5397161659340534230:=()
def tw3014187772234877059:=()
def tw644868605729500798:=()
def tw1125277310692156310:=()
def tw15748237059207720535:=()
def tw9507849797112950236:=()
def tw11304309089847770394:=()
def tw2275027315032651561:=()
def tw5254671254382316273:=()
end PySem.W.Fast
set_option maxRecDepth 100000 in
set_option maxHeartbeats 0 in
theorem PySem.Challenge.cw_ringmeet_k69_rounds_looked_at_holds : PySem.Challenge.rw_ringmeet_k69_rounds_looked_at.Holds := by
 w_on;refine PySem.W.holds_law (by decide+kernel) fun d=>?_;k_head;(case hw=>w_witness2)
 k_fill
 refine Mi.walk_m (l:=PySem.Challenge.rw_ringmeet_k69_rounds_looked_at) (m:=Law.m_law) (k:=13) (x:="_law_script") rfl rfl ⟨rfl,by decide,by decide,rfl⟩ (fun w h Y=>PySem.W.kIn_of Y) Law.truth ?F
 case F=>
  intro w mg f h e G b;refine' Law.all_mk e G b ?a1 ?a2 ?a3 ?a4 ?a5 ?a6 ?a7 ?a8 ?a9 ?a10 ?a11 ?a12 ?a13 ?a14 ?a15 ?a16 ?a17 ?a18 ?a19 ?a20 ?a21 ?a22 ?a23 ?a24 ?a25 ?a26 ?a27 ?a28 ?a29 ?a30 ?a31 ?a32 ?a33 ?a34 ?a35 ?a36 ?a37 ?a38 ?a39 ?a40 ?a41 ?a42 ?a43 ?e_PARTS ?h1 ?h2 ?h5 ?h8 ?h11 ?z
  all_goals try (refine' Mi.Lp ?a ?l ?c ?k;(case a=>k_is);(case l=>k_is);(case c=>k_is);(case k=>k_is))
  (case e_PARTS=>k_is)
  (case h1=>k_is)
  (case h2=>k_is)
  (case h5=>k_is)
  (case h8=>k_is)
  (case h11=>k_is)
  (case z=>(iterate 18 refine⟨by k_is,?_⟩);trivial)

