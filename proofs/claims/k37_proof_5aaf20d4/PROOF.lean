import PyProof.Rows.All
import Wide.All
import OpenK.AllK
import Wide.FinOn
import Lean
import PyProof.EqAt
import PyProof.EqKinds
import PyProof.TupleCall
import PySem.Challenge.RW_ringmeet_k37_papers_of_anything
set_option Elab.async false
set_option compiler.extract_closed false
set_option linter.all false
set_option maxRecDepth 100000
set_option maxHeartbeats 4000000
open List renaming getElem?_eq_some_iff → gE1, getElem?_append_left → gL1, getElem?_eq_getElem → gG1, mem_of_getElem? → gM1, getElem?_set_ne → gS1, length_append → lA1, length_map → lM1, getElem?_cons_succ → gC1, mem_cons_of_mem → mC1, mem_cons_self → mS1, getElem?_map → gP1, getElem?_append_right → gR1, size_toArray → sT1, map_cons → mP1, length_cons → lC1, length_replicate → lR1, mem_append_right → mA1
open Option renaming bind_eq_some_iff → oB1, map_eq_some_iff → oM1, bind_some → oS1, map_some → oP1
open Nat renaming le_refl → nR1, lt_of_lt_of_le → nL1, ne_of_lt → nN1, ne_of_gt → nG1
open Bool renaming and_eq_true → bA1, false_eq_true → bF1
open Array renaming getElem?_eq_getElem → aG1, getElem?_toList → aT1
open PySem.W renaming Frag → Fg1, nsIn → wN1, keepIn → wK1, codeIn → wC1, fnOf → wF1, mg_of → wM1
open PySem.Heap renaming get?_push_of_some → hP1, get?_push_size → hS1, lt_size → hL1, size_push → hZ1, get?_update_ne → hU1, get?_update_self → hW1
open PySem renaming wpAny_bind → wB1, wpAny_pure → wP1, wpAny_setField_rec → wS1, wpAny_newObj_type → wO1, codeAny_builtin → wD1, wpAny_call_entry → wE1
open List renaming take_nil → av, drop_nil → aw, mem_filter → aA, mem_range → aB, filterMap_cons → aD, mem_cons → aE, mem_append → aF, mem_append_left → aG, getElem?_set_self → aH, mem_filterMap → aL, append_nil → aM, nodup_cons → aN, of_mem_zip → aO, replicate → aP, length_take → aR, getElem?_replicate → aS, getElem?_take_of_lt → aT, filterMap_map → aU, length_drop → aV, length_set → aW, length_singleton → aY, map_nil → aZ, find?_cons → a0, any_cons → ba, length_nil → bb, filter_cons → bc, cons_append → bi, range' → bm, prefix_rfl → bn, reverse_cons → bo, nodup_nil → bp, getElem?_of_mem → bq, map_map → bt, prefix_append → bu, nodup_append → bw, all_eq_true → bA, mem_replicate → bC, forIn_cons → bD, lookup_cons → bE, append_assoc → bF, getD_eq_getElem?_getD → bI, zipIdx_cons → bJ, not_mem_nil → bK, all_cons → bO, any_eq_true → bQ, getElem_mem → bR, zip_cons_cons → bS, cons_prefix_cons → bU, take_length → bV, ext_getElem? → bX, getElem?_eq_none → bY, findIdx?_eq_some_iff_getElem → b4, foldl_cons → b6, contains_cons → b7, take_of_length_le → b8, length_reverse → b9, pairwise_cons → ca, mem_map → cc, take_append_drop → cg, eraseIdx_eq_take_drop_succ → ci, getElem?_range → cj, mem_singleton → cm, length_range → cu, mem_of_mem_take → cv, mem_of_mem_drop → cx, set_cons_succ → cy, map_append → cE, take_succ → cF, forall_mem_nil → cG, map_congr_left → cH, all_append → cJ, mem_zipIdx_iff_getElem? → cM, getElem?_cons_zero → cN, set_cons_zero → cO, nil_append → cP, flatten_cons → cS, length_filter_le → cT, take_succ_cons → cU, filter_append → cV, set_append_right → cW, getElem?_concat_length → cX, getElem?_zipIdx → cY, range_succ → c0, filter_cons_of_pos → c5, filter_cons_of_neg → c6
open Option renaming some → ay, isSome_iff_exists → aQ, isSome_map → bf, getD_some → b5, join_some → cR
open Nat renaming lt_irrefl → az, le_trans → aC, le_succ → aX, lt_trans → bg, zero_le → bh, add_assoc → bj, le_add_right → br, not_lt_zero → bv, min_eq_left → bx, lt_succ_self → bB, lt_of_le_of_lt → bG, le_of_succ_le → bH, succ_pos → bM, zero_add → bN, lt_or_ge → bT, lt_succ_of_lt → cq, sub_self → cB, lt_trichotomy → cD, succ_eq_add_one → cI, reduceAdd → cQ, lt_succ_iff_lt_or_eq → cZ
open Array renaming length_toList → aI, forIn_toList → bW, perm_iff_toList_perm → cb, size_map → cf, toArray_toList → ck, getD_eq_getD_getElem? → cA
open Bool renaming false_ne_true → aJ, false_and → aK, and_true → bL, eq_iff_iff → bP, and_false → bZ, not_true → b0, not_false → cr, not_eq_true → cC, eq_false_iff → cK, true_and → c7
open PySem renaming Value → c8, Shared → c9, Addr → da, Program → db, Around → de, World → df, mainGlobals → dg, starEach → dh, sizeLine → di, wpAny → dj, Heap → dk, FuncData → dm, Stmt → dn, Scope → dq
open Option renaming some → Z, none → Y
open Bool renaming true → M, false → J
theorem Mi.O{α}{a:α}:a=a:=rfl
open Mi (O)
theorem Mi.am{p:Prop}[Decidable p]:(decide p=true)=p:=decide_eq_true_eq
theorem Mi.ak{c:Prop}{h:Decidable c}(a:c){α:Sort _}{t e:α}:ite c t e=t:=if_pos a
theorem Mi.aj{c:Prop}{h:Decidable c}(a:¬c){α:Sort _}{t e:α}:ite c t e=e:=if_neg a
theorem Mi.ai{p:Prop}[Decidable p]:¬p→decide p=false:=decide_eq_false
theorem Mi.ah{p:Prop}[Decidable p]:p→decide p=true:=decide_eq_true
open List renaming range → af
open Mi (am ak aj ai ah)
noncomputable section
namespace L2
open PySem PySem.Spec PyProof.Rows
abbrev Key:=Sum Int Str
def pI:Key->c8->Bool
 | .inl k,v=>Value.isInt k v
 | .inr x,v=>Value.isStrOf x v
def K7(w:df):Key->Int
 | .inl k=>hashInt k
 | .inr x=>hashStr w x
theorem e3:∀{k:Key} {v:c8},pI k v=M->(∃i t,k=Sum.inl i/\v=Value.int i t)\/(∃x t,k=Sum.inr x/\v=Value.str x t)
 | .inl i,v,h=>by
  obtain⟨t,e⟩:=Value.isInt_shape (k:=i) (v:=v) h;exact .inl ⟨i,t,O,e⟩
 | .inr x,v,h=>by
  obtain⟨t,e⟩:=Value.isStrOf_shape (x:=x) (v:=v) h;exact .inr ⟨x,t,O,e⟩
theorem xX(i:Int)(t:Tok):pI (.inl i) (.int i t)=M:=by simp[pI,Value.isInt]
theorem xW(x:Str)(t:Tok):pI (.inr x) (.str x t)=M:=by simp[pI,Value.isStrOf]
theorem G6(a b:Int):decide ((Sum.inl a:Key)=Sum.inl b)=(a == b):=by
 by_cases e:a=b
 ·subst e;simp
 ·have h:¬ (Sum.inl a:Key)=Sum.inl b:=λq=>e (Sum.inl.inj q);rw[ai h];exact(beq_eq_false_iff_ne.mpr e).symm
theorem G0(a b:Str):decide ((Sum.inr a:Key)=Sum.inr b)=decide (a=b):=by
 by_cases e:a=b
 ·subst e;simp
 ·have h:¬ (Sum.inr a:Key)=Sum.inr b:=λq=>e (Sum.inr.inj q);rw[ai h,ai e]
theorem G5(a:Int)(b:Str):decide ((Sum.inl a:Key)=Sum.inr b)=J:=ai (λq=>nomatch q)
theorem G4(a:Str)(b:Int):decide ((Sum.inr a:Key)=Sum.inl b)=J:=ai (λq=>nomatch q)
def fg(prog:db)(w:df):PySem.KeyKind prog w Key where
 is:=pI
 hash:=K7 w
 inj:=λv a b ha hb=>by
  rcases e3 ha with⟨i,t,rfl,rfl⟩|⟨x,t,rfl,rfl⟩
  ·rcases e3 hb with⟨j,u,rfl,e⟩|⟨y,u,rfl,e⟩
   ·injection e with e1 _;rw[e1]
   ·exact nomatch e
  ·rcases e3 hb with⟨j,u,rfl,e⟩|⟨y,u,rfl,e⟩
   ·exact nomatch e
   ·injection e with e1 _;rw[e1]
 byValue:=λk v h=>by
  rcases e3 h with⟨i,t,rfl,rfl⟩|⟨x,t,rfl,rfl⟩<;>rfl
 pyHash:=λhv h=>by
  rcases e3 hv with⟨i,t,rfl,rfl⟩|⟨x,t,rfl,rfl⟩
  ·exact wpAny_pyHash_int h
  ·exact wpAny_pyHash_str h
 eqBool:=λhu hv h=>by
  rcases e3 hu with⟨i,t,rfl,rfl⟩|⟨x,t,rfl,rfl⟩
  ·rcases e3 hv with⟨j,u,rfl,rfl⟩|⟨y,u,rfl,rfl⟩
   ·rw[G6]at h;exact wpAny_eqBool_int h
   ·rw[G5]at h;exact SeqAt.EqAt.int_str i t y u _ _ _ _ h
  ·rcases e3 hv with⟨j,u,rfl,rfl⟩|⟨y,u,rfl,rfl⟩
   ·rw[G4]at h;exact SeqAt.EqAt.str_int x t j u _ _ _ _ h
   ·rw[G0]at h;exact wpAny_eqBool_str h
 «strs» :=λk x t v h=>by
  rcases e3 h with⟨i,u,rfl,e⟩|⟨y,u,rfl,e⟩
  ·exact nomatch e
  ·injection e with e1 _;subst e1;cases v<;>rfl
theorem tI(prog:db)(w:df)(i:Int)(t:Tok):(fg prog w).is (.inl i) (.int i t)=M:=xX i t
theorem tH(prog:db)(w:df)(x:Str)(t:Tok):(fg prog w).is (.inr x) (.str x t)=M:=xW x t
end L2
namespace L2
open PySem PySem.Spec PyProof.Rows
inductive V where
 |non|bl (b:Bool)|int (i:Int)|str (x:Str)|byt (b:Array UInt8)|flt (b:UInt64)|ref (a:da)|ty (n:String)
 deriving DecidableEq
def dN:V->c8->Prop
 | .non,u=>u=Value.none
 | .bl b,u=>u=Value.bool b
 | .int i,u=>∃t,u=Value.int i t
 | .str x,u=>∃t,u=Value.str x t
 | .byt b,u=>∃t,u=Value.bytes b t
 | .flt b,u=>∃t,u=Value.float b t
 | .ref a,u=>u=Value.ref a
 | .ty n,u=>u=Value.type n
abbrev dY:List V->List c8->Prop:=Paired dN
theorem dY.length{xs:List V}{a:List c8}(r:dY xs a):xs.length=a.length:=Paired.length r
theorem dY.get:∀{xs:List V} {a:List c8} {i:Nat} {x:V},dY xs a->xs[i]?=Z x -> ∃u,a[i]?=Z u/\dN x u:=by
 intro xs a i x h e
 induction h generalizing i with
 |nil=>cases e
 |cons r t ih=>cases i with
  |zero=>cases e;exact⟨_,O,r⟩
  |succ i=>exact ih (i:=i) e
theorem dY.set{x:V}{u:c8}(r:dN x u):∀{xs:List V} {a:List c8} (i:Nat),dY xs a->dY (xs.set i x) (a.set i u):=by
 intro xs a i h
 induction h generalizing i with
 |nil=>exact .nil
 |cons q t ih=>cases i with
  |zero=>exact .cons r t
  |succ i=>exact .cons q (ih i)
theorem dY.append:∀{xs ys:List V} {a ws:List c8},dY xs a->dY ys ws->dY (xs++ys) (a++ws):=by
 intro xs ys a ws h s
 induction h with
 |nil=>exact s
 |cons r t ih=>exact .cons r ih
theorem dY.take:∀{xs:List V} {a:List c8} (n:Nat),dY xs a->dY (xs.take n) (a.take n):=by
 intro xs a n h
 induction h generalizing n with
 |nil=>rw[av,av];exact .nil
 |cons r t ih=>cases n with
  |zero=>exact .nil
  |succ n=>exact .cons r (ih n)
theorem dY.drop:∀{xs:List V} {a:List c8} (n:Nat),dY xs a->dY (xs.drop n) (a.drop n):=by
 intro xs a n h
 induction h generalizing n with
 |nil=>rw[aw,aw];exact .nil
 |cons r t ih=>cases n with
  |zero=>exact .cons r t
  |succ n=>exact ih n
def kK:Option V->Option c8->Prop
 |some v,Z u=>dN v u
 |none,Y=>True
 |_,_=>False
def KV{κ:Type}:List (κ×V)->List (κ×c8)->Prop:=Paired λ(p:κ×V) (q:κ×c8)=>p.1=q.1/\dN p.2 q.2
def kV:Key->V
 | .inl i=>.int i
 | .inr x=>.str x
inductive HO where
 /-- a list -/
 |lst (xs:List V)
 /-- a tuple (never changes) -/
 |tup (xs:List V)
 /-- a dict whose keys are ints and texts; one whose keys are tuples of ints and texts (the empty one is both) -/
 |dK (kvs:List (Key×V))|dT (kvs:List (List Key×V))
 /-- a set of ints: its members, its size -/
 |set (S:Int->Bool) (n:Nat)
 /-- an instance of the class at C, its dict at dx, its attributes -/
 |ins (C dx:da) (fs:List (Str×V))
 /-- the dict of the instance at x -/
 |own (x:da)
 /-- the dict of an exception -/
 |xd (fs:List (Str×V))
 /-- a bound method, f of x -/
 |met (f x:da)
 /-- a range object lo, lo + 1, .. below hi -/
 |rng (lo hi:Int)
 /-- a thing that is known to the object (the script; a dict while a loop walks it): read, never written while it is so -/
 |frz (o:Obj) (u:HO)
 /-- a code object's table -/
 |tbl (ps:Array c8)
 /-- any other thing, by what is true of its one object (a def of one's own: SetO a S n := HO.ext λh => ..) -/
 |ext (φ:dk->Prop)
abbrev Hp:=da->Option HO
def upd(H:Hp)(a:da)(o:HO):Hp:=λb=>if b=a then Z o else H b
theorem dX{H:Hp}{a:da}{o:HO}:upd H a o a=Z o:=by unfold upd;rw[ak O]
theorem dU{H:Hp}{a b:da}{o:HO}(h:b≠a):upd H a o b=H b:=by unfold upd;rw[aj h]
theorem I0{H:Hp}{a b:da}{o u:HO}(h:H a=Z o)(h':H b=Z u)(d:o≠u):a≠b:=by
 intro e;subst e;rw[h]at h';exact d (Option.some.inj h')
theorem d8{H:Hp}{a b:da}{o:HO}(h:H a=Z o)(h':H b=Y):a≠b:=by
 intro e;subst e;rw[h]at h';cases h'
section
variable(P:db) (w:df)
def eI(H:Hp)(h:dk)(a:da):HO->Prop
 | .lst xs=>xs.length<=di /\ ∃(its:List c8) (n:Nat),dY xs its/\h.get? a=Z {cls:=.type "list",data:=.seq its.toArray n}
 | .tup xs=>xs.length<=di /\ ∃its:List c8,dY xs its/\IsTup h a its.toArray
 | .dK kvs=>kvs.length<=di/\(a == sysModules)=J /\ ∃vs,KV kvs vs/\h.DictOf (fg P w) a vs
 | .dT kvs=>kvs.length<=di/\(a == sysModules)=false /\ ∃ xs:List (List Key×da×c8),
   Paired (λ(p:List Key×V) (q:List Key×da×c8)=>p.1=q.1/\H q.2.1=Z (.tup (p.1.map kV))/\dN p.2 q.2.2) kvs xs /\
   ∃o es ep,h.get? a=Z o/\o.ExactDict/\o.data = .dict es ep/\es.toList=xs.map (entryOfKey (tupleKind (fg P w)))/\(xs.map (·.1)).Nodup
 | .set S n=>h.SetOf (intKind P w) a S n
 | .ins C dx fs=>H dx=some (.own a)/\fs.length<=1000/\dx≠a/\h.get? a=some (PySem.W.instObj C dx) /\
   ∃mA,h.Ns1 dx mA/\(∀f,kK (fs.lookup f) (mA f))/\PySem.Within mA (fs.map (·.1))
 | .own _=>∃o,h.get? a=Z o
 | .xd fs=>∃mA,h.Ns1 a mA /\ ∀f,kK (fs.lookup f) (mA f)
 | .rng lo hi=>∃t u v,h.get? a=Z {cls:=.type "range",data:=.fields #[.int lo t,.int hi u,.int 1 v]}
 | .frz o u=>h.get? a=Z o/\eI H h a u
 | .tbl ps=>h.get? a=Z {cls:=.none,data:=.fields ps}
 | .met f x=>h.get? a=Z (PySem.W.methodObj (.ref f) (.ref x))
 | .ext φ=>φ h/\(∃o,h.get? a=Z o) /\ ∀h1 h2:dk,φ h1->(∀o,h1.get? a=Z o->h2.get? a=Z o)->φ h2
def kM(H:Hp)(h:dk):Prop:=∀a o,H a=Z o->eI P w H h a o
end
section
variable{P:db}{w:df}{H H':Hp}{h h':dk}{a:da}{o:HO}
theorem eI.lt(x:eI P w H h a o):a<h.objs.size:=by
 cases o with
 |lst xs=>obtain⟨_,_,_,_,e⟩:=x;exact hL1 e
 |tup xs=>obtain⟨_,_,_,p⟩:=x;exact p.lt
 |dK kvs=>obtain⟨_,_,_,_,o,_,_,e,_⟩:=x;exact hL1 e
 |dT kvs=>obtain⟨_,_,_,_,o,_,_,e,_⟩:=x;exact hL1 e
 |set S n=>obtain⟨o,_,_,_,e,_⟩:=x;exact hL1 e
 |ins C dx fs=>obtain⟨_,_,_,e,_⟩:=x;exact hL1 e
 |own y=>obtain⟨_,e⟩:=x;exact hL1 e
 |xd fs=>obtain⟨_,⟨_,_,_,e,_⟩,_⟩:=x;exact hL1 e
 |rng lo hi=>obtain⟨_,_,_,e⟩:=x;exact hL1 e
 |frz b u=>obtain⟨e,_⟩:=x;exact hL1 e
 |tbl ps=>exact hL1 (show h.get? a=Z _ from x)
 |met f y=>exact hL1 (show h.get? a=Z _ from x)
 |ext φ=>obtain⟨_,⟨_,e⟩,_⟩:=x;exact hL1 e
theorem Paired.mapP{α β:Type}{F G:α->β->Prop}:∀{l₁:List α} {l₂:List β},Paired F l₁ l₂->(∀a b,F a b->G a b)->Paired G l₁ l₂:=by
 intro a b h f
 induction h with
 |nil=>exact .nil
 |cons r t ih=>exact .cons (f _ _ r) ih
theorem eI.stay(x:eI P w H h a o)(k:∀ b u,(b=a\/H b=Z (.own a))->h.get? b=Z u->h'.get? b=Z u)(ho:∀b,H b=Z (.own a)->H' b=Z (.own a))(ht:∀b xs,H b=Z (.tup xs)->H' b=Z (.tup xs)):eI P w H' h' a o:=by
 induction o with
 |lst xs=>obtain⟨z,i,n,r,e⟩:=x;exact⟨z,i,n,r,k _ _ (.inl O) e⟩
 |tup xs=>obtain⟨z,i,r,g,e,c⟩:=x;exact⟨z,i,r,g,k _ _ (.inl O) e,c⟩
 |dK kvs=>obtain⟨z,y,vs,r,g,es,ep,e,c⟩:=x;exact⟨z,y,vs,r,g,es,ep,k _ _ (.inl O) e,c⟩
 |dT kvs=>
  obtain⟨z,y,xs,r,g,es,ep,e,c⟩:=x;exact⟨z,y,xs,Paired.mapP r λp q z=>⟨z.1,ht _ _ z.2.1,z.2.2⟩,g,es,ep,k _ _ (.inl O) e,c⟩
 |set S n=>obtain⟨g,es,ep,t,e,c⟩:=x;exact⟨g,es,ep,t,k _ _ (.inl O) e,c⟩
 |ins C dx fs=>
  obtain⟨d,z,ne,e,mA,⟨j,es,ep,l,c⟩,r⟩:=x;exact⟨ho _ d,z,ne,k _ _ (.inl O) e,mA,⟨j,es,ep,k _ _ (.inr d) l,c⟩,r⟩
 |own y=>obtain⟨g,e⟩:=x;exact⟨g,k _ _ (.inl O) e⟩
 |xd fs=>obtain⟨mA,⟨j,es,ep,e,c⟩,r⟩:=x;exact⟨mA,⟨j,es,ep,k _ _ (.inl O) e,c⟩,r⟩
 |rng lo hi=>obtain⟨t,u,v,e⟩:=x;exact⟨t,u,v,k _ _ (.inl O) e⟩
 |frz g u ih=>obtain⟨e,q⟩:=x;exact⟨k _ _ (.inl O) e,ih q⟩
 |tbl ps=>
  have e:h.get? a=Z {cls:=.none,data:=.fields ps}:=x;show h'.get? a=Z {cls:=.none,data:=.fields ps};exact k a _ (.inl O) e
 |met f y=>
  have e:h.get? a=Z (PySem.W.methodObj (.ref f) (.ref y)):=x;show h'.get? a=Z (PySem.W.methodObj (.ref f) (.ref y));exact k a _ (.inl O) e
 |ext φ=>obtain⟨p,⟨o,e⟩,st⟩:=x;exact⟨st _ _ p λo q=>k _ _ (.inl O) q,⟨o,k _ _ (.inl O) e⟩,st⟩
theorem kM.lt(x:kM P w H h)(e:H a=Z o):a<h.objs.size:=(x a o e).lt
theorem kM.fresh(x:kM P w H h)(e:h.objs.size<=a):H a=Y:=by
 cases q:H a with
 |none=>rfl
 |some u=>exact absurd (nL1 (x.lt q) e) (az _)
theorem kM.kept(x:kM P w H h)(k:∀b u,h.get? b=Z u->h'.get? b=Z u):kM P w H h':=λa o e=>
 (x a o e).stay (λb u _ q=>k b u q) (λ_ q=>q) λ_ _ q=>q
theorem kM.laid(x:kM P w H h)(k:∀b u,h.get? b=Z u->h'.get? b=Z u)(hp:h.objs.size<=a)(new:eI P w (upd H a o) h' a o):kM P w (upd H a o) h':=λb u e=>by
 have d:=x.fresh hp;by_cases f:b=a
 ·subst f;rw[dX]at e;cases e;exact new
 ·rw[dU f]at e;exact(x b u e).stay (λc v _ q=>k c v q) (λc q=>by rw[dU (d8 q d)];exact q) λc xs q=>by rw[dU (d8 q d)];exact q
end
def Rd(H:Hp)(a:da)(u:HO):Prop:=H a=Z u \/ ∃o,H a=Z (.frz o u)
theorem Rd.of{H:Hp}{a:da}{u:HO}(h:H a=Z u):Rd H a u:=.inl h
theorem Rd.ok{P:db}{w:df}{H:Hp}{h:dk}{a:da}{u:HO}(r:Rd H a u)(x:kM P w H h):eI P w H h a u:=by
 rcases r with r|⟨o,r⟩
 ·exact x a u r
 ·obtain⟨_,q⟩:=x a _ r;exact q
def HN:Option HO->Prop
 |some (.lst _)=>True
 |some (.dK _)=>True
 |some (.dT _)=>True
 |some (.set _ _)=>True
 |some (.ins _ _ _)=>True
 |some (.ext _)=>True
 |_=>False
section
variable{P:db}{w:df}{H:Hp}{h h':dk}{x e:da}{o':HO}
theorem kM.write(ok:kM P w H h)(mu:HN (H x))(he:e=x\/H e=Z (.own x))(k:∀ b u,b≠e->h.get? b=Z u->h'.get? b=Z u)(i:∃ u,h'.get? e=Z u)(new:eI P w (upd H x o') h' x o'):kM P w (upd H x o') h':=λb u q=>by
 have d:∀c y,H c=Z (.own y)->c≠x:=λc y r z=>by subst z;rw[r]at mu;exact mu
 have f:∀c xs,H c=Z (.tup xs)->c≠x:=λc xs r z=>by subst z;rw[r]at mu;exact mu
 by_cases g:b=x
 ·subst g;rw[dX]at q;cases q;exact new
 ·rw[dU g]at q;by_cases a:b=e
  ·have j:H b=some (.own x):=by
    rcases he with z|z
    ·exact absurd (a.trans z) g
    ·rw[a];exact z
   rw[q]at j;cases j;obtain⟨v,l⟩:=i;exact⟨v,by rw[a];exact l⟩
  ·refine(ok b u q).stay (λc v hc r=>k c v ?_ r) (λc r=>by rw[dU (d c b r)];exact r) λc xs r=>by rw[dU (f c xs r)];exact r
   rcases hc with rfl|hc
   ·exact a
   ·rintro rfl;rcases he with z|z
    ·exact d c b hc z
    ·rw[hc]at z;cases z;exact g O
end
structure Un (fs ex:List da)(H H':Hp)(h h':dk):Prop where
 keep:∀b o,h.get? b=some o->H b=none->b∉fs->b∉ex->h'.get? b=some o
 slot:∀b o,h.get? b=some o->H b=none->b∈fs->b∉ex -> ∃sl,h'.get? b=some {o with slots:=sl}
 free:∀b o,h.get? b=some o->H b=none->b∉ex->H' b=none
 there:∀b o,h.get? b=some o->b∉ex -> ∃o',h'.get? b=some o'
 tups:∀b xs,H b=some (.tup xs)->H' b=some (.tup xs)
 frzs:∀b o u,H b=some (.frz o u)->H' b=some (.frz o u)
 tbls:∀b ps,H b=some (.tbl ps) -> ∃more,H' b=some (.tbl (ps++more))
section
variable{fs fs' ex ex':List da}{H H1 H2:Hp}{h h1 h2 h':dk}{a x e:da}{o:HO}
theorem Un.any(u:Un fs ex H H1 h h1){b:da}{a:Obj}(q:h.get? b=Z a)(n:H b=Y)(hx:b∉ex):∃d,h1.get? b=Z {a with slots:=d}:=by
 by_cases c:b∈fs
 ·exact u.slot b a q n c hx
 ·exact⟨a.slots,u.keep b a q n c hx⟩
theorem Un.trans(a:Un fs ex H H1 h h1)(b:Un fs ex H1 H2 h1 h2):Un fs ex H H2 h h2 where
 keep:=λc e q n hc d=>b.keep c e (a.keep c e q n hc d) (a.free c e q n d) hc d
 slot:=λc e q n hc d=>by
  obtain⟨j,f⟩:=a.slot c e q n hc d;obtain⟨i,g⟩:=b.slot c _ f (a.free c e q n d) hc d;exact⟨i,g⟩
 free:=λc e q n d=>by
  obtain⟨o',f⟩:=a.there c e q d;exact b.free c o' f (a.free c e q n d) d
 there:=λc e q d=>by
  obtain⟨o',f⟩:=a.there c e q d;exact b.there c o' f d
 tups:=λc xs q=>b.tups c xs (a.tups c xs q)
 frzs:=λc e xs q=>b.frzs c e xs (a.frzs c e xs q)
 tbls:=λc ps q=>by
  obtain⟨m1,f⟩:=a.tbls c ps q;obtain⟨m2,g⟩:=b.tbls c _ f;exact⟨m1++m2,by rw[g,Array.append_assoc]⟩
theorem Un.kept(k:∀b u,h.get? b=Z u->h'.get? b=Z u):Un fs ex H H h h':=
 ⟨λb a q _ _ _=>k b a q,λb a q _ _ _=>⟨a.slots,k b a q⟩,λ_ _ _ n _=>n,λb a q _=>⟨a,k b a q⟩,λ_ _ q=>q,λ_ _ _ q=>q,λ_ ps q=>⟨#[],by rw[q];simp⟩⟩
theorem Un.refl:Un fs ex H H h h:=Un.kept λ_ _ q=>q
theorem Un.laid(k:∀b u,h.get? b=Z u->h'.get? b=Z u)(hp:h.objs.size<=a)(hn:H a=Y):Un fs ex H (upd H a o) h h' where
 keep:=λb u q _ _ _=>k b u q
 slot:=λb u q _ _ _=>⟨u.slots,k b u q⟩
 free:=λb u q n _=>by rw[dU (nN1 (nL1 (hL1 q) hp))];exact n
 there:=λb u q _=>⟨u,k b u q⟩
 tups:=λb xs q=>by rw[dU (d8 q hn)];exact q
 frzs:=λb u xs q=>by rw[dU (d8 q hn)];exact q
 tbls:=λb ps q=>⟨#[],by rw[dU (d8 q hn),q];simp⟩
theorem Un.write(mu:HN (H x))(he:e=x\/H e=Z (.own x))(k:∀b u,b≠e->h.get? b=Z u->h'.get? b=Z u)(d:∃u,h'.get? e=Z u):Un fs ex H (upd H x o) h h':=by
 have f:∀b,H b=Y->b≠x:=λb n z=>by subst z;rw[n]at mu;exact mu
 have g:∀b,H b=Y->b≠e:=λb n z=>by
  subst z;rcases he with r|r
  ·exact f b n r
  ·rw[n]at r;cases r
 have c:∀b u,H b=Z u -> ¬ HN (Z u)->b≠x:=λb u q nm z=>by subst z;rw[q]at mu;exact nm mu
 refine⟨λb u q n _ _=>k b u (g b n) q,λb u q n _ _=>⟨u.slots,k b u (g b n) q⟩,λb u q n _=>by rw[dU (f b n)];exact n,λb u q _=>?_,
  λb xs q=>by rw[dU (c b _ q λz=>z)];exact q,λb u xs q=>by rw[dU (c b _ q λz=>z)];exact q,λb ps q=>⟨#[],by rw[dU (c b _ q λz=>z),q];simp⟩⟩
 by_cases a:b=e
 ·subst a;exact d
 ·exact⟨u,k b u a q⟩
end
def trk(h:dk)(H:Hp):List da:=(af h.objs.size).filter λa=>(H a).isSome
def rG(h:dk)(H:Hp):dk:=PySem.W.hideAll h (trk h H)
theorem yb(h:dk)(H:Hp):(rG h H).objs.size=h.objs.size:=PySem.W.hideAll_size _ _
theorem AZ{h:dk}{H:Hp}{b:da}{o:Obj}(e:h.get? b=Z o)(n:H b=Y):(rG h H).get? b=Z o:=
 PySem.W.hideAll_get _ e λa=>by
  have q:(H b).isSome=M:=(aA.mp a).2;rw[n]at q;simp at q
theorem CW{h:dk}{H:Hp}{b:da}{o:Obj}(e:(rG h H).get? b=Z o):h.get? b=Z o/\H b=Y:=by
 have a:h.get? b=Z o:=PySem.W.of_hideAll (trk h H) e;refine⟨a,?_⟩;cases q:H b with
 |none=>rfl
 |some x=>
  have c:b∈trk h H:=aA.mpr ⟨aB.mpr (hL1 a),by simp[q]⟩;have z:(rG h H).get? b=Y:=PySem.W.hideAll_none (trk h H) c;rw[z]at e;cases e
def D9(g h:dk)(L:da):List (da×Obj):=(af h.objs.size).filterMap λa=>if a=L\/(g.get? a).isSome=M then Y else(h.get? a).map λo=>(a,o)
def rest(g h:dk)(L d:da):List (da×Obj):=(D9 g h L).filter λp=>decide (p.1≠d)
end L2
namespace L2
open PySem PySem.Spec PyProof.Rows
structure Mod (K:Fg1)(mg:Str->Option c8)(base:dk):Prop where
 kin:K.In base
 glob:base.Ns dg mg
 blt:∃mb,base.Ns builtinsNs mb /\ ∀x:Str,x≠"__name__"->mb x=bootBuiltins x
 nolimit:base.NoLimit
structure Cx where
 prog:db
 w:df
 K:Fg1
 mg:Str->Option c8
 base:dk
 A:de
 N:List Str
 s₀:c9
 H₀:Hp
 env:Env
 outer:List Env
 stack:List Env
 ex:List da
 fn:Str->Bool
 calm:Bool
 pn:List (da×Obj)
 xe:c8->c9->Prop
def frs(l:List Env):List da:=l.filterMap (·.frame)
abbrev Cx.fs(X:Cx):List da:=frs X.outer
def Ed(sc:dq)(x:Str):Prop:=sc.names.lookup x=Z .local\/sc.names.lookup x=Z .cell\/sc.names.lookup x=Z .free
def yw(sc:dq)(x:Str):Prop:=sc.names.lookup x=Z .local\/sc.names.lookup x=Z .cell
def Lw(env:Env)(h:dk)(m:Str->Option c8)(x:Str)(u:c8):Prop:=
 (env.kindOf x=Z .local/\m x=Z u)\/((env.kindOf x=Z .cell\/env.kindOf x=Z .free) /\ ∃c,env.cells.lookup x=Z c/\h.IsCell c (Z u))
structure Cx.Ok (X:Cx):Prop where
 mod:Mod X.K X.mg X.base
 kind:X.env.scope.kind = .function
 glob:X.env.globals=dg
 blt:X.env.builtins=builtinsNs
 above:X.s₀.heap.objs.size<=X.env.locals
 inj:∀x y c,X.env.cells.lookup x=some c->X.env.cells.lookup y=some c->x=y
 has:∀x,(X.env.kindOf x=some .cell\/X.env.kindOf x=some .free) -> ∃c,X.env.cells.lookup x=some c
 cab:∀x c,X.fn x=true->X.env.cells.lookup x=some c->X.s₀.heap.objs.size<=c
 hd:X.calm=true->X.A.handled=none
 frames:X.A.frames=some X.stack
 stk:X.stack=X.outer\/(X.stack=X.env::X.outer/\X.env.frame=some X.env.locals)
 exf:∀b∈X.ex,b≠X.env.locals /\ ∀x c,X.env.cells.lookup x=some c->c≠b
 bs:∀b o,X.base.get? b=some o->X.s₀.heap.get? b=some o/\X.H₀ b=none
 bsz:X.base.objs.size<=X.s₀.heap.objs.size
 noex:∀b o,X.base.get? b=some o->b∉X.ex
 exfs:∀b∈X.ex,b∉X.fs
 funs:X.s₀.heap.FunFrames X.base X.outer
 frf:∀b∈X.fs,X.H₀ b=none
structure Inv (X:Cx)(ag:List (da×Obj))(σ:List (Option V))(H:Hp)(s:c9):Prop where
 ok:X.Ok
 os:s.os=X.s₀.os
 bare:AllBare s.gens
 base:Un X.fs X.ex X.H₀ H X.s₀.heap s.heap
 loc:∃m,s.heap.Ns X.env.locals m /\ ∀(i:Nat) (x:Str) (v:V),X.N[i]?=some x->σ[i]?=some (some v)->Ed X.env.scope x -> ∃u,dN v u/\Lw X.env s.heap m x u
 cell:∀x c,X.env.cells.lookup x=some c -> ∃v,s.heap.IsCell c v
 free:H X.env.locals=none
 freeC:∀x c,X.env.cells.lookup x=some c->H c=none
 pin:∀p∈X.pn++ag,s.heap.get? p.1=some p.2/\H p.1=none/\p.1≠X.env.locals/\p.1∉X.fs /\ ∀v,p.2.data ≠ .cell v
 hok:kM X.prog X.w H s.heap
 len:σ.length=X.N.length
section
variable{X:Cx}{ag:List (da×Obj)}{σ:List (Option V)}{H H':Hp}{s:c9}{h':dk}
theorem Cx.Ok.nofr(ok:X.Ok){b:da}{o:Obj}(e:X.base.get? b=Z o):b∉X.fs:=λa=>by
 have:=(ok.funs.mem a).1;rw[e]at this;cases this
theorem Inv.bs(I:Inv X ag σ H s):∀b o,X.base.get? b=Z o->s.heap.get? b=Z o/\H b=Y:=λb o e=>
 ⟨I.base.keep b o (I.ok.bs b o e).1 (I.ok.bs b o e).2 (I.ok.nofr e) (I.ok.noex b o e),I.base.free b o (I.ok.bs b o e).1 (I.ok.bs b o e).2 (I.ok.noex b o e)⟩
theorem Inv.bk(I:Inv X ag σ H s):∀b o,X.base.get? b=Z o->s.heap.get? b=Z o:=λb o e=>(I.bs b o e).1
theorem Inv.mod(I:Inv X ag σ H s):Mod X.K X.mg X.base:=I.ok.mod
theorem Inv.kIn(I:Inv X ag σ H s):X.K.In s.heap:=I.ok.mod.kin.keeps I.bk
theorem Inv.lt(I:Inv X ag σ H s):X.env.locals<s.heap.objs.size:=let ⟨_,hn,_⟩:=I.loc;hn.lt
theorem Inv.sz(I:Inv X ag σ H s):X.s₀.heap.objs.size<=s.heap.objs.size:=aC I.ok.above (Nat.le_of_lt I.lt)
theorem Inv.nofs(I:Inv X ag σ H s){a:da}(h:s.heap.objs.size<=a):a∉X.fs:=λb=>by
 obtain⟨_,o,c,_⟩:=I.ok.funs.mem b;exact absurd (nL1 (hL1 c) (aC I.sz h)) (az _)
theorem Inv.cne(I:Inv X ag σ H s):∀x c,X.env.cells.lookup x=Z c->c≠X.env.locals:=λx c e z=>by
 obtain⟨v,o,d,f⟩:=I.cell x c e;obtain⟨m,⟨o',es,ep,a,b,_⟩,_⟩:=I.loc;rw[z,a]at d;cases d;rw[b]at f;cases f
theorem Inv.funs(I:Inv X ag σ H s):s.heap.FunFrames X.base X.outer:=by
 have all:∀(l:List Env),(∀b∈frs l,b∈X.fs)->X.s₀.heap.FunFrames X.base l->s.heap.FunFrames X.base l:=by
  intro l
  induction l with
  |nil=>intro _ _;trivial
  |cons g r ih=>
   intro f j;obtain⟨n,⟨L,o,a,m,k,i⟩,h⟩:=j;have d:L∈X.fs:=f L (by unfold frs;rw[aD,a];exact mS1);obtain⟨p,e⟩:=I.base.slot L o k (I.ok.frf L d) d λz=>I.ok.exfs L z d;exact⟨n,⟨L,_,a,m,e,i⟩,ih (λb c=>f b (by unfold frs;rw[aD,a];exact mC1 _ c)) h⟩
 exact all X.outer (λ_ c=>c) I.ok.funs
theorem Inv.stack(I:Inv X ag σ H s):s.heap.FunFrames X.base X.stack:=by
 rcases I.ok.stk with e|⟨e,b⟩
 ·rw[e];exact I.funs
 ·rw[e];obtain⟨m,a,_⟩:=I.loc;refine .cons (by rw[I.ok.kind];decide) b a ?_ I.funs;exact Heap.get?_none_of_le (aC I.ok.bsz I.ok.above)
theorem Inv.stkSub(I:Inv X ag σ H s):∀b∈frs X.stack,b∈X.env.locals::X.fs:=λb a=>by
 rcases I.ok.stk with e|⟨e,c⟩
 ·rw[e]at a;exact mC1 _ a
 ·rw[e]at a;unfold frs at a;rw[aD,c]at a;exact a
theorem Inv.stkFree(I:Inv X ag σ H s):∀b∈frs X.stack,H b=Y:=λb a=>by
 rcases aE.mp (I.stkSub b a)with e|a
 ·rw[e];exact I.free
 ·obtain⟨_,o,c,_⟩:=I.ok.funs.mem a;exact I.base.free b o c (I.ok.frf b a) λz=>I.ok.exfs b z a
theorem Inv.step{g':Array GenState}{t':Nat}{d':Drawn}{ch:List da}(I:Inv X ag σ H s)(g:∀b∈ch,(b∈X.ex\/X.s₀.heap.objs.size<=b)/\b≠X.env.locals/\(∀x c,X.env.cells.lookup x=some c->c≠b) /\ ∀p∈X.pn++ag,p.1≠b)(keep:∀b o,b≠X.env.locals->b∉X.fs->b∉ch->s.heap.get? b=some o->H b=none->h'.get? b=some o)(slot:∀b o,b≠X.env.locals->b∈X.fs->b∉ch->s.heap.get? b=some o->H b=none -> ∃L,h'.get? b=some {o with slots:=L})(free:∀b o,b∉ch->s.heap.get? b=some o->H b=none->H' b=none)(w:∀b o,b∉ch->s.heap.get? b=some o -> ∃o',h'.get? b=some o')(F:∀b xs,H b=some (.tup xs)->H' b=some (.tup xs))(C:∀b o u,H b=some (.frz o u)->H' b=some (.frz o u))(B:∀b ps,H b=some (.tbl ps) -> ∃more,H' b=some (.tbl (ps++more)))(ns:∀m,s.heap.Ns X.env.locals m->h'.Ns X.env.locals m)(K:kM X.prog X.w H' h')(hg:AllBare g'):
  Inv X ag σ H' {s with heap:=h',gens:=g',drawn:=d',toks:=t'}:=by
 have D:∀b o,X.s₀.heap.get? b=Z o->b≠X.env.locals:=λb o e=>nN1 (nL1 (hL1 e) I.ok.above);have t:∀b o,X.s₀.heap.get? b=Z o->b∉X.ex->b∉ch:=λb o e a y=>by
  rcases(g b y).1 with z|z
  ·exact a z
  ·exact absurd (nL1 (hL1 e) z) (az _)
 have h:∀x c,X.env.cells.lookup x=Z c -> ∀v,s.heap.IsCell c v->h'.IsCell c v:=λx c e v ⟨o,A,ao⟩=>by
  have f:c∉ch:=λz=>(g c z).2.2.1 x c e O;by_cases hc:c∈X.fs
  ·obtain⟨L,q⟩:=slot c o (I.cne x c e) hc f A (I.freeC x c e);exact⟨_,q,ao⟩
  ·exact⟨o,keep c o (I.cne x c e) hc f A (I.freeC x c e),ao⟩
 refine⟨I.ok,I.os,hg,⟨λb o e n y a=>?_,λb o e n y a=>?_,λb o e n a=>?_,λb o e a=>?_,λb xs e=>F b xs (I.base.tups b xs e),λb o xs e=>C b o xs (I.base.frzs b o xs e),λb ps e=>?_⟩,?_,λx c e=>?_,?_,λx c e=>?_,λp N=>?_,K,I.len⟩
 ·exact keep b o (D b o e) y (t b o e a) (I.base.keep b o e n y a) (I.base.free b o e n a)
 ·obtain⟨L,j⟩:=I.base.slot b o e n y a;obtain⟨G,E⟩:=slot b _ (D b o e) y (t b o e a) j (I.base.free b o e n a);exact⟨G,E⟩
 ·obtain⟨o',j⟩:=I.base.there b o e a;exact free b o' (t b o e a) j (I.base.free b o e n a)
 ·obtain⟨o',j⟩:=I.base.there b o e a;exact w b o' (t b o e a) j
 ·obtain⟨m1,j⟩:=I.base.tbls b ps e;obtain⟨m2,E⟩:=B b _ j;exact⟨m1++m2,by rw[E,Array.append_assoc]⟩
 ·obtain⟨m,au,Q⟩:=I.loc;refine⟨m,ns m au,λi x v j E P=>?_⟩;obtain⟨u,r,l⟩:=Q i x v j E P;refine⟨u,r,?_⟩;rcases l with l|⟨k,c,e,z⟩
  ·exact .inl l
  ·exact .inr ⟨k,c,e,h x c e _ z⟩
 ·obtain⟨v,z⟩:=I.cell x c e;exact⟨v,h x c e v z⟩
 ·obtain⟨m,⟨o,_,_,A,_⟩,_⟩:=I.loc;exact free _ o (λz=>(g _ z).2.1 O) A I.free
 ·obtain⟨v,o,A,ao⟩:=I.cell x c e;exact free c o (λz=>(g c z).2.2.1 x c e O) A (I.freeC x c e)
 ·obtain⟨e,n,ne,aq,d⟩:=I.pin p N;have f:p.1∉ch:=λz=>(g p.1 z).2.2.2 p N O;exact⟨keep p.1 p.2 ne aq f e n,free p.1 p.2 f e n,ne,aq,d⟩
theorem Inv.un{t':Nat}(I:Inv X ag σ H s)(u:Un X.fs [] H H' s.heap h')(d:kM X.prog X.w H' h'):Inv X ag σ H' {s with heap:=h',toks:=t'}:=by
 obtain⟨m,⟨o,es,ep,h,r⟩,_⟩:=id I.loc;obtain⟨p,k⟩:=u.any h I.free (by simp);exact I.step (g':=s.gens) (d':=s.drawn) (ch:=[]) (λ_ z=>nomatch z) (λb o _ g _ e n=>u.keep b o e n g (by simp)) (λb o _ g _ e n=>u.slot b o e n g (by simp)) (λb o _ e n=>u.free b o e n (by simp)) (λb o _ e=>u.there b o e (by simp)) u.tups u.frzs u.tbls (λl j=>by
  obtain⟨o',c,f,a,i⟩:=j;rw[h]at a;cases a;exact⟨_,c,f,k,i⟩) d I.bare
theorem Inv.call{g':Array GenState}{t':Nat}{d':Drawn}{ch:List da}(I:Inv X ag σ H s)(u:Un (frs X.stack) ch H H' s.heap h')(g:kM X.prog X.w H' h')(hg:AllBare g')(a:∀b∈ch,(b∈X.ex\/X.s₀.heap.objs.size<=b)/\b≠X.env.locals/\(∀x c,X.env.cells.lookup x=some c->c≠b) /\ ∀p∈X.pn++ag,p.1≠b):
  Inv X ag σ H' {s with heap:=h',gens:=g',drawn:=d',toks:=t'}:=by
 obtain⟨m,⟨o,es,ep,j,r⟩,_⟩:=id I.loc;obtain⟨v,i⟩:=u.any j I.free λz=>(a _ z).2.1 O;exact I.step (ch:=ch) a (λb o i q hc e n=>u.keep b o e n (λz=>(aE.mp (I.stkSub b z)).elim i q) hc) (λb o _ _ hc e n=>u.any e n hc) (λb o hc e n=>u.free b o e n hc) (λb o hc e=>u.there b o e hc) u.tups u.frzs u.tbls (λt l=>by
  obtain⟨o',f,h,d,k⟩:=l;rw[j]at d;cases d;exact⟨_,f,h,i,k⟩) g hg
theorem Inv.turned{t':Nat}{it:da}(I:Inv X ag σ H s)(k:∀ b o,b≠it->s.heap.get? b=Z o->h'.get? b=Z o)(hn:H it=Y)(d:it≠X.env.locals)(h1:it∈X.ex\/X.s₀.heap.objs.size<=it)(h2:∀x c,X.env.cells.lookup x=Z c->c≠it)(i:∀p∈X.pn++ag,p.1≠it):Inv X ag σ H {s with heap:=h',toks:=t'}:=by
 have a:∀b u,H b=Z u->b≠it:=λb u e z=>by rw[z,hn]at e;cases e
 refine I.step (g':=s.gens) (d':=s.drawn) (ch:=[it]) (λb h=>?_) (λb o _ _ hc e _=>k b o (λz=>hc (by simp[z])) e) (λb o _ _ hc e _=>⟨o.slots,k b o (λz=>hc (by simp[z])) e⟩) (λ_ _ _ _ n=>n)
  (λb o hc e=>⟨o,k b o (λz=>hc (by simp[z])) e⟩) (λ_ _ e=>e) (λ_ _ _ e=>e) (λb ps e=>⟨#[],by rw[e];simp⟩) (λm f=>?_) (λb u e=>?_) I.bare
 ·have e:b=it:=by simpa using h
  subst e;exact⟨h1,d,h2,i⟩
 ·obtain⟨o,es,ep,g,r⟩:=f;exact⟨o,es,ep,k _ o (Ne.symm d) g,r⟩
 ·refine(I.hok b u e).stay (λc v hc q=>k c v ?_ q) (λ_ q=>q) λ_ _ q=>q;rcases hc with z|z
  ·rw[z];exact a b u e
  ·exact a c _ z
theorem Inv.tok(I:Inv X ag σ H s)(t:Nat):Inv X ag σ H {s with toks:=t}:=I.un (h':=s.heap) (t':=t) Un.refl I.hok
theorem Inv.kept{t':Nat}(I:Inv X ag σ H s)(k:∀b u,s.heap.get? b=Z u->h'.get? b=Z u):Inv X ag σ H {s with heap:=h',toks:=t'}:=I.un (Un.kept k) (I.hok.kept k)
theorem Inv.laid{a:da}{o:HO}{t':Nat}(I:Inv X ag σ H s)(k:∀ b u,s.heap.get? b=some u->h'.get? b=some u)(hp:s.heap.objs.size<=a)(new:eI X.prog X.w (upd H a o) h' a o):
  Inv X ag σ (upd H a o) {s with heap:=h',toks:=t'}:=I.un (Un.laid k hp (I.hok.fresh hp)) (I.hok.laid k hp new)
theorem Inv.write{x e:da}{o:HO}{t':Nat}(I:Inv X ag σ H s)(mu:HN (H x))(he:e=x\/H e=Z (.own x))(k:∀ b u,b≠e->s.heap.get? b=Z u->h'.get? b=Z u)(a:∃ u,h'.get? e=Z u)(new:eI X.prog X.w (upd H x o) h' x o):Inv X ag σ (upd H x o) {s with heap:=h',toks:=t'}:=I.un (Un.write mu he k a) (I.hok.write mu he k a new)
theorem Inv.pins_of{a:List (da×Obj)}(I:Inv X ag σ H s)(h:∀p∈a,s.heap.get? p.1=Z p.2/\H p.1=Y/\p.1≠X.env.locals/\p.1∉X.fs /\ ∀v,p.2.data ≠ .cell v):Inv X a σ H s:=
 ⟨I.ok,I.os,I.bare,I.base,I.loc,I.cell,I.free,I.freeC,λp b=>(aF.mp b).elim (λz=>I.pin p (aG _ z)) (h p),I.hok,I.len⟩
theorem tD{N:List Str}(hN:N.Nodup){i j:Nat}{x:Str}(a:N[i]?=Z x)(b:N[j]?=Z x):i=j:=by
 obtain⟨h1,d⟩:=gE1.mp a;obtain⟨h2,c⟩:=gE1.mp b;exact(List.getElem_inj hN).mp (d.trans c.symm)
theorem xu{aq:Model}{A:de}{E:c8->c9->Prop}{i:Nat}{x:Str}{v:V}{u:c8}{Q:Unit->c9->Prop}(I:Inv X ag σ H s)(hN:X.N.Nodup)(hi:X.N[i]? = Z x)(hx:yw X.env.scope x)(r:dN v u)(h:∀s',Inv X ag (σ.set i (Z v)) H s'->(∃a,Heap.SameBut a s.heap s'.heap/\(a=X.env.locals\/X.env.cells.lookup x=Z a))->Q () s')(hf:X.fn x=M\/X.env.scope.names.lookup x=Z .local):dj aq A (storeName X.env x u) Q E s:=by
 obtain⟨m,T,hl⟩:=id I.loc;have N:(X.env.scope.kind == .class||(X.env.scope.kind == .module&&X.env.locals != X.env.globals))=J:=by rw[I.ok.kind];rfl
 have w:i<σ.length:=by rw[I.len];exact(gE1.mp hi).1
 have cne:=I.cne;have tracked:∀{a:da} {h':dk},(∃o,s.heap.get? a=Z o/\H a=Y)->Heap.SameBut a s.heap h'->kM X.prog X.w H h':=λ{a h'} ha f b ob e=>by
  obtain⟨_,_,l⟩:=ha;refine(I.hok b ob e).stay (λc P hc q=>(f.2 c ?_).trans q) (λ_ q=>q) λ_ _ q=>q;rintro rfl;rcases hc with rfl|hc
  ·rw[l]at e;cases e
  ·rw[l]at hc;cases hc
 rcases hx with B|B
 ·refine wpAny_storeName_local B T (λh' hn' f=>?_) N;obtain⟨oL,_,_,hoL,_⟩:=id T;refine h _ ⟨I.ok,I.os,I.bare,⟨λb o e n D hx=>?_,λb o e n D hx=>?_,I.base.free,λb o e hx=>?_,I.base.tups,I.base.frzs,I.base.tbls⟩,⟨_,hn',λj y W g t wq=>?_⟩,λy c e=>?_,I.free,I.freeC,λp U=>?_,tracked ⟨oL,hoL,I.free⟩ f,by simpa using I.len⟩ ⟨_,f,.inl O⟩
  ·exact(f.2 b (nN1 (nL1 (hL1 e) I.ok.above))).trans (I.base.keep b o e n D hx)
  ·obtain⟨sl,g⟩:=I.base.slot b o e n D hx;exact⟨sl,(f.2 b (nN1 (nL1 (hL1 e) I.ok.above))).trans g⟩
  ·obtain⟨o',g⟩:=I.base.there b o e hx;exact⟨o',(f.2 b (nN1 (nL1 (hL1 e) I.ok.above))).trans g⟩
  ·by_cases C:j=i
   ·subst C;rw[hi]at g;cases g;rw[aH w]at t;cases t;exact⟨u,r,.inl ⟨B,by simp⟩⟩
   ·rw[gS1 (Ne.symm C)]at t;obtain⟨ar,R,q⟩:=hl j y W g t wq;refine⟨ar,R,?_⟩;rcases q with⟨k,e⟩|⟨k,c,e,z⟩
    ·refine .inl ⟨k,?_⟩;have:y≠x:=λe=>C (tD hN g (e ▸ hi));simp[this,e]
    ·exact .inr ⟨k,c,e,z.sameBut f (cne y c e)⟩
  ·obtain⟨P,z⟩:=I.cell y c e;exact⟨P,z.sameBut f (cne y c e)⟩
  ·obtain⟨e,n,ne,S,d⟩:=I.pin p U;exact⟨(f.2 p.1 ne).trans e,n,ne,S,d⟩
 ·have F:X.fn x=true:=by
   rcases hf with z|z
   ·exact z
   ·rw[z]at B;cases B
  obtain⟨c,hc⟩:=I.ok.has x (.inl B);obtain⟨P,z⟩:=I.cell x c hc;refine wpAny_storeName_cell I.ok.kind B hc z (λh' K f=>?_);obtain⟨oc,L,ao⟩:=id z;refine h {s with heap:=h'} ⟨I.ok,I.os,I.bare,⟨λb o e n D hx=>?_,λb o e n D hx=>?_,I.base.free,λb o e hx=>?_,I.base.tups,I.base.frzs,I.base.tbls⟩,⟨m,T.sameBut f (Ne.symm (cne x c hc)),λj y W g t wq=>?_⟩,λy au e=>?_,I.free,I.freeC,λp U=>?_,tracked ⟨oc,L,I.freeC x c hc⟩ f,by simpa using I.len⟩ ⟨c,f,.inr hc⟩
  ·exact(f.2 b (nN1 (nL1 (hL1 e) (I.ok.cab x c F hc)))).trans (I.base.keep b o e n D hx)
  ·obtain⟨sl,g⟩:=I.base.slot b o e n D hx;exact⟨sl,(f.2 b (nN1 (nL1 (hL1 e) (I.ok.cab x c F hc)))).trans g⟩
  ·obtain⟨o',g⟩:=I.base.there b o e hx;exact⟨o',(f.2 b (nN1 (nL1 (hL1 e) (I.ok.cab x c F hc)))).trans g⟩
  ·by_cases C:j=i
   ·subst C;rw[hi]at g;cases g;rw[aH w]at t;cases t;exact⟨u,r,.inr ⟨.inl B,c,hc,K⟩⟩
   ·rw[gS1 (Ne.symm C)]at t;obtain⟨ar,R,q⟩:=hl j y W g t wq;refine⟨ar,R,?_⟩;rcases q with q|⟨k,au,e,z'⟩
    ·exact .inl q
    ·refine .inr ⟨k,au,e,z'.sameBut f ?_⟩;rintro rfl;exact C (tD hN g (I.ok.inj _ _ _ e hc ▸ hi))
  ·by_cases G:au=c
   ·subst G;exact⟨_,K⟩
   ·obtain⟨w2,z2⟩:=I.cell y au e;exact⟨w2,z2.sameBut f G⟩
  ·obtain⟨e,n,ne,S,d⟩:=I.pin p U;refine⟨(f.2 p.1 ?_).trans e,n,ne,S,d⟩;intro q;rw[q,L]at e;have q':oc=p.2:=Option.some.inj e;exact d P (by rw[<- q'];exact ao)
theorem kT{aq:Model}{A:de}{E:c8->c9->Prop}{i:Nat}{x:Str}{v:V}{u:c8}{Q:Unit->c9->Prop}(I:Inv X ag σ H s)(hN:X.N.Nodup)(hi:X.N[i]? = Z x)(hx:yw X.env.scope x)(r:dN v u)(h:∀s',Inv X ag (σ.set i (Z v)) H s'->Q () s')(hf:X.fn x=M\/X.env.scope.names.lookup x=Z .local):dj aq A (storeName X.env x u) Q E s:=
 xu I hN hi hx r (λs' a _=>h s' a) hf
theorem Inv.call'{s':c9}{ch:List da}(I:Inv X ag σ H s)(ho:s'.os=s.os)(u:Un (frs X.stack) ch H H' s.heap s'.heap)(d:kM X.prog X.w H' s'.heap)(hg:AllBare s'.gens)(a:∀b∈ch,(b∈X.ex\/X.s₀.heap.objs.size<=b)/\b≠X.env.locals/\(∀x c,X.env.cells.lookup x=Z c->c≠b) /\ ∀p∈X.pn++ag,p.1≠b):Inv X ag σ H' s':=by
 obtain⟨h',f,g,h,o'⟩:=s';have e:o'=s.os:=ho;subst e;exact I.call (g':=f) (t':=h) (d':=g) u d hg a
end
abbrev XK:=c8->Option da->Hp->Prop
abbrev St:=List (Option V)
abbrev VK:=V->Hp->Prop
abbrev TE:=St->Hp->VK->Prop
abbrev TT:=St->Hp->(Bool->Hp->Prop)->Prop
abbrev TA:=St->Hp->(List V->Hp->Prop)->Prop
structure jR where
 nx:St->Hp->Prop
 rt:VK
 bk:St->Hp->Prop:=λ_ _=>False
 ct:St->Hp->Prop:=λ_ _=>False
abbrev TS:=jR->St->Hp->Prop
def EP(X:Cx)(ag:List (da×Obj))(σ:St)(Q:VK)(u:c8)(s':c9):Prop:=∃v H',Inv X ag σ H' s'/\dN v u/\Q v H'
def TP(X:Cx)(ag:List (da×Obj))(σ:St)(Q:Bool->Hp->Prop)(b:Bool)(s':c9):Prop:=∃H',Inv X ag σ H' s'/\Q b H'
def AP(X:Cx)(ag:List (da×Obj))(σ:St)(Q:List V->Hp->Prop)(us:List c8)(s':c9):Prop:=∃vs H',Inv X ag σ H' s'/\dY vs us/\Q vs H'
def SP(X:Cx)(ag:List (da×Obj))(D:jR)(f:Flow)(s':c9):Prop:=
 match f with
 | .next=>∃ σ' H',Inv X ag σ' H' s'/\D.nx σ' H'
 | .brk=>∃ σ' H',Inv X ag σ' H' s'/\D.bk σ' H'
 | .cont=>∃ σ' H',Inv X ag σ' H' s'/\D.ct σ' H'
 | .ret u=>∃v σ' H',Inv X ag σ' H' s'/\dN v u/\D.rt v H'
def PE(X:Cx)(e:Expr)(t:TE):Prop:=
 ∀(ag:List (da×Obj)) (s:c9) (σ:St) (H:Hp) (Q:VK),Inv X ag σ H s->t σ H Q->dj (model X.prog X.w) X.A (eval e X.env) (EP X ag σ Q) X.xe s
def PT(X:Cx)(e:Expr)(t:TT):Prop:=
 ∀(ag:List (da×Obj)) (s:c9) (σ:St) (H:Hp) (Q:Bool->Hp->Prop),Inv X ag σ H s->t σ H Q->dj (model X.prog X.w) X.A (isTrue e X.env (eval e X.env)) (TP X ag σ Q) X.xe s
def PW(X:Cx)(e:Expr)(t:TT):Prop:=
 ∀(whole:Sem c8) (ag:List (da×Obj)) (s:c9) (σ:St) (H:Hp) (Q:Bool->Hp->Prop),Inv X ag σ H s->t σ H Q->dj (model X.prog X.w) X.A (isTrue e X.env whole) (TP X ag σ Q) X.xe s
theorem PW.pt{X:Cx}{e:Expr}{t:TT}(h:PW X e t):PT X e t:=h _
def PA(X:Cx)(es:List Expr)(t:TA):Prop:=
 ∀(pos:Pos) (ag:List (da×Obj)) (s:c9) (σ:St) (H:Hp) (Q:List V->Hp->Prop),Inv X ag σ H s->t σ H Q->dj (model X.prog X.w) X.A (spliced (backTo pos (dh es X.env))) (AP X ag σ Q) X.xe s
def PS(X:Cx)(st:dn)(t:TS):Prop:=
 ∀(ag:List (da×Obj)) (s:c9) (σ:St) (H:Hp) (D:jR),Inv X ag σ H s->t D σ H->dj (model X.prog X.w) X.A (exec st X.env) (SP X ag D) X.xe s
def uC(X:Cx)(st:List dn)(t:TS):Prop:=
 ∀(ag:List (da×Obj)) (s:c9) (σ:St) (H:Hp) (D:jR),Inv X ag σ H s->t D σ H->dj (model X.prog X.w) X.A (execs st X.env) (SP X ag D) X.xe s
theorem eY{α:Type}{t:Sem α}{Q b:α->c9->Prop}{aq:Model}{A:de}{E:c8->c9->Prop}{s:c9}(h:dj aq A t Q E s)(c:∀a s,Q a s->b a s):dj aq A t b E s:=wpAny_mono h c λ_ _ x=>x
end L2
namespace L2
open PySem PySem.Spec PyProof.Rows
section
variable{X:Cx}
theorem MN{a b:Expr}{ta tb:TE}(ha:PE X a ta)(hb:PE X b tb){ag:List (da×Obj)}{s:c9}{σ:St}{H:Hp}{R:V->V->Hp->Prop}(I:Inv X ag σ H s)(h:ta σ H fun x H1=>tb σ H1 fun y H2=>R x y H2){α:Type}{Q:α->c9->Prop}{f:c8->c8->Sem α}(hf:∀v u e x y H2,Inv X ag σ H2 e->dN x v->dN y u->R x y H2->dj (model X.prog X.w) X.A (f v u) Q X.xe e):
  dj (model X.prog X.w) X.A (eval a X.env) (λv c=>dj (model X.prog X.w) X.A (eval b X.env) (λu d=>dj (model X.prog X.w) X.A (f v u) Q X.xe d) X.xe c) X.xe s:=by
 refine eY (ha ag s σ H _ I h) λv i ⟨x,H1,j,m,g⟩=>?_;refine eY (hb ag i σ H1 _ j g) λu e ⟨y,H2,l,r2,k⟩=>?_;exact hf v u e x y H2 l m r2 k
def Kx(i:Nat):TE:=fun σ H Q=>∃v,σ[i]?=Z (Z v)/\Q v H
def tC(v:V):TE:=λ_ H Q=>Q v H
theorem FX {i:Nat}{x:Str}{pos:Pos}(hN:X.N[i]?=Z x)(hv:Ed X.env.scope x)(hd:(x == ("__debug__":Str))=J)(hcd:(x == ("__classdict__":Str))=J):PE X (.Name x pos) (Kx i):=by
 intro ag s σ H Q I h;obtain⟨v,e,h⟩:=h;obtain⟨m,j,f⟩:=I.loc;obtain⟨u,r,l⟩:=f i x v hN e hv;have d:EP X ag σ Q u s:=⟨v,H,I,r,h⟩;rcases l with⟨b,g⟩|⟨b,c,hc,a⟩
 ·exact wpAny_Name (wpAny_loadName_local I.ok.kind b j g d) hd
 ·rcases b with b|b
  ·exact wpAny_Name (wpAny_loadName_cell I.ok.kind b hc a d) hd
  ·exact wpAny_Name (wpAny_loadName_free I.ok.kind b hc a d hcd) hd
theorem F5{i j pos}:PE X (.Constant (.int i) j pos) (tC (.int i)):=λ_ _ _ H _ I h=>wpAny_Constant_int ⟨.int i,H,I.tok _,⟨_,O⟩,h⟩
theorem IQ{b j pos}:PE X (.Constant (.bool b) j pos) (tC (.bl b)):=λ_ _ _ H _ I h=>Constant_bool ⟨.bl b,H,I,O,h⟩
theorem F3{j pos}:PE X (.Constant .none j pos) (tC .non):=λ_ _ _ H _ I h=>Constant_none ⟨.non,H,I,O,h⟩
theorem FZ{x j pos}:PE X (.Constant (.str x) j pos) (tC (.str x)):=λ_ _ _ H _ I h=>Calls.Constant_str ⟨.str x,H,I.tok _,⟨_,O⟩,h⟩
def Gl(X:Cx)(x:Str):Prop:=X.env.kindOf x=Z .globalImplicit
theorem wF {E:c8->c9->Prop}{ag:List (da×Obj)}{s:c9}{σ:St}{H:Hp}{x:Str}{u:c8}{pos:Pos}{Q:c8->c9->Prop}(I:Inv X ag σ H s)(hg:Gl X x)(hm:X.mg x=some u)(h:Q u s)
  (hd:(x == ("__debug__":Str))=J):dj (model X.prog X.w) X.A (eval (.Name x pos) X.env) Q E s:=
 Calls.Name_function_global I.ok.kind hg (Calls.loadGlobal_global (by rw[I.ok.glob];exact I.mod.glob.keeps I.bk) hm h) hd
theorem jD {E:c8->c9->Prop}{ag:List (da×Obj)}{s:c9}{σ:St}{H:Hp}{x:Str}{u:c8}{pos:Pos}{Q:c8->c9->Prop}(I:Inv X ag σ H s)(hg:Gl X x)(hm:X.mg x=none)(hv:bootBuiltins x=some u)(h:Q u s)
  (hn:x≠"__name__":=by decide) (hd:(x == ("__debug__":Str))=J:=by decide):dj (model X.prog X.w) X.A (eval (.Name x pos) X.env) Q E s:=by
 obtain⟨a,h1,h2⟩:=I.mod.blt;exact Calls.Name_function_global I.ok.kind hg (Calls.loadGlobal_builtin (by rw[I.ok.glob];exact I.mod.glob.keeps I.bk) hm (by rw[I.ok.blt];exact h1.keeps I.bk) ((h2 x hn).trans hv) h) hd
theorem CM {x:Str}{v:V}{u:c8}{pos:Pos}(hg:Gl X x)(hm:X.mg x=Z u)(r:dN v u)(hd:(x == ("__debug__":Str))=J):PE X (.Name x pos) (tC v):=
 λ_ _ _ H _ I h=>wF I hg hm ⟨v,H,I,r,h⟩ hd
theorem CQ {x:Str}{v:V}{u:c8}{pos:Pos}(hg:Gl X x)(hm:X.mg x=Y)(hv:bootBuiltins x=Z u)(r:dN v u)(hn:x≠"__name__")(hd:(x == ("__debug__":Str))=J):PE X (.Name x pos) (tC v):=
 λ_ _ _ H _ I h=>jD I hg hm hv ⟨v,H,I,r,h⟩ hn hd
variable{a b:Expr}{ta tb:TE}{pos:Pos}
def tB(t:TE):TT:=fun σ H Q=>t σ H λx H1=>∃c,x = .bl c/\Q c H1
variable{tA tB':TT}{rest:List Expr}
def KL(t u:TT):TT:=fun σ H Q=>t σ H λc H1=>if c=M then u σ H1 Q else Q J H1
def L1(t u:TT):TT:=fun σ H Q=>t σ H λc H1=>if c=M then Q M H1 else u σ H1 Q
def KC(t:TT):TT:=fun σ H Q=>t σ H λc H1=>Q (!c) H1
theorem Ct(ha:PT X a tA):PW X (.BoolOp .And [a] pos) tA:=by
 intro d ag s σ H Q I h;refine isTrue_and (eY (ha ag s σ H Q I h) λc b e=>?_);cases c with
 |true=>exact isTrue_and_nil e
 |false=>exact e
theorem Fy(ha:PT X a tA):PW X (.BoolOp .Or [a] pos) tA:=by
 intro d ag s σ H Q I h;refine isTrue_or (eY (ha ag s σ H Q I h) λc b e=>?_);cases c with
 |false=>exact isTrue_or_nil e
 |true=>exact e
theorem Fz(ha:PT X a tA)(hb:PW X (.BoolOp .And (b::rest) pos) tB'):PW X (.BoolOp .And (a::b::rest) pos) (KL tA tB'):=by
 intro f ag s σ H Q I h;refine isTrue_and (eY (ha ag s σ H _ I h) λc g ⟨H1,e,d⟩=>?_);cases c with
 |true=>exact hb f ag g σ H1 Q e d
 |false=>exact⟨H1,e,d⟩
theorem IG(ha:PT X a tA)(hb:PW X (.BoolOp .Or (b::rest) pos) tB'):PW X (.BoolOp .Or (a::b::rest) pos) (L1 tA tB'):=by
 intro f ag s σ H Q I h;refine isTrue_or (eY (ha ag s σ H _ I h) λc g ⟨H1,e,d⟩=>?_);cases c with
 |true=>exact⟨H1,e,d⟩
 |false=>exact hb f ag g σ H1 Q e d
theorem FC(ha:PT X a tA):PT X (.UnaryOp .Not a pos) (KC tA):=by
 intro ag s σ H Q I h;exact isTrue_not (ha ag s σ H (λc H1=>Q (!c) H1) I h)
def Ip(ta tb:TE):TE:=fun σ H Q=>ta σ H λx H1=>∃c,x = .bl c/\if c=M then tb σ H1 Q else Q (.bl J) H1
def Ii(ta:TE):TE:=fun σ H Q=>ta σ H λx H1=>∃c,x = .bl c/\Q (.bl (!c)) H1
theorem F1{op}{t:TE}(h:PE X a t):PE X (.BoolOp op [a] pos) t:=λag s σ H Q I b=>BoolOp_one (h ag s σ H Q I b)
theorem F7(ha:PE X a ta)(hb:PE X (.BoolOp .And (b::rest) pos) tb):PE X (.BoolOp .And (a::b::rest) pos) (Ip ta tb):=by
 intro ag s σ H Q I h;refine BoolOp_and (eY (ha ag s σ H _ I h) λv g ⟨x,H1,e,f,d⟩=>?_);obtain⟨c,rfl,d⟩:=d;cases f;refine wpAny_truthy_bool ?_;cases c with
 |true=>exact hb ag g σ H1 Q e d
 |false=>exact⟨.bl J,H1,e,O,d⟩
theorem F2(ha:PE X a ta):PE X (.UnaryOp .Not a pos) (Ii ta):=by
 intro ag s σ H Q I h;refine UnaryOp_ (eY (ha ag s σ H _ I h) λv f ⟨x,H1,d,e,b⟩=>?_);obtain⟨c,rfl,b⟩:=b;cases e;exact not_of (wpAny_truthy_bool ⟨.bl (!c),H1,d,O,b⟩)
def L5(t:TT)(ta tb:TE):TE:=fun σ H Q=>t σ H λc H1=>if c=M then ta σ H1 Q else tb σ H1 Q
theorem zS{c:Expr}(hc:PT X c tA)(ha:PE X a ta)(hb:PE X b tb):PE X (.IfExp c a b pos) (L5 tA ta tb):=by
 intro ag s σ H Q I h;refine wpAny_IfExp (eY (hc ag s σ H _ I h) λd g ⟨H1,f,e⟩=>?_);cases d with
 |true=>exact ha ag g σ H1 Q f e
 |false=>exact hb ag g σ H1 Q f e
end
end L2
namespace L2
open PySem PySem.Spec PyProof.Rows
def lP(K:Fg1)(H:Hp)(a:da)(xs:List V):Prop:=
 Rd H a (.lst xs) \/
  ∃(o:Obj) (its:Array c8) (n:Nat),K.lookup a=Z o/\o.cls = .type "list"/\o.dict=Y/\o.data = .seq its n/\its.size<=di/\dY xs its.toList
def jP(K:Fg1)(H:Hp)(a:da)(xs:List V):Prop:=
 Rd H a (.tup xs) \/
  ∃(o:Obj) (its:Array c8) (n:Nat),K.lookup a=Z o/\o.cls = .type "tuple"/\o.data = .seq its n/\its.size<=di/\dY xs its.toList
def Lq:c8->Option V
 | .none=>Z .non
 | .bool b=>Z (.bl b)
 | .int i _=>Z (.int i)
 | .str x _=>Z (.str x)
 | .bytes b _=>Z (.byt b)
 | .float b _=>Z (.flt b)
 | .ref a=>Z (.ref a)
 | .type n=>Z (.ty n)
 |_=>Y
theorem dN.abs{x:V}{u:c8}(r:dN x u):Lq u=Z x:=by
 cases x with
 |non=>cases r;rfl
 |bl _=>cases r;rfl
 |int _=>obtain⟨t,rfl⟩:=r;rfl
 |str _=>obtain⟨t,rfl⟩:=r;rfl
 |byt _=>obtain⟨t,rfl⟩:=r;rfl
 |flt _=>obtain⟨t,rfl⟩:=r;rfl
 |ref _=>cases r;rfl
 |ty _=>cases r;rfl
theorem dN.inj{x y:V}{u:c8}(r:dN x u)(q:dN y u):x=y:=Option.some.inj (r.abs.symm.trans q.abs)
theorem dY.inj:∀{xs ys:List V} {a:List c8},dY xs a->dY ys a->xs=ys:=by
 intro xs ys a h g
 induction h generalizing ys with
 |nil=>cases g;rfl
 |cons r t ih=>cases g with
  |cons c b=>rw[r.inj c,ih b]
section
variable{X:Cx}{ag:List (da×Obj)}{σ:St}{H:Hp}{s:c9}{a:da}{xs ys:List V}
theorem lP.of{K:Fg1}(h:H a=Z (.lst xs)):lP K H a xs:=.inl (.inl h)
theorem jP.of{K:Fg1}(h:H a=Z (.tup xs)):jP K H a xs:=.inl (.inl h)
theorem Inv.list(I:Inv X ag σ H s)(h:lP X.K H a xs):∃b:List c8,dY xs b/\PlainL s.heap a b.toArray/\xs.length<=di:=by
 rcases h with h|⟨o,b,n,f,hc,c,d,g,r⟩
 ·obtain⟨z,b,n,r,e⟩:=h.ok I.hok;exact⟨b,r,⟨_,n,e,O,O,O⟩,z⟩
 ·refine⟨b.toList,r,⟨o,n,I.kIn a o f,hc,c,by simpa using d⟩,?_⟩;have e:=r.length;simp only[aI]at e;lia
theorem Inv.tuple(I:Inv X ag σ H s)(h:jP X.K H a xs):∃b:List c8,dY xs b/\IsTup s.heap a b.toArray/\xs.length<=di:=by
 rcases h with h|⟨o,b,n,d,hc,c,f,r⟩
 ·obtain⟨z,b,r,p⟩:=h.ok I.hok;exact⟨b,r,p,z⟩
 ·refine⟨b.toList,r,⟨o,I.kIn a o d,hc,n,by simpa using c⟩,?_⟩;have e:=r.length;simp only[aI]at e;lia
theorem Inv.list_inj(I:Inv X ag σ H s)(h:lP X.K H a xs)(h':lP X.K H a ys):xs=ys:=by
 obtain⟨b,r,⟨o,n,e,_,_,d⟩,_⟩:=I.list h;obtain⟨its',g,⟨o',j,f,_,_,c⟩,_⟩:=I.list h';rw[e]at f;cases f;rw[d]at c;injection c with i _;have:b=its':=by simpa using congrArg Array.toList i
 subst this;exact r.inj g
theorem Inv.tuple_inj(I:Inv X ag σ H s)(h:jP X.K H a xs)(h':jP X.K H a ys):xs=ys:=by
 obtain⟨b,r,⟨o,e,_,n,d⟩,_⟩:=I.tuple h;obtain⟨its',g,⟨o',f,_,j,c⟩,_⟩:=I.tuple h';rw[e]at f;cases f;rw[d]at c;injection c with i _;have:b=its':=by simpa using congrArg Array.toList i
 subst this;exact r.inj g
end
abbrev Cx.wish(X:Cx)(E:c8->c9->Prop):Cx:={X with xe:=E}
abbrev Cx.nox(X:Cx):Cx:=X.wish λ_ _=>False
theorem Cx.Ok.wish{X:Cx}(ok:X.Ok)(E:c8->c9->Prop):(X.wish E).Ok:=
 ⟨ok.mod,ok.kind,ok.glob,ok.blt,ok.above,ok.inj,ok.has,ok.cab,ok.hd,ok.frames,ok.stk,ok.exf,ok.bs,ok.bsz,ok.noex,ok.exfs,ok.funs,ok.frf⟩
theorem Cx.Ok.unwish{X:Cx}{E:c8->c9->Prop}(ok:(X.wish E).Ok):X.Ok:=
 ⟨ok.mod,ok.kind,ok.glob,ok.blt,ok.above,ok.inj,ok.has,ok.cab,ok.hd,ok.frames,ok.stk,ok.exf,ok.bs,ok.bsz,ok.noex,ok.exfs,ok.funs,ok.frf⟩
section
variable{X:Cx}{ag:List (da×Obj)}{σ:St}{H:Hp}{s:c9}{E:c8->c9->Prop}
theorem Inv.wish(I:Inv X ag σ H s)(E:c8->c9->Prop):Inv (X.wish E) ag σ H s:=⟨I.ok.wish E,I.os,I.bare,I.base,I.loc,I.cell,I.free,I.freeC,I.pin,I.hok,I.len⟩
theorem Inv.unwish(I:Inv (X.wish E) ag σ H s):Inv X ag σ H s:=⟨I.ok.unwish,I.os,I.bare,I.base,I.loc,I.cell,I.free,I.freeC,I.pin,I.hok,I.len⟩
theorem SP.unwish{D:jR}{f:Flow}{s':c9}(h:SP (X.wish E) ag D f s'):SP X ag D f s':=by
 cases f with
 |next=>obtain⟨a,H',I,q⟩:=h;exact⟨a,H',I.unwish,q⟩
 |brk=>obtain⟨a,H',I,q⟩:=h;exact⟨a,H',I.unwish,q⟩
 |cont=>obtain⟨a,H',I,q⟩:=h;exact⟨a,H',I.unwish,q⟩
 |ret u=>obtain⟨v,a,H',I,r,q⟩:=h;exact⟨v,a,H',I.unwish,r,q⟩
theorem uC.nox{st:List dn}{t:TS}(h:uC X.nox st t):uC X st t:=λag s σ H D I a=>
 wpAny_mono (h ag s σ H D (I.wish _) a) (λ_ _ q=>q.unwish) λ_ _ z=>False.elim z
end
section
variable{X:Cx}{st:dn}{rest:List dn}{t u:TS}{e:Expr}{te:TE}{pos:Pos}
def Ij:TS:=λD σ H=>D.nx σ H
def Kz(t u:TS):TS:=λD σ H=>t {D with nx:=u D} σ H
theorem Cw:uC X [] Ij:=λ_ _ σ H _ I h=>wpAny_execs_nil ⟨σ,H,I,h⟩
theorem zJ(h1:PS X st t)(h2:uC X rest u):uC X (st::rest) (Kz t u):=by
 intro ag s σ H D I h;refine wpAny_execs_cons (eY (h1 ag s σ H {D with nx:=u D} I h) λf b q=>?_);cases f with
 |next=>
  obtain⟨a,H',c,q⟩:=q;exact h2 ag b a H' D c q
 |ret v=>exact q
 |brk=>exact q
 |cont=>exact q
theorem Cv(h1:PS X st t):uC X [st] t:=by
 intro ag s σ H D I h;refine wpAny_execs_cons (eY (h1 ag s σ H D I h) λf a q=>?_);cases f with
 |next=>exact wpAny_execs_nil q
 |ret v=>exact q
 |brk=>exact q
 |cont=>exact q
theorem Inv.quiet{ag:List (da×Obj)}{σ:St}{H:Hp}{s:c9}(I:Inv X ag σ H s):interactive X.env=J:=by simp[interactive,I.ok.kind]
def Im(te:TE):TS:=λD σ H=>te σ H λ_ H1=>D.nx σ H1
theorem Cy(he:PE X e te)(hs:swapsWith e Y pos.line X.env=pure J):PS X (.Expr e pos) (Im te):=by
 intro ag s σ H D I h;exact wpAny_Expr_any (eY (he ag s σ H _ I h) λv d ⟨x,H1,b,c,a⟩=>⟨σ,H1,b,a⟩) I.quiet hs
def KA(te:TE):TS:=λD σ H=>te σ H D.rt
theorem FF(he:PE X e te):PS X (.Return (Z e) pos) (KA te):=by
 intro ag s σ H D I h;exact wpAny_Return_some (eY (he ag s σ H _ I h) λv d ⟨x,H1,b,c,a⟩=>⟨x,σ,H1,b,c,a⟩)
def KI(c:TT)(t u:TS):TS:=λD σ H=>c σ H λb H1=>if b=M then t D σ H1 else u D σ H1
theorem II{c:Expr}{a b:List dn}{tc:TT}(hc:PT X c tc)(ha:uC X a t)(hb:uC X b u):PS X (.If c a b pos) (KI tc t u):=by
 intro ag s σ H D I h;refine wpAny_If (eY (hc ag s σ H _ I h) λd g ⟨H1,f,e⟩=>?_);cases d with
 |true=>exact ha ag g σ H1 D f e
 |false=>exact hb ag g σ H1 D f e
end
abbrev TG:=V->St->Hp->(St->Hp->Prop)->Prop
abbrev EZ:=List V->St->Hp->(St->Hp->Prop)->Prop
def PG(X:Cx)(target:Expr)(t:TG):Prop:=
 ∀(ag:List (da×Obj)) (s:c9) (σ:St) (H:Hp) (v:V) (u:c8) (Q:St->Hp->Prop),Inv X ag σ H s->dN v u->t v σ H Q ->
  dj (model X.prog X.w) X.A (assign target X.env u) (λ_ s'=>∃ σ' H',Inv X ag σ' H' s'/\Q σ' H') X.xe s
def HL(X:Cx)(ts:List Expr)(t:EZ):Prop:=
 ∀(ag:List (da×Obj)) (s:c9) (σ:St) (H:Hp) (vs:List V) (us:List c8) (Q:St->Hp->Prop),Inv X ag σ H s->dY vs us->t vs σ H Q ->
  dj (model X.prog X.w) X.A (assignInOrder ((assignEach ts X.env).map (·.2)) us) (λ_ s'=>∃ σ' H',Inv X ag σ' H' s'/\Q σ' H') X.xe s
abbrev HK:=V->V->V->Hp->(Hp->Prop)->Prop
def vF(X:Cx)(t:HK):Prop:=
 ∀(ag:List (da×Obj)) (s:c9) (σ:St) (H:Hp) (o i v:V) (ov iv u:c8) (Q:Hp->Prop),Inv X ag σ H s->dN o ov->dN i iv->dN v u->t o i v H Q ->
  dj (model X.prog X.w) X.A (setItem ov iv u) (λ_ s'=>∃H',Inv X ag σ H' s'/\Q H') X.xe s
section
variable{X:Cx}{pos:Pos}
def wO(i:Nat):TG:=λv σ H Q=>Q (σ.set i (Z v)) H
theorem wg{i:Nat}{x:Str}(hN:X.N.Nodup)(hi:X.N[i]?=Z x)(hx:yw X.env.scope x)(hf:X.fn x=M\/X.env.scope.names.lookup x=Z .local):PG X (.Name x pos) (wO i):=by
 intro ag s σ H v u Q I r h;exact wpAny_assign_Name (kT I hN hi hx r (λs' a=>⟨_,H,a,h⟩) hf)
def La:EZ:=λvs σ H Q=>vs=[]/\Q σ H
def JF(t:TG)(u:EZ):EZ:=λvs σ H Q=>∃v r,vs=v::r/\t v σ H fun σ' H'=>u r σ' H' Q
theorem CL:HL X [] La:=by
 intro ag s σ H vs a Q I r h;obtain⟨e,h⟩:=h;subst e;cases r;exact assignInOrder_nil ⟨σ,H,I,h⟩
theorem zQ{e:Expr}{es:List Expr}{t:TG}{u:EZ}(h1:PG X e t)(h2:HL X es u)(hs:(assignEach (e::es) X.env).map (·.2)=assign e X.env::(assignEach es X.env).map (·.2)):HL X (e::es) (JF t u):=by
 intro ag s σ H vs i Q I r h;obtain⟨v,j,c,h⟩:=h;subst c;cases r with
 |cons r g=>
  rw[hs];refine assignInOrder_cons (eY (h1 ag s σ H _ _ _ I r h) λ_ d ⟨a,H1,f,b⟩=>?_);exact h2 ag d a H1 _ _ Q f g b
def gTup(K:Fg1)(n:Nat)(t:EZ):TG:=λv σ H Q=>∃a xs,v = .ref a/\jP K H a xs/\xs.length=n/\t xs σ H Q
theorem FU{es:List Expr}{k:Nat}{t:EZ}{n:Nat}(hc:X.calm=M)(h:HL X es t)(hn:(assignEach es X.env).length=n)(hst:(assignEach es X.env).findIdx? (·.1)=Y):PG X (.Tuple es k pos) (gTup X.K n t):=by
 intro ag s σ H v u Q I r c;obtain⟨a,xs,i,g,l,c⟩:=c;subst i;cases r;obtain⟨p,d,f,q⟩:=I.tuple g;refine assign_Tuple_tuple (I.ok.hd hc) f (by simp[hn,<- l,d.length]) hst λh' j=>?_;have m:Inv X ag σ H {s with heap:=h'}:=I.kept (t':=s.toks) λb o e=>j b o (nN1 (hL1 e)) e;exact h ag _ σ H xs _ Q m (by simpa using d) c
def gSub(to ti:TE)(t:HK):TG:=λv σ H Q=>to σ H λo H1=>ti σ H1 λi H2=>t o i v H2 λH3=>Q σ H3
theorem FW{o i:Expr}{to c:TE}{t:HK}(ho:PE X o to)(hi:PE X i c)(hs:vF X t)(ha:∀v,assign (.Subscript o i pos) X.env v=(do
   let a<-holding [v] (eval o X.env)
   let b<-holding [v,a] (eval i X.env)
   standAt pos
   holding [v,a,b] (setItem a b v)
   release [v,a,b] [])):PG X (.Subscript o i pos) (gSub to c t):=by
 intro ag s σ H v u Q I r h;rw[ha];refine wB1 (wpAny_holding (eY (ho ag s σ H _ I h) λa f ⟨x,H1,g,p,d⟩=>?_));refine wB1 (wpAny_holding (eY (hi ag f σ H1 _ g d) λb j ⟨y,H2,n,r2,l⟩=>?_));refine wB1 (wpAny_standAt (wB1 (wpAny_holding (eY (hs ag j σ H2 x y v a b u _ n p r2 r l) λ_ q ⟨k,e,m⟩=>?_))));exact wpAny_release ⟨σ,k,e,m⟩
def zl(te:TE)(g:TG):TS:=λD σ H=>te σ H λx H1=>g x σ H1 D.nx
theorem FL{tg e:Expr}{te:TE}{g:TG}(he:PE X e te)(hg:PG X tg g)(hs:swapsWithSole [tg] e pos.line X.env=pure J)(hw:swappedStores [tg] e X.env=pure Y)(h1:(assignEach [tg] X.env).map (·.2)=[assign tg X.env]):PS X (.Assign [tg] e pos) (zl te g):=by
 intro ag s σ H D I h;refine wpAny_Assign_stores (eY (he ag s σ H _ I h) λv b ⟨x,H1,c,d,a⟩=>?_) hs hw;rw[h1];exact eY (hg ag b σ H1 x v _ c d a) λ_ f q=>q
theorem FD{i:Nat}{x:Str}{e:Expr}{te:TE}{pos':Pos}(hN:X.N.Nodup)(hi:X.N[i]? = some x)(hx:yw X.env.scope x)(he:PE X e te)(hs:swapsWith e (some (.Name x pos')) pos.line X.env=pure false)(hf:X.fn x=true\/X.env.scope.names.lookup x=some .local):
  PS X (.Assign [.Name x pos'] e pos) (zl te (wO i)):=by
 intro ag s σ H D I h;refine wpAny_Assign_Name (eY (he ag s σ H _ I h) λv f ⟨y,H1,b,d,a⟩=>?_) hs;exact kT b hN hi hx d (λg c=>⟨_,H1,c,a⟩) hf
def KB(i j:Nat)(ta:TA):TS:=λD σ H=>ta σ H λvs H1=>∃v w,vs=[v,w]/\D.nx ((σ.set i (Z v)).set j (Z w)) H1
theorem FH{i j:Nat}{x y:Str}{a b:Expr}{ta:TA}{k n pt:Pos}{kt k2 pt2}(hc:X.calm=true)(hN:X.N.Nodup)(hi:X.N[i]? = some x)(z:X.N[j]? = some y)(l:i≠j)(hx:X.env.scope.names.lookup x=some .local)(hy:X.env.scope.names.lookup y=some .local)(ha:PA X [a,b] ta)(hw:swappedStores [.Tuple [.Name x k,.Name y n] kt pt] (.Tuple [a,b] k2 pt2) X.env=pure (some [x,y]))(hs:swapsWithSole [.Tuple [.Name x k,.Name y n] kt pt] (.Tuple [a,b] k2 pt2) pos.line X.env=pure false):
  PS X (.Assign [.Tuple [.Name x k,.Name y n] kt pt] (.Tuple [a,b] k2 pt2) pos) (KB i j ta):=by
 intro ag s σ H D I h;rw[exec_Assign_arm];refine wB1 (wpAny_standAt ?_);rw[hs];refine wB1 (wP1 ?_);rw[aj (by decide)];refine wB1 (Tuple_ (eY (ha _ ag s σ H _ I h) λA c ⟨vs,H1,K,G,f⟩=>?_));obtain⟨v,w,t,f⟩:=f;subst t;obtain⟨d,u2,rfl,E,m⟩:∃d u2,A=[d,u2]/\dN v d/\dN w u2:=by
  cases G with
  |cons p q=>
   cases q with
   |cons B u=>
    cases u;exact⟨_,_,O,p,B⟩
 refine wO1 ?_ (by show 2<=di;decide);have F:Inv X ag σ H1 {c with heap:=c.heap.push {cls:=.type "tuple",data:=.seq [d,u2].toArray}}:=K.kept (t':=c.toks) λb o e=>hP1 _ e;rw[hw];refine wB1 (wP1 ?_);show dj (model X.prog X.w) X.A (do rule "assign.swapped-stores";let items<-unpackItems (.ref c.heap.objs.size) 2 Y;assignInOrder [λv=>bindName X.env y v,λv=>bindName X.env x v] items.reverse;pure Flow.next) _ _ _;refine wB1 (wpAny_rule (wB1 (unpackItems_tuple (items:= #[d,u2]) (I.ok.hd hc) (IsTup.new c.heap _) λh' g=>?_)));have C:=F.kept (h':=h') (t':=c.toks) λb o e=>g b o (nN1 (hL1 e)) e;show dj _ _ (assignInOrder [λv=>bindName X.env y v,λv=>bindName X.env x v] [u2,d] >>= λ_=>pure Flow.next) _ _ _;refine wB1 (assignInOrder_cons (wpAny_bindName (kT C hN z (.inl hy) m (λL ao=>?_) (.inr hy))));refine assignInOrder_cons (wpAny_bindName (kT ao hN hi (.inl hx) E (λaq r=>assignInOrder_nil (wP1 ?_)) (.inr hx)));rw[List.set_comm _ _ (Ne.symm l)]at r;exact⟨_,H1,r,f⟩
def zh(c:TT)(tb:TS):TS:=λD σ H=>∃W:Nat->St->Hp->Prop,(∃m,W m σ H) /\ ∀m σ H,W m σ H ->
 c σ H λb H1=>if b=M then∃N:St->Hp->Prop,(∀ σ' H',N σ' H' -> ∃m',m'<m/\W m' σ' H')/\tb {D with nx:=N,ct:=N,bk:=D.nx} σ H1 else D.nx σ H1
theorem zK{c:Expr}{e:List dn}{tc:TT}{tb:TS}(hp:PassesOwn (model X.prog X.w) X.A X.env X.xe)(hc:PT X c tc)(hb:uC X e tb):PS X (.While c e [] pos) (zh tc tb):=by
 intro ag s σ H D I h;obtain⟨W,⟨B,y⟩,j⟩:=h;refine wpAny_While (codeAny_whileLoop (λn s'=>∃g H',Inv X ag g H' s'/\W n g H') ?_ B ⟨σ,H,I,y⟩);rintro n z ⟨d,H1,A,w⟩;refine wpAny_passesOwn hp (eY (hc ag z d H1 _ A (j n d H1 w)) λb x ⟨H2,u,k⟩=>?_);cases b with
 |true=>
  obtain⟨N,t,k⟩:=k;rw[ak O];refine wpAny_passesOwn hp (eY (hb ag x d H2 _ u k) λf C l=>?_);cases f with
  |next=>
   obtain⟨a,i,p,q⟩:=l;obtain⟨m,r,o⟩:=t a i q;exact⟨m,r,a,i,p,o⟩
  |cont=>
   obtain⟨a,i,p,q⟩:=l;obtain⟨m,r,o⟩:=t a i q;exact⟨m,r,a,i,p,o⟩
  |brk=>exact l
  |ret v=>exact l
 |false=>
  rw[aj aJ];exact wpAny_execs_nil ⟨d,H2,u,k⟩
end
structure It where
 go:Nat->Hp->Prop
 yld:Nat->Hp->V->Hp->Prop
 stop:Nat->Hp->Prop
def kb(X:Cx)(ag:List (da×Obj))(H:Hp)(b:da):Prop:=
 H b=Y/\b≠X.env.locals/\b∉X.fs/\(b∈X.ex\/X.s₀.heap.objs.size<=b)/\(∀x c,X.env.cells.lookup x=Z c->c≠b) /\ ∀p∈X.pn++ag,p.1≠b
theorem Inv.fpOk{X:Cx}{ag:List (da×Obj)}{σ:St}{H H':Hp}{s:c9}{b:da}(I:Inv X ag σ H s)(hb:s.heap.objs.size<=b)(hn:H' b=Y):kb X ag H' b:=by
 refine⟨hn,nG1 (nL1 I.lt hb),I.nofs hb,.inr (aC I.sz hb),λx c e z=>?_,λp a z=>?_⟩
 ·obtain⟨v,q⟩:=I.cell x c e;exact absurd (nL1 q.lt (by rw[z];exact hb)) (az _)
 ·exact absurd (nL1 (hL1 (I.pin p a).1) (by rw[z];exact hb)) (az _)
structure vD (P:db)(w:df)(K:Fg1)(tg:Expr)(ao:It)(fp:List da)(it:da)(tn:Nat->dk->Prop):Prop where
 mem:it∈fp
 obj:∀i h,tn i h -> ∀b∈fp,∃o,h.get? b=some o /\ ∀v,o.data ≠ .cell v
 keep:∀i h h',tn i h->(∀b∈fp,∀o,h.get? b=some o->h'.get? b=some o)->tn i h'
 item:∀(X:Cx),X.prog=P->X.w=w->X.K=K->X.calm=true -> ∀(i:Nat) (ag:List (da×Obj)) (s:c9) (σ:St) (H:Hp) (E:c8->c9->Prop),Inv X ag σ H s->(∀b∈fp,kb X ag H b)->tn i s.heap->ao.go i H ->
  dj (model P w) X.A (pyNext (.ref it)) (λr s1=>∃u,r=some u /\
   dj (model P w) X.A (letOwnedTupleGo tg (.ref it) u) (λ_ s2=>∃x H',Inv X ag σ H' s2/\dN x u/\ao.yld i H x H'/\tn (i+1) s2.heap /\ ∀b∈fp,H' b=none) E s1) E s
 done:∀(X:Cx),X.prog=P->X.w=w->X.K=K->X.calm=true -> ∀(i:Nat) (ag:List (da×Obj)) (s:c9) (σ:St) (H:Hp) (E:c8->c9->Prop),Inv X ag σ H s->(∀b∈fp,kb X ag H b)->tn i s.heap->ao.stop i H ->
  dj (model P w) X.A (pyNext (.ref it)) (λr s1=>r=none/\Inv X ag σ H s1) E s
 self:∀(A:de) (i:Nat) (s:c9) (Q:c8->c9->Prop) (E:c8->c9->Prop),tn i s.heap->Q (.ref it) s->dj (model P w) A (pyIter (.ref it)) Q E s
abbrev TI:=St->Hp->(It->Hp->Prop)->Prop
def LR(X:Cx)(ag:List (da×Obj))(σ:St)(tg:Expr)(R:It->Hp->Prop)(itv:c8)(s2:c9):Prop:=
 ∃(it:da) (fp:List da) (tn:Nat->dk->Prop) (ao:It) (H':Hp),itv = .ref it/\Inv X ag σ H' s2/\vD X.prog X.w X.K tg ao fp it tn/\tn 0 s2.heap/\(∀b∈fp,kb X ag H' b)/\R ao H'
def PI(X:Cx)(tg iter:Expr)(wi:TI):Prop:=
 ∀(ag:List (da×Obj)) (s:c9) (σ:St) (H:Hp) (R:It->Hp->Prop),Inv X ag σ H s->wi σ H R ->
  dj (model X.prog X.w) X.A (eval iter X.env) (λv s1=>dj (model X.prog X.w) X.A (pyIter v) (LR X ag σ tg R) X.xe s1) X.xe s
theorem A1 {aq:Model}{A:de}{E:c8->c9->Prop}{s:c9}{tg:Expr}{it:da}{u:c8}{o:Obj}{n:String}{vs:Array c8}{Q:Unit->c9->Prop}(ho:s.heap.get? it=some o)(hc:o.cls = .type n)(hd:o.data = .fields vs)
   (hn:["enumerate","zip","dict_itemiterator","dict_reverseitemiterator","odict_iterator","itertools.zip_longest","itertools.pairwise"].contains n=J) (a:Q () s):dj aq A (letOwnedTupleGo tg (.ref it) u) Q E s:=by
 unfold letOwnedTupleGo;cases tg <;> first
   |exact wP1 a
   | (cases u<;>first
       |exact wP1 a
       | (refine wB1 (wpAny_load ho ?_)
          rw[hc,hd];show dj aq A (if(["enumerate","zip","dict_itemiterator","dict_reverseitemiterator","odict_iterator","itertools.zip_longest","itertools.pairwise"].contains n&&vs[0]? == Z (rawInt _))=M then _ else _) Q E s;rw[aj (by intro h;rw[hn,aK]at h;cases h)];exact wP1 a))
def LW(K:Fg1)(a:da):It:=
 ⟨λi H=>∃xs x,lP K H a xs/\xs[i]?=Z x,λi H x H'=>H'=H /\ ∀xs,lP K H a xs->xs[i]?=Z x,λi H=>∃xs,lP K H a xs/\xs.length<=i⟩
def LV(K:Fg1)(a:da):It:=
 ⟨λi H=>∃xs x,jP K H a xs/\xs[i]?=Z x,λi H x H'=>H'=H /\ ∀xs,jP K H a xs->xs[i]?=Z x,λi H=>∃xs,jP K H a xs/\xs.length<=i⟩
def Kb(lo:Int)(n:Nat):It:=⟨λi _=>i<n,λi H x H'=>H'=H/\x = .int (lo+i),λi _=>n<=i⟩
theorem xn{P:db}{w:df}{K:Fg1}{tg:Expr}(a it:da):vD P w K tg (LW K a) [it] it (λi h=>h.IsListIter it a i) where
 mem:=by simp
 obj:=λi h st b f=>by
  have e:b=it:=by simpa using f
  subst e;obtain⟨o,e,c,d⟩:=st;exact⟨o,e,λv z=>by rw[d]at z;cases z⟩
 keep:=λi h h' st k=>st.at λo e=>k it (by simp) o e
 item:=by
  intro X D F n hc i ag s σ H E I j st A;subst D F n;obtain⟨xs,x,l,y⟩:=A;obtain⟨q,C,p,L⟩:=I.list l;obtain⟨u,au,ao⟩:=C.get y;obtain⟨m,G,Q,B,t,r⟩:=j it (by simp);refine wpAny_pyNext_list_item st p.isList (x:=u) (by simpa using au) λh' g N=>?_;have R:Inv X ag σ H {s with heap:=h'}:=I.turned (t':=s.toks) (λb o f e=>(N.2 b f).trans e) m G B t r;obtain⟨o,e,c,d⟩:=id g;exact⟨u,O,A1 (s:={s with heap:=h'}) e c d (by decide) ⟨x,H,R,ao,⟨O,λys aq=>by rw[I.list_inj aq l];exact y⟩,g,λb f=>(j b f).1⟩⟩
 done:=by
  intro X D F n hc i ag s σ H E I j st A;subst D F n;obtain⟨xs,l,y⟩:=A;obtain⟨q,C,p,L⟩:=I.list l;obtain⟨m,G,Q,B,t,r⟩:=j it (by simp);have S:=C.length;exact wpAny_pyNext_list_end (I.ok.hd hc) st p.isList (by simp;lia) λh' eb=>⟨O,I.turned (t':=s.toks) (λb o f e=>eb b o f e) m G B t r⟩
 self:=λ_ _ _ _ _ st h=>wpAny_pyIter_listiter st h
theorem uK{P:db}{w:df}{K:Fg1}{tg:Expr}(a it:da):vD P w K tg (LV K a) [it] it (λi h=>h.IsTupleIter it a i) where
 mem:=by simp
 obj:=λi h st b g=>by
  have e:b=it:=by simpa using g
  subst e;obtain⟨o,e,c,d⟩:=st;exact⟨o,e,λv z=>by rw[d]at z;cases z⟩
 keep:=λi h h' st k=>st.at λo e=>k it (by simp) o e
 item:=by
  intro X D F q hc i ag s σ H E I l st A;subst D F q;obtain⟨xs,x,m,y⟩:=A;obtain⟨f,C,p,L⟩:=I.tuple m;obtain⟨u,au,ao⟩:=C.get y;obtain⟨n,G,Q,B,t,r⟩:=l it (by simp);refine wpAny_pyNext_tuple_item st (show s.heap.IsTuple a f.toArray from p) (x:=u) (by simpa using au) λh' j N=>?_;have R:Inv X ag σ H {s with heap:=h'}:=I.turned (t':=s.toks) (λb o g e=>(N.2 b g).trans e) n G B t r;obtain⟨o,e,c,d⟩:=id j;exact⟨u,O,A1 (s:={s with heap:=h'}) e c d (by decide) ⟨x,H,R,ao,⟨O,λys aq=>by rw[I.tuple_inj aq m];exact y⟩,j,λb g=>(l b g).1⟩⟩
 done:=by
  intro X D F q hc i ag s σ H E I l st A;subst D F q;obtain⟨xs,m,y⟩:=A;obtain⟨f,C,p,L⟩:=I.tuple m;obtain⟨n,G,Q,B,t,r⟩:=l it (by simp);have S:=C.length;exact wpAny_pyNext_tuple_end (I.ok.hd hc) st (show s.heap.IsTuple a f.toArray from p) (by simp;lia) λh' eb=>⟨O,I.turned (t':=s.toks) (λb o g e=>eb b o g e) n G B t r⟩
 self:=λ_ _ _ _ _ st h=>wpAny_pyIter_tupleiter st h
theorem uL{P:db}{w:df}{K:Fg1}{tg:Expr}(it:da)(lo:Int)(n:Nat):vD P w K tg (Kb lo n) [it] it (λi h=>IsRangeIter h it (lo+(i:Nat)*1) ((n:Int)-(i:Nat)) 1) where
 mem:=by simp
 obj:=λi h st b a=>by
  have e:b=it:=by simpa using a
  subst e;exact⟨_,st,λv z=>by
   have x:Data.fields _=Data.cell v:=z;cases x⟩
 keep:=λi h h' st k=>k it (by simp) _ st
 item:=by
  intro X j q u hc i ag s σ H E I d st m;subst j q u;obtain⟨r,l,C,p,g,f⟩:=d it (by simp);have W:=Walks.range (prog:=X.prog) (w:=X.w) (I.ok.hd hc) it lo 1 n;refine W.item i s _ _ m st λv h' tk A c y=>?_;obtain⟨t,rfl⟩:=A;have B:Inv X ag σ H {s with heap:=h',toks:=tk}:=I.turned (λb o a e=>y b o (by simpa using a) e) r l p g f;refine⟨_,O,A1 (s:={s with heap:=h',toks:=tk}) (n:="range_iterator") c O O (by decide) ⟨.int (lo+i),H,B,⟨t,?_⟩,⟨O,O⟩,c,λb a=>(d b a).1⟩⟩;rw[Int.mul_one]
 done:=by
  intro X j q u hc i ag s σ H E I d st m;subst j q u;obtain⟨r,l,C,p,g,f⟩:=d it (by simp);exact wpAny_pyNext_range_end (I.ok.hd hc) st (by have:n<=i:=m;lia) λh' eb=>⟨O,I.turned (t':=s.toks) (λb o a e=>eb b o a e) r l p g f⟩
 self:=λ_ _ _ _ _ st h=>wpAny_pyIter_rangeiter st h
end L2
namespace L2
open PySem PySem.Spec PyProof.Rows
section
variable{X:Cx}{tg:Expr}
def JC(K:Fg1)(tl:TE):TI:=fun σ H R=>tl σ H λx H1=>∃a,x = .ref a/\(∃xs,lP K H1 a xs)/\R (LW K a) H1
def K9(K:Fg1)(tl:TE):TI:=fun σ H R=>tl σ H λx H1=>∃a,x = .ref a/\(∃xs,jP K H1 a xs)/\R (LV K a) H1
theorem CH{l:Expr}{tl:TE}(i:PE X l tl):PI X tg l (JC X.K tl):=by
 intro ag s σ H R I h;refine eY (i ag s σ H _ I h) λv c ⟨x,H1,d,k,f⟩=>?_;obtain⟨a,e,⟨xs,g⟩,q⟩:=f;subst e;cases k;obtain⟨m,r,p,n⟩:=d.list g;refine wpAny_pyIter_list p.isList ?_;refine⟨c.heap.objs.size,[c.heap.objs.size],_,_,H1,O,d.kept (t':=c.toks) λb o e=>hP1 _ e,xn a _,⟨_,hS1 _ O,O,O⟩,λb j=>?_,q⟩;have e:b=c.heap.objs.size:=by simpa using j
 subst e;exact d.fpOk (nR1 _) (d.hok.fresh (nR1 _))
theorem FR{l:Expr}{tl:TE}(j:PE X l tl):PI X tg l (K9 X.K tl):=by
 intro ag s σ H R I h;refine eY (j ag s σ H _ I h) λv c ⟨x,H1,d,m,g⟩=>?_;obtain⟨a,e,⟨xs,i⟩,q⟩:=g;subst e;cases m;obtain⟨f,r,p,n⟩:=d.tuple i;refine wpAny_pyIter_tuple (show c.heap.IsTuple a f.toArray from p) ?_;refine⟨c.heap.objs.size,[c.heap.objs.size],_,_,H1,O,d.kept (t':=c.toks) λb o e=>hP1 _ e,uK a _,⟨_,hS1 _ O,O,O⟩,λb k=>?_,q⟩;have e:b=c.heap.objs.size:=by simpa using k
 subst e;exact d.fpOk (nR1 _) (d.hok.fresh (nR1 _))
theorem sS{ag:List (da×Obj)}{σ:St}{H:Hp}{s:c9}{R:It->Hp->Prop}{E:c8->c9->Prop}{lo hi:Int}{t u v:Tok}{tk:Nat}(I:Inv X ag σ H s)(h1: -(2^62)<=lo)(h2:lo<2^62)(g: -(2^62)<=hi)(d:hi<2^62)(q:R (Kb lo (hi-lo).toNat) H):dj (model X.prog X.w) X.A (pyIter (.ref s.heap.objs.size)) (LR X ag σ tg R) E {s with heap:=s.heap.push {cls:=.type "range",data:=.fields #[.int lo t,.int hi u,.int 1 v]},toks:=tk}:=by
 refine wpAny_pyIter_range (IsRange.new ..) (small_one h1 h2 g d) ?_;have a:Inv X ag σ H {s with heap:=s.heap.push {cls:=.type "range",data:=.fields #[.int lo t,.int hi u,.int 1 v]},toks:=tk}:=I.kept λb o e=>hP1 _ e;refine⟨(s.heap.push {cls:=.type "range",data:=.fields #[.int lo t,.int hi u,.int 1 v]}).objs.size,[(s.heap.push {cls:=.type "range",data:=.fields #[.int lo t,.int hi u,.int 1 v]}).objs.size],_,_,H,O,
  a.kept (t':=tk) λb o e=>hP1 _ e,uL _ lo (hi-lo).toNat,?_,λb f=>?_,q⟩
 ·have c:lo+((0:Nat):Int)*1=lo:=by simp
  have h:(((hi-lo).toNat:Nat):Int)-((0:Nat):Int)=Builtin.Range.rangeSize lo hi 1:=by rw[rangeSize_one];split<;>lia
  show IsRangeIter _ _ (lo+((0:Nat):Int)*1) ((((hi-lo).toNat:Nat):Int)-((0:Nat):Int)) 1;rw[c,h];exact hS1 _ O
 ·have e:b=(s.heap.push {cls:=.type "range",data:=.fields #[.int lo t,.int hi u,.int 1 v]}).objs.size:=by simpa using f
  subst e;exact a.fpOk (nR1 _) (a.hok.fresh (nR1 _))
def JB(ta:TA):TI:=fun σ H R=>ta σ H λvs H1=>∃j:Int,vs=[.int j] /\ -(2^62)<=j/\j<2^62/\R (Kb 0 j.toNat) H1
def JA(ta:TA):TI:=fun σ H R=>ta σ H λvs H1=>∃i j:Int,vs=[.int i,.int j]/\(-(2^62)<=i/\i<2^62 /\ -(2^62)<=j/\j<2^62)/\R (Kb i (j-i).toNat) H1
theorem xK {a:Expr}{ta:TA}{p pos:Pos}(hg:Gl X "range")(hm:X.mg "range"=Y)(ha:PA X [a] ta)(hs:dh [a] X.env=[(J,eval a X.env)]):PI X tg (.Call (.Name "range" p) [a] [] pos) (JB ta):=by
 intro ag s σ H R I h;refine Call_ (jD I hg hm boot_range (PyProof.Rows.callWith_type1 (eY (ha pos ag s σ H _ I h) λi k ⟨vs,H1,c,g,b⟩=>?_) hs O));obtain⟨j,e,b,f,q⟩:=b;subst e;cases g with
 |cons r d=>
  cases d;obtain⟨t,rfl⟩:=r;exact call_range_1 (sS c (by lia) (by lia) b f (by simpa using q))
theorem xJ {a b:Expr}{ta:TA}{p pos:Pos}(hg:Gl X "range")(hm:X.mg "range"=none)(ha:PA X [a,b] ta)(hs:dh [a,b] X.env=[(false,eval a X.env),(false,eval b X.env)])(hs2:dh [b] X.env=[(false,eval b X.env)]):
  PI X tg (.Call (.Name "range" p) [a,b] [] pos) (JA ta):=by
 intro ag s σ H R I h;refine Call_ (jD I hg hm boot_range (PyProof.Rows.callWith_type1 (eY (ha pos ag s σ H _ I h) λo u ⟨vs,H1,k,n,c⟩=>?_) (by rw[hs,hs2]) (by rw[hs2];rfl)));obtain⟨i,j,e,⟨c,m,l,g⟩,q⟩:=c;subst e;cases n with
 |cons r d=>
  cases d with
  |cons f d=>
   cases d;obtain⟨t,rfl⟩:=r;obtain⟨v,rfl⟩:=f;exact call_range_2 (sS k c m l g q)
def Il(wi:TI)(g:TG)(tb:TS):TS:=λD σ H=>wi σ H λao H1=>∃W:Nat->Nat->St->Hp->Prop,(∃m,W 0 m σ H1) /\ ∀i m σ H,W i m σ H ->
 (ao.stop i H/\D.nx σ H)\/(ao.go i H /\ ∃N:St->Hp->Prop,(∀ σ' H',N σ' H' -> ∃m',m'<m/\W (i+1) m' σ' H') /\ ∀x H',ao.yld i H x H'->g x σ H' fun σ2 H2=>tb {D with nx:=N,ct:=N,bk:=D.nx} σ2 H2)
def nT(fp:List da)(h:dk):List (da×Obj):=fp.filterMap λb=>(h.get? b).map λo=>(b,o)
theorem iZ{a:List da}{h:dk}{b:da}{o:Obj}(hb:b∈a)(e:h.get? b=Z o):(b,o)∈nT a h:=aL.mpr ⟨b,hb,by rw[e];rfl⟩
theorem xL{a:List da}{h:dk}{p:da×Obj}(hp:p∈nT a h):p.1∈a/\h.get? p.1=Z p.2:=by
 obtain⟨b,c,e⟩:=aL.mp hp;cases q:h.get? b with
 |none=>rw[q]at e;cases e
 |some o=>
  rw[q]at e;have d:(b,o)=p:=Option.some.inj e;subst d;exact⟨c,q⟩
theorem Inv.pinned{ag:List (da×Obj)}{σ:St}{H:Hp}{s:c9}{a:List da}(I:Inv X ag σ H s)(hf:∀b∈a,kb X ag H b)(ho:∀b∈a,∃o,s.heap.get? b=Z o /\ ∀v,o.data ≠ .cell v):Inv X (ag++nT a s.heap) σ H s:=
 I.pins_of λp i=>(aF.mp i).elim (λz=>I.pin p (mA1 _ z)) λz=>by
  obtain⟨c,e⟩:=xL z;obtain⟨h,g,j,_⟩:=hf p.1 c;obtain⟨o,f,d⟩:=ho p.1 c;rw[e]at f;cases f;exact⟨e,h,g,j,d⟩
theorem Inv.unpinned{ag pl:List (da×Obj)}{σ:St}{H:Hp}{s:c9}(I:Inv X (ag++pl) σ H s):Inv X ag σ H s:=I.pins_of λp a=>I.pin p (mA1 _ (aG _ a))
theorem FK{iter:Expr}{q:List dn}{R:TI}{g:TG}{tb:TS}{pos:Pos}(hp:PassesOwn (model X.prog X.w) X.A X.env X.xe)(hc:X.calm=M)(hi:PI X tg iter R)(hg:PG X tg g)(hb:uC X q tb)(hs:∀x,foldedSetIterable iter X.env x=pure x):PS X (.For tg iter q [] pos) (Il R g tb):=by
 intro ag s σ H D I h;refine wpAny_For (eY (hi ag s σ H _ I h) λv s1 h1=>eY h1 λitv s2 h2=>?_) hs;obtain⟨it,C,V,ao,H2,e,I2,T,K,U,W,⟨m0,w0⟩,E⟩:=h2;subst e
 -- what stays M of the iterator's objects through the loop
 have l:∀{H':Hp},(∀b∈C,H' b=Y) -> ∀b∈C,kb X ag H' b:=λhn b hb=>⟨hn b hb,(U b hb).2⟩;refine codeAny_forLoop_any (λn s'=>∃i j H',Inv X ag j H' s'/\V i s'.heap/\(∀b∈C,H' b=Y)/\W i n j H') ?_ m0 ⟨0,σ,H2,I2,K,λb hb=>(U b hb).1,w0⟩;rintro n ar ⟨i,k,F,S,A,z,w3⟩;rcases E i n k F w3 with⟨B,qn⟩|⟨go,N,hN,step⟩
 ·refine wpAny_passesOwn hp (eY (T.done X O O O hc i ag ar k F X.xe S (l z) A B) λr s4 ⟨aq,I4⟩=>?_);subst aq;exact wpAny_execs_nil ⟨k,F,I4,qn⟩
 ·refine wpAny_passesOwn hp (eY (T.item X rfl rfl rfl hc i ag ar k F X.xe S (l z) A go) fun r s4 ⟨u,aq,h4⟩=>?_);subst aq;refine wpAny_passesOwn hp (eY h4 fun _ Q ⟨x,wq,I5,r5,y5,w,L⟩=>?_);have P:=I5.pinned (l L) (T.obj _ _ w);refine wpAny_passesOwn hp (eY (hg _ Q k wq x u _ P r5 (step x wq y5)) fun _ s6 ⟨G,H6,I6,q6⟩=>?_);refine wpAny_passesOwn hp (eY (hb _ s6 G H6 _ I6 q6) fun f au t=>?_);have again:∀ {a:St} {p:Hp},Inv X (ag++nT C Q.heap) a p au->N a p -> ∃ m,m<n /\ ∃ i j H',Inv X ag j H' au/\V i au.heap/\(∀ b∈C,H' b=none)/\W i m j H':=fun {a p} c y=>by
   obtain⟨m',hm,w7⟩:=hN a p y;refine⟨m',hm,i+1,a,p,c.unpinned,T.keep _ _ _ w λb hb o e=>(c.pin (b,o) (mA1 _ (mA1 _ (iZ hb e)))).1,λb hb=>?_,w7⟩;obtain⟨o,e,d⟩:=T.obj _ _ w b hb;exact(c.pin (b,o) (mA1 _ (mA1 _ (iZ hb e)))).2.1
  cases f with
  |next=>obtain⟨a,p,c,y⟩:=t;exact again c y
  |cont=>obtain⟨a,p,c,y⟩:=t;exact again c y
  |brk=>obtain⟨a,p,c,t⟩:=t;exact⟨a,p,c.unpinned,t⟩
  |ret v=>obtain⟨x7,a,p,c,r7,t⟩:=t;exact⟨x7,a,p,c.unpinned,r7,t⟩
end
end L2
namespace L2
open PySem PySem.Spec PyProof.Rows
abbrev R2:=V->V->Hp->VK->Prop
def gg(X:Cx)(f:c8->c8->Sem c8)(r:R2):Prop:=
 ∀(ag:List (da×Obj)) (s:c9) (σ:St) (H:Hp) (x y:V) (v u:c8) (Q:VK),Inv X ag σ H s->dN x v->dN y u->r x y H Q ->
  dj (model X.prog X.w) X.A (f v u) (EP X ag σ Q) X.xe s
def HW(X:Cx)(f:c8->Sem c8)(r:V->Hp->VK->Prop):Prop:=
 ∀(ag:List (da×Obj)) (s:c9) (σ:St) (H:Hp) (x:V) (v:c8) (Q:VK),Inv X ag σ H s->dN x v->r x H Q ->
  dj (model X.prog X.w) X.A (f v) (EP X ag σ Q) X.xe s
def eA(X:Cx)(f:c8)(r:List V->Hp->VK->Prop):Prop:=
 ∀(ag:List (da×Obj)) (s:c9) (σ:St) (H:Hp) (xs:List V) (us:List c8) (Q:VK),Inv X ag σ H s->dY xs us->r xs H Q ->
  dj (model X.prog X.w) X.A (call f us) (EP X ag σ Q) X.xe s
def Lu(X:Cx)(r:V->Hp->(Bool->Hp->Prop)->Prop):Prop:=
 ∀(ag:List (da×Obj)) (s:c9) (σ:St) (H:Hp) (x:V) (v:c8) (Q:Bool->Hp->Prop),Inv X ag σ H s->dN x v->r x H Q ->
  dj (model X.prog X.w) X.A (truthy v) (TP X ag σ Q) X.xe s
def Ih(r:R2)(ta tb:TE):TE:=fun σ H Q=>ta σ H λx H1=>tb σ H1 λy H2=>r x y H2 Q
def LG(r:V->Hp->VK->Prop)(ta:TE):TE:=fun σ H Q=>ta σ H λx H1=>r x H1 Q
def rI(C:Int->Int->Prop)(g:Int->Int->V):R2:=λx y H Q=>∃i j,x = .int i/\y = .int j/\C i j/\Q (g i j) H
def Eu(g:Int->Int->V):R2:=λx y H Q=>∃i j,x = .int i/\y = .int j/\Q (g i j) H
def rU(g:Int->V):V->Hp->VK->Prop:=λx H Q=>∃i,x = .int i/\Q (g i) H
section
variable{X:Cx}{a b c:Expr}{ta tb tc:TE}{pos:Pos}
theorem Hz(ha:PE X a ta)(hb:PE X b tb){ag:List (da×Obj)}{s:c9}{σ:St}{H:Hp}{R:V->V->Hp->Prop}(I:Inv X ag σ H s)(h:ta σ H fun x H1=>tb σ H1 fun y H2=>R x y H2){Q:c8->c9->Prop}{f:c8->c8->Sem c8}(hf:∀v u e x y H2,Inv X ag σ H2 e->dN x v->dN y u->R x y H2->dj (model X.prog X.w) X.A (f v u) Q X.xe e):
  dj (model X.prog X.w) X.A (eval a X.env) (λv c=>dj (model X.prog X.w) X.A (eval b X.env) (λu d=>dj (model X.prog X.w) X.A (f v u) Q X.xe d) X.xe c) X.xe s:=by
 refine eY (ha ag s σ H _ I h) λv i ⟨x,H1,j,m,g⟩=>?_;refine eY (hb ag i σ H1 _ j g) λu e ⟨y,H2,l,r2,k⟩=>?_;exact hf v u e x y H2 l m r2 k
theorem IM{op:Operator}{r:R2}(ho:gg X (binaryOp op) r)(ha:PE X a ta)(hb:PE X b tb):PE X (.BinOp a op b pos) (Ih r ta tb):=by
 intro ag s σ H Q I h;exact wpAny_BinOp (Hz ha hb I h λv u f x y H2 e c d q=>ho ag f σ H2 x y v u Q e c d q)
theorem IL{op:UnaryOp}{r:V->Hp->VK->Prop}(ho:HW X (unaryOp op) r)(ha:PE X a ta):PE X (.UnaryOp op a pos) (LG r ta):=by
 intro ag s σ H Q I h;exact UnaryOp_ (eY (ha ag s σ H _ I h) λv e ⟨x,H1,c,d,b⟩=>ho ag e σ H1 x v Q c d b)
theorem Kn{f:c8->c8->Sem c8}{C:Int->Int->Prop}{g:Int->Int->Int}(a:∀(i j:Int) (t u:Tok) (s:c9) (Q:c8->c9->Prop) (E:c8->c9->Prop),C i j->Q (.int (g i j) s.toks) {s with toks:=s.toks+1}->dj (model X.prog X.w) X.A (f (.int i t) (.int j u)) Q E s):
  gg X f (rI C λi j=>.int (g i j)):=by
 intro ag s σ H x y v u Q I b c h;obtain⟨i,j,rfl,rfl,hc,q⟩:=h;obtain⟨t,rfl⟩:=b;obtain⟨d,rfl⟩:=c;exact a i j t d s _ _ hc ⟨.int (g i j),H,I.tok _,⟨_,O⟩,q⟩
theorem IU{f:c8->c8->Sem c8}{g:Int->Int->Int}(a:∀(i j:Int) (t u:Tok) (s:c9) (Q:c8->c9->Prop) (E:c8->c9->Prop),Q (.int (g i j) s.toks) {s with toks:=s.toks+1}->dj (model X.prog X.w) X.A (f (.int i t) (.int j u)) Q E s):
  gg X f (Eu λi j=>.int (g i j)):=by
 intro ag s σ H x y v u Q I b c h;obtain⟨i,j,rfl,rfl,q⟩:=h;obtain⟨t,rfl⟩:=b;obtain⟨d,rfl⟩:=c;exact a i j t d s _ _ ⟨.int (g i j),H,I.tok _,⟨_,O⟩,q⟩
theorem Ge{f:c8->c8->Sem c8}{g:Int->Int->Bool}(a:∀(i j:Int) (t u:Tok) (s:c9) (Q:c8->c9->Prop) (E:c8->c9->Prop),Q (.bool (g i j)) s->dj (model X.prog X.w) X.A (f (.int i t) (.int j u)) Q E s):
  gg X f (Eu λi j=>.bl (g i j)):=by
 intro ag s σ H x y v u Q I b c h;obtain⟨i,j,rfl,rfl,q⟩:=h;obtain⟨t,rfl⟩:=b;obtain⟨d,rfl⟩:=c;exact a i j t d s _ _ ⟨.bl (g i j),H,I,O,q⟩
def Kg(i j:Int):Prop:=0<j/\j<1073741824
def Kf(i j:Int):Prop:=0<=j/\j<=1000000/\i.natAbs<2^64
theorem Gd:gg X (binaryOp .Add) (Eu λi j=>.int (i+j)):=IU λ_ _ _ _ _ _ _ q=>add_int q
theorem F9:gg X (binaryOp .Sub) (Eu λi j=>.int (i-j)):=IU λ_ _ _ _ _ _ _ q=>sub_int q
theorem CT:gg X (binaryOp .FloorDiv) (rI Kg λi j=>.int (i/j)):=Kn λi j _ _ _ _ _ hc q=>by
 have h1:(0:Int)<j:=hc.1;have h2:j<1073741824:=hc.2;exact floordiv_int (by lia) (by rw[Int.fdiv_eq_ediv_of_nonneg i (by lia)];exact q) (.inl (PyProof.noPylong_small (by lia)))
theorem Gb:gg X (binaryOp .Mod) (rI (λ_ j=>0<j) λi j=>.int (i%j)):=Kn λi j _ _ _ _ _ hc q=>by
 have h1:(0:Int)<j:=hc;exact mod_int' (by lia) (by rw[Int.fmod_eq_emod_of_nonneg i (by lia)];exact q)
theorem Ga:gg X (binaryOp .Pow) (rI Kf λi j=>.int (i^j.toNat)):=Kn λ_ _ _ _ _ _ _ hc q=>pow_int_small hc.1 hc.2.1 hc.2.2 q
theorem LZ{f:c8->Sem c8}{g:Int->Int}(a:∀(i:Int) (t:Tok) (s:c9) (Q:c8->c9->Prop) (E:c8->c9->Prop),Q (.int (g i) s.toks) {s with toks:=s.toks+1}->dj (model X.prog X.w) X.A (f (.int i t)) Q E s):
  HW X f (rU λi=>.int (g i)):=by
 intro ag s σ H x v Q I b h;obtain⟨i,rfl,q⟩:=h;obtain⟨t,rfl⟩:=b;exact a i t s _ _ ⟨.int (g i),H,I.tok _,⟨_,O⟩,q⟩
theorem E8:HW X (unaryOp .USub) (rU λi=>.int (-i)):=LZ λ_ _ _ _ _ q=>neg_int q
theorem IR:gg X (compareOp .LtE) (Eu λi j=>.bl (decide (i<=j))):=Ge λ_ _ _ _ _ _ _ q=>le_int q
theorem IS:gg X (compareOp .Gt) (Eu λi j=>.bl (decide (j<i))):=Ge λ_ _ _ _ _ _ _ q=>gt_int q
theorem IT:gg X (compareOp .GtE) (Eu λi j=>.bl (decide (j<=i))):=Ge λ_ _ _ _ _ _ _ q=>ge_int q
theorem Ag(b:Expr){op:CmpOp}(h:op ≠ .In:=by decide)(h2:op ≠ .NotIn:=by decide):behindInMarks op b=J:=by
 have c:(op == CmpOp.In)=J:=by cases op<;>first|rfl|exact absurd rfl h
 have a:(op == CmpOp.NotIn)=J:=by cases op<;>first|rfl|exact absurd rfl h2
 cases b<;>simp[behindInMarks,c,a]
theorem CO{op:CmpOp}{r:R2}(ho:gg X (compareOp op) r)(ha:PE X a ta)(hb:PE X b tb)(hm:behindInMarks op b=J):PE X (.Compare a [op] [b] pos) (Ih r ta tb):=by
 intro ag s σ H Q I h;exact wpAny_Compare1 (Hz ha hb I h λv u f x y H2 e c d q=>ho ag f σ H2 x y v u Q e c d q) hm
def Em(t:TE):TT:=fun σ H Q=>t σ H λx H'=>∃k,x = .bl k/\Q k H'
theorem Cu{op:CmpOp}{r:R2}(ho:gg X (compareOp op) r)(ha:PE X a ta)(hb:PE X b tb)(hm:behindInMarks op b=J):PT X (.Compare a [op] [b] pos) (Em (Ih r ta tb)):=by
 intro ag s σ H Q I h;refine wpAny_isTrue_Compare1 (eY (ha ag s σ H _ I h) λv i ⟨x,H1,j,q,d⟩=>eY (hb ag i σ H1 _ j d) λu l ⟨y,H2,p,r2,o⟩=>
  eY (ho ag l σ H2 x y v u _ p q r2 o) λc t ⟨z,n,g,f,k,e,m⟩=>?_) hm
 subst e;cases f;exact wpAny_truthy_bool ⟨n,g,m⟩
def zk(r r':R2)(ta tb tc:TE):TE:=fun σ H Q=>ta σ H λx H1=>tb σ H1 λy H2=>r x y H2 λz H3=>∃k,z = .bl k /\
 (if k=M then tc σ H3 λw' H4=>r' y w' H4 Q else Q (.bl J) H3)
theorem zV{op op':CmpOp}{r f:R2}(ho:gg X (compareOp op) r)(ho':gg X (compareOp op') f)(ha:PE X a ta)(hb:PE X b tb)(hc:PE X c tc)(hm:lastMarks [op,op'] [b,c]=J):PE X (.Compare a [op,op'] [b,c] pos) (zk r f ta tb tc):=by
 intro ag s σ H Q I h;refine Compare_chain (eY (ha ag s σ H _ I h) λv C ⟨x,H1,D,w,o⟩=>chain_link (eY (hb ag C σ H1 _ D o) λu q ⟨y,H2,t,r2,n⟩=>
  eY (ho ag q σ H2 x y v u _ t w r2 n) λd F ⟨z,i,g,l,k,e,j⟩=>?_)) hm
 subst e;cases l;refine wpAny_truthy_bool ?_;cases k with
 |false=>exact ite_ff ⟨.bl J,i,g,O,j⟩
 |true=>exact ite_tt (chain_last (eY (hc ag F σ i _ g j) λG ao ⟨B,p,A,E,m⟩=>ho' ag ao σ p y B u G Q A r2 E m))
def BN(K:Fg1)(x:V)(H:Hp)(k:Bool):Prop:=
 match x with
 | .non=>k=J
 | .bl b=>k=b
 | .int i=>k=(i != 0)
 | .str y=>y.length<=di/\k=((y.length:Int) != 0)
 | .byt y=>y.size<=di/\k=((y.size:Int) != 0)
 | .ref p=>(∃xs,lP K H p xs/\k = !xs.isEmpty)\/(∃xs,jP K H p xs/\k = !xs.isEmpty) \/ ∃kvs,H p=Z (.dK kvs)/\k = !kvs.isEmpty
 |_=>False
theorem va{κ:Type}{kvs:List (κ×V)}{vs:List (κ×c8)}(r:KV kvs vs):(!vs.isEmpty) = !kvs.isEmpty:=by
 cases r<;>rfl
theorem oi{xs:List V}{its:List c8}(r:dY xs its):(!its.toArray.isEmpty) = !xs.isEmpty:=by
 cases r<;>simp
theorem l6:(di:Nat)<2^63:=by rw[sizeLine_eq];decide
theorem zd:Lu X (λx H Q=>∃k,BN X.K x H k/\Q k H):=by
 intro ag s σ H x v Q I d h;obtain⟨k,e,q⟩:=h;have o:=l6;have u:di=16777216:=sizeLine_eq;cases x with
 |non=>
  cases d;have a:k=J:=e;subst a;exact truthy_none ⟨H,I,q⟩
 |bl b=>
  cases d;have a:k=b:=e;subst a;exact wpAny_truthy_bool ⟨H,I,q⟩
 |int i=>
  obtain⟨t,rfl⟩:=d;have a:k=(i != 0):=e;subst a;exact PySem.P.truthy_int ⟨H,I,q⟩
 |str y=>
  obtain⟨t,rfl⟩:=d;obtain⟨n,a⟩:y.length<=di/\k=((y.length:Int) != 0):=e;subst a;exact PySem.P.truthy_str (by lia) ⟨H,I.tok _,q⟩
 |byt y=>
  obtain⟨t,rfl⟩:=d;obtain⟨n,a⟩:y.size<=di/\k=((y.size:Int) != 0):=e;subst a;exact PySem.W.truthy_bytes (by lia) ⟨H,I.tok _,q⟩
 |ref p=>
  cases d;have a:(∃xs,lP X.K H p xs/\k = !xs.isEmpty)\/(∃xs,jP X.K H p xs/\k = !xs.isEmpty) \/ ∃kvs,H p=Z (.dK kvs)/\k = !kvs.isEmpty:=e;rcases a with⟨xs,f,a⟩|⟨xs,f,a⟩|⟨kvs,f,a⟩
  ·subst a;obtain⟨g,r,pl,j⟩:=I.list f;have c:=r.length;exact wpAny_truthy_list pl.isList (by simp only[sT1];lia) ⟨H,I.tok _,by rw[oi r];exact q⟩
  ·subst a;obtain⟨g,r,pl,j⟩:=I.tuple f;have c:=r.length;exact truthy_tuple pl (by simp only[sT1];lia) ⟨H,I.tok _,by rw[oi r];exact q⟩
  ·subst a;obtain⟨j,l,vs,r,m⟩:kvs.length<=di/\(p == sysModules)=false /\ ∃vs,KV kvs vs/\s.heap.DictOf (fg X.prog X.w) p vs:=I.hok p _ f;have c:kvs.length=vs.length:=Paired.length r;exact wpAny_truthy_dict l m (by lia) ⟨H,I.tok _,by rw[va r];exact q⟩
 |_=>exact(show False from e).elim
theorem zI(ha:PE X a ta)(he:∀ b,isTrue a X.env b=(do let v<-b;standAt a.pos;holding [v] (truthy v))):
  PT X a (fun σ H Q=>ta σ H λx H'=>∃k,BN X.K x H' k/\Q k H'):=by
 intro ag s σ H Q I h;exact isTrue_plain (eY (ha ag s σ H _ I h) λv d ⟨x,H1,e,f,c⟩=>zd ag d σ H1 x v Q e f c) (he _)
theorem uY:gg X (binaryOp .Add) (λx y H Q=>∃i j,x = .str i/\y = .str j/\i.length+j.length<=di/\Q (.str (i++j)) H):=by
 intro ag s σ H x y v u Q I a d h;obtain⟨i,j,rfl,rfl,b,q⟩:=h;obtain⟨t,rfl⟩:=a;obtain⟨c,rfl⟩:=d;exact add_str (λc tk=>⟨.str (i++j),H,I.tok _,⟨_,O⟩,q⟩) b
theorem hC{x:V}{a:List c8}(r:dY [x] a):∃u,a=[u]/\dN x u:=by
 cases r with
 |cons b r2=>cases r2;exact⟨_,O,b⟩
theorem yT{x y:V}{a:List c8}(r:dY [x,y] a):∃u w',a=[u,w']/\dN x u/\dN y w':=by
 cases r with
 |cons c r2=>
  cases r2 with
  |cons d b=>cases b;exact⟨_,_,O,c,d⟩
theorem yt(hc:X.calm=M):eA X (.builtin "max") (λxs H Q=>∃i j,xs=[.int i,.int j]/\Q (.int (if j>i then j else i)) H):=by
 intro ag s σ H xs c Q I r h;obtain⟨i,j,rfl,q⟩:=h;obtain⟨u,d,rfl,⟨t,rfl⟩,⟨b,rfl⟩⟩:=yT r;refine max_two_ints (I.ok.hd hc) λh' tk k=>⟨_,H,I.kept k,?_,q⟩;by_cases a:j>i
 ·rw[ak a,ak a];exact⟨_,O⟩
 ·rw[aj a,aj a];exact⟨_,O⟩
theorem yr(hc:X.calm=M):eA X (.builtin "min") (λxs H Q=>∃i j,xs=[.int i,.int j]/\Q (.int (if j<i then j else i)) H):=by
 intro ag s σ H xs c Q I r h;obtain⟨i,j,rfl,q⟩:=h;obtain⟨u,d,rfl,⟨t,rfl⟩,⟨b,rfl⟩⟩:=yT r;refine min_two_ints (I.ok.hd hc) λh' tk k=>⟨_,H,I.kept k,?_,q⟩;by_cases a:j<i
 ·rw[ak a,ak a];exact⟨_,O⟩
 ·rw[aj a,aj a];exact⟨_,O⟩
theorem pZ:eA X (.type "int") (λxs H Q=>(∃i,xs=[.int i]/\Q (.int i) H) \/ ∃k,xs=[.bl k]/\Q (.int (if k then 1 else 0)) H):=by
 intro ag s σ H xs b Q I r h;rcases h with⟨i,rfl,q⟩|⟨k,rfl,q⟩
 ·obtain⟨u,rfl,t,rfl⟩:=hC r;exact call_int_int ⟨.int i,H,I,⟨_,O⟩,q⟩
 ·obtain⟨u,rfl,a⟩:=hC r;cases a;exact call_int_bool ⟨.int (if k then 1 else 0),H,I.tok _,⟨_,O⟩,q⟩
theorem sd:eA X (.type "str") (λxs H Q=>∃i,xs=[.int i]/\i.natAbs.log2<1920/\Q (.str (toString i)) H):=by
 intro ag s σ H xs b Q I r h;obtain⟨i,rfl,a,q⟩:=h;obtain⟨u,rfl,t,rfl⟩:=hC r;exact PySem.P.str_of_int a ⟨.str _,H,I.tok _,⟨_,O⟩,q⟩
end
end L2
namespace L2
open PySem PySem.Spec PyProof.Rows
structure HM (h:dk)(x dx C:da)(mA:Str->Option c8):Prop where
 obj:h.get? x=some (PySem.W.instObj C dx)
 ns:h.Ns1 dx mA
 ne:dx≠x
theorem xV{h:dk}{dx:da}{mA:Str->Option c8}(n:h.Ns1 dx mA):∃c,h.get? dx=Z c /\ ∀name,PySem.W.lookIn name c=Z (mA name):=by
 obtain⟨o,es,ep,g,d,k,_,f⟩:=n;refine⟨o,g,λname=>?_⟩;have e:=f name;unfold nsFind findBy at e;rw[<- Array.find?_toList]at e;unfold PySem.W.lookIn;rw[d];dsimp only;split
 ·rename_i y q;rw[q]at e;exact congrArg Z e
 ·rename_i q;rw [q] at e;have a:es.toList.any (·.refKey)=false:=by
   rw[List.any_eq_false];intro y j;obtain⟨z,t,b⟩:=k y (Array.mem_toList_iff.mp j);simp[DictEntry.refKey,b]
  have i:¬ es.toList.any (·.refKey)=M:=by rw[a];exact aJ
  rw[aj i];exact congrArg Z e
theorem HM.look{h:dk}{x dx C:da}{mA:Str->Option c8}(I:HM h x dx C mA):∃a,PySem.W.InstAt h x (PySem.W.instObj C dx) C (Z a) /\ ∀name,PySem.W.lookIn name a=Z (mA name):=
 let ⟨a,ho,hl⟩:=xV I.ns
 ⟨a,⟨I.obj,O,O,ho⟩,hl⟩
section
variable{prog:db}{w:df}{A:de}{E:c8->c9->Prop}{s:c9}{K:Fg1}{x dx C f:da}{mA:Str->Option c8}{name:Str}{v:c8}
end
theorem kK.some_of{v:V}{o:Option c8}(r:kK (Z v) o):∃u,o=Z u/\dN v u:=by
 cases o with
 |none=>exact(show False from r).elim
 |some u=>exact⟨u,O,r⟩
section
variable{P:db}{w:df}{H H':Hp}{h h':dk}{a C dx:da}{fs fs':List (Str×V)}
theorem DC(b:kM P w H h)(e:H a=Z (.ins C dx fs)):∃mA,HM h a dx C mA/\(∀f,kK (fs.lookup f) (mA f))/\PySem.Within mA (fs.map (·.1))/\fs.length<=1000/\H dx=Z (.own a):=by
 obtain⟨d,z,ne,c,mA,n,r,q⟩:=(show eI P w H h a (.ins C dx fs)from b a _ e);exact⟨mA,⟨c,n,ne⟩,r,q,z,d⟩
end
structure LB (K:Fg1)(C:da):Prop where
 pg:PySem.W.plainGet K C Str.empty=true
 hd:PySem.W.hasDictIn K C=true
 po:PySem.W.plainOver K C=true
 sa:PySem.W.findIn K (.ref C) "__setattr__"=some (some (.builtin "object.__setattr__"))
theorem LB.get{K:Fg1}{C:da}(c:LB K C)(f:Str):PySem.W.plainGet K C f=M:=c.pg
section
variable{X:Cx}{ag:List (da×Obj)}{σ:St}{H:Hp}{s:c9}{a C dx:da}{fs:List (Str×V)}{f:Str}{v:V}{A:de}{E:c8->c9->Prop}
end
section
variable{X:Cx}{o e value:Expr}{f:Str}{pos pos' tpos:Pos}{ta tv:TE}
end
section
variable{X:Cx}{ag:List (da×Obj)}{σ:St}{H:Hp}{s:c9}{A:de}{E:c8->c9->Prop}{Q:c8->c9->Prop}{c:c8}{b:Bool}
inductive m6 (K:Fg1)(H:Hp):V->c8->Prop where
 |non:m6 K H .non (.type "NoneType")
 |bl (x:Bool):m6 K H (.bl x) (.type "bool")
 |int (i:Int):m6 K H (.int i) (.type "int")
 |str (x:Str):m6 K H (.str x) (.type "str")
 |flt (x:UInt64):m6 K H (.flt x) (.type "float")
 |lst {a:da} {xs:List V} (e:H a=some (.lst xs)):m6 K H (.ref a) (.type "list")
 |frz {a:da} {o:Obj} {xs:List V} (e:H a=some (.frz o (.lst xs))):m6 K H (.ref a) (.type "list")
 |tup {a:da} {xs:List V} (e:H a=some (.tup xs)):m6 K H (.ref a) (.type "tuple")
 |dK {a:da} {kvs:List (Key×V)} (e:H a=some (.dK kvs)):m6 K H (.ref a) (.type "dict")
 |dT {a:da} {kvs:List (List Key×V)} (e:H a=some (.dT kvs)):m6 K H (.ref a) (.type "dict")
 | ins {a C dx:da} {fs:List (Str×V)} (e:H a=some (.ins C dx fs)) (cl:LB K C) (ha:PySem.W.findIn K (.ref C) "__class__"=some (some (.builtin "object.__class__")))
   (hn:PySem.W.specialIn K (.builtin "object.__class__") "__get__"=some (some (.builtin "getset_descriptor.__get__"))) (htk:PySem.W.takesIn K (.builtin "object.__class__")=some true)
   (hm:PySem.W.mroIn K C (.type "object")=some true):m6 K H (.ref a) (.ref C)
theorem iN{x:V}{u t:c8}(I:Inv X ag σ H s)(d:dN x u)(ty:m6 X.K H x t)(e:PySem.W.kitOne X.K t c=some b)(h:∀ tk,Q (.bool b) {s with toks:=tk}):
  dj (model X.prog X.w) A (call (.builtin "isinstance") [u,c]) Q E s:=by
 cases ty with
 |non=>cases(show u=Value.none from d);exact PySem.W.kia_one PySem.W.kitx_none I.kIn True.intro e (λz=>nomatch z) h
 |bl y=>cases(show u=Value.bool y from d);exact PySem.W.kia_one PySem.W.kitx_bool I.kIn True.intro e (λz=>nomatch z) h
 |int i=>obtain⟨t,q⟩:=(show∃t,u=Value.int i t from d);cases q;exact PySem.W.kia_one PySem.W.kitx_int I.kIn True.intro e (λz=>nomatch z) h
 |str y=>obtain⟨t,q⟩:=(show∃t,u=Value.str y t from d);cases q;exact PySem.W.kia_one PySem.W.kitx_str I.kIn True.intro e (λz=>nomatch z) h
 |flt y=>obtain⟨t,q⟩:=(show∃t,u=Value.float y t from d);cases q;exact PySem.W.kia_one PySem.W.kitx_float I.kIn True.intro e (λz=>nomatch z) h
 | @lst a xs f=>
  cases(show u=Value.ref a from d);obtain⟨_,_,n,_,h1⟩:=(show eI X.prog X.w H s.heap a (.lst xs)from I.hok a _ f);exact PySem.W.kia_one PySem.W.kitx_list I.kIn ⟨_,h1,O⟩ e (λz=>nomatch z) h
 | @frz a r xs f=>
  cases(show u=Value.ref a from d);obtain⟨_,_,_,n,_,h1⟩:=(show eI X.prog X.w H s.heap a (.frz r (.lst xs))from I.hok a _ f);exact PySem.W.kia_one PySem.W.kitx_list I.kIn ⟨_,h1,O⟩ e (λz=>nomatch z) h
 | @tup a xs f=>
  cases(show u=Value.ref a from d);obtain⟨_,_,_,p⟩:=(show eI X.prog X.w H s.heap a (.tup xs)from I.hok a _ f);obtain⟨o,h1,h2,_⟩:=p;exact PySem.W.kia_one PySem.W.kitx_tuple I.kIn ⟨o,h1,h2⟩ e (λz=>nomatch z) h
 | @dK a kvs f=>
  cases(show u=Value.ref a from d);obtain⟨_,_,vs,_,p⟩:=(show eI X.prog X.w H s.heap a (.dK kvs)from I.hok a _ f);obtain⟨o,es,ep,h1,h2,_⟩:=p;exact PySem.W.kia_one PySem.W.kitx_dict I.kIn ⟨o,h1,h2.1⟩ e (λz=>nomatch z) h
 | @dT a kvs f=>
  cases(show u=Value.ref a from d);obtain⟨_,_,xs,_,o,es,ep,h1,h2,_⟩:=(show eI X.prog X.w H s.heap a (.dT kvs)from I.hok a _ f);exact PySem.W.kia_one PySem.W.kitx_dict I.kIn ⟨o,h1,h2.1⟩ e (λz=>nomatch z) h
 | @ins a C dx fs f j m l g k=>
  cases(show u=Value.ref a from d);obtain⟨mA,au,_⟩:=DC I.hok f;obtain⟨v,ao,_⟩:=au.look;exact PySem.W.kia_one (PySem.W.kitx_own (j.get _) j.hd m l g k) I.kIn ao e (λz=>nomatch z) h
end
end L2
namespace L2
open PySem PySem.Spec PyProof.Rows
structure fI (k:Nat)(A:de):Prop where
 hd:A.handled=none
 dp:A.depth+3*k+5<recursionLimit
 un:A.units+16*k+200<cLine
 gd:A.guards=some []
theorem fI.mono{j k:Nat}{A:de}(r:fI k A)(h:j<=k):fI j A:=⟨r.hd,by have:=r.dp;lia,by have:=r.un;lia,r.gd⟩
theorem fI.deeper{k:Nat}{A:de}(r:fI (k+1) A)(env:Env):fI k (A.deeper env):=
 ⟨r.hd,by have:=r.dp;show A.depth+1+3*k+5<_;lia,by have:=r.un;show A.units+3+16*k+200<_;lia,r.gd⟩
theorem fI.depth{k:Nat}{A:de}(r:fI k A):A.depth<recursionLimit:=by have:=r.dp;lia
theorem fI.units{k:Nat}{A:de}(r:fI k A):A.units+64<cLine:=by have:=r.un;lia
def KD:TA:=λ_ H Q=>Q [] H
def Io(ta:TE)(tr:TA):TA:=fun σ H Q=>ta σ H λx H1=>tr σ H1 λxs H2=>Q (x::xs) H2
section
variable{X:Cx}{e:Expr}{es:List Expr}{te:TE}{t:TA}{pos:Pos}
theorem lW:PA X [] KD:=λ_ _ _ _ H Q I h=>Calls.spliced_nil ⟨[],H,I,.nil,h⟩
theorem iX(ha:PE X e te)(hr:PA X es t)(hs:dh (e::es) X.env=(J,eval e X.env)::dh es X.env):PA X (e::es) (Io te t):=by
 intro pos ag s σ H Q I h;rw[hs];show dj _ _ (spliced ((J,eval e X.env)::backTo pos (dh es X.env))) _ _ s;refine Calls.spliced_cons (eY (ha ag s σ H _ I h) λu b ⟨x,H1,c,g,a⟩=>?_);exact eY (hr pos ag b σ H1 _ c a) λi j ⟨xs,H2,f,r2,d⟩=>⟨x::xs,H2,f,.cons g r2,d⟩
def Ky(t:TA):TE:=fun σ H Q=>t σ H λxs H1=>xs.length<=di /\ ∀p,H1 p=Y->Q (.ref p) (upd H1 p (.tup xs))
def KH(t:TA):TE:=fun σ H Q=>t σ H λxs H1=>xs.length<=di /\ ∀p,H1 p=Y->Q (.ref p) (upd H1 p (.lst xs))
theorem FY{x1}(h:PA X es t):PE X (.Tuple es x1 pos) (Ky t):=by
 intro ag s σ H Q I f;refine wpAny_Tuple_spliced (eY (h pos ag s σ H _ I f) λg a ⟨xs,H1,c,r,z,q⟩=>⟨by rw[<- r.length];exact z,?_⟩);have d:H1 a.heap.objs.size=Y:=c.hok.fresh (nR1 _);refine⟨.ref a.heap.objs.size,upd H1 a.heap.objs.size (.tup xs),c.laid (t':=a.toks) (λb u e=>hP1 _ e) (nR1 _) ?_,O,q _ d⟩;exact⟨z,g,r,⟨_,hS1 _ O,O,_,O⟩⟩
theorem F4(h:PA X es t):PE X (.List es pos) (KH t):=by
 intro ag s σ H Q I f;refine wpAny_List_spliced (eY (h pos ag s σ H _ I f) λg a ⟨xs,H1,c,r,z,q⟩=>⟨by rw[<- r.length];exact z,?_⟩);have d:H1 a.heap.objs.size=Y:=c.hok.fresh (nR1 _);refine⟨.ref a.heap.objs.size,upd H1 a.heap.objs.size (.lst xs),c.laid (t':=a.toks) (λb u e=>hP1 _ e) (nR1 _) ?_,O,q _ d⟩;exact⟨z,g,0,r,hS1 _ O⟩
end
abbrev Sp:=List V->Hp->VK->XK->Prop
abbrev yA:=List Env->Hp->c9->XK->c8->c9->Prop
structure Eh (P:db)(w:df)(K:Fg1)(mg:Str->Option c8)(base:dk)(A:de)(outer:List Env)(s:c9)(H:Hp):Prop where
 frames:A.frames=some outer
 mod:Mod K mg base
 bs:∀b o,base.get? b=some o->s.heap.get? b=some o/\H b=none
 bsz:base.objs.size<=s.heap.objs.size
 funs:s.heap.FunFrames base outer
 frf:∀b∈frs outer,H b=none
 hok:kM P w H s.heap
 bare:AllBare s.gens
def CE(outer:List Env)(P:db)(w:df)(H:Hp)(s:c9)(Q:VK)(u:c8)(s':c9):Prop:=
 ∃v H',s'.os=s.os/\AllBare s'.gens/\Un (frs outer) [] H H' s.heap s'.heap/\kM P w H' s'.heap/\dN v u/\Q v H'
def CR(CX:yA)(outer:List Env)(P:db)(w:df)(H:Hp)(s:c9)(Q:VK)(E:XK)(r:Result)(s':c9):Prop:=
 match r with
 | .ok (.ret u)=>CE outer P w H s Q u s'
 | .ok _=>False
 | .error e=>CX outer H s E e s'
structure jQ (P:db)(w:df)(K:Fg1)(mg:Str->Option c8)(base:dk)(CX:yA)(k:Nat)(f:da)(fd:dm)(ps:List Str)(sp:Sp):Prop where
 len:∀vs H Q E,sp vs H Q E->vs.length=ps.length
 run:∀(A:de) (outer:List Env) (s:c9) (H:Hp) (args:Args) (us:List c8) (vs:List V) (Q:VK) (E:XK),fI k A->Eh P w K mg base A outer s H->BindsTo s fd args (ps.zip us)->dY vs us->sp vs H Q E ->
  codeAny (model P w) A (.call (.ref f) args) (CR CX outer P w H s Q E) s
theorem jQ.imp{P:db}{w:df}{K:Fg1}{mg:Str->Option c8}{base:dk}{CX:yA}{k:Nat}{f:da}{fd:dm}{ps:List Str}{sp sp':Sp}(F:jQ P w K mg base CX k f fd ps sp)(h:∀vs H Q E,sp' vs H Q E->sp vs H Q E):jQ P w K mg base CX k f fd ps sp':=
 ⟨λvs H Q E q=>F.len vs H Q E (h _ _ _ _ q),λA a s H b d vs Q E c e j g i=>F.run A a s H b d vs Q E c e j g (h _ _ _ _ i)⟩
section
variable{X:Cx}{ag:List (da×Obj)}{σ:St}{H:Hp}{s s':c9}
theorem Inv.env0(I:Inv X ag σ H s):Eh X.prog X.w X.K X.mg X.base X.A X.stack s H:=
 ⟨I.ok.frames,I.ok.mod,I.bs,aC I.ok.bsz I.sz,I.stack,I.stkFree,I.hok,I.bare⟩
theorem Inv.after{Q:VK}{u:c8}(I:Inv X ag σ H s)(h:CE X.stack X.prog X.w H s Q u s'):EP X ag σ Q u s':=by
 obtain⟨v,H',f,a,un,c,r,q⟩:=h;obtain⟨i,g,d,t,e⟩:=s';obtain rfl:e=s.os:=f;exact⟨v,H',I.call (h':=i) (g':=g) (d':=d) (t':=t) (ch:=[]) un c a (λb z=>absurd z (by simp)),r,q⟩
end
def Eo(sp:Sp)(dvs:List V)(E:XK)(t:TA):TE:=fun σ H Q=>t σ H λvs H1=>sp (vs++dvs) H1 Q E
def jj(K:Fg1)(fd:dm)(ps:List Str)(ds:List c8):Prop:=
 ∀(s:c9) (us:List c8),K.In s.heap->(us++ds).length=ps.length->BindsTo s fd ⟨us,[]⟩ (ps.zip (us++ds))
theorem jj.all{K:Fg1}{fd:dm}{ps:List Str}(h:∀a:List c8,a.length=ps.length->bindArgs fd ⟨a,[]⟩=pure (ps.zip a)):jj K fd ps []:=λs a _ b=>by
 rw[aM]at b ⊢;exact .of_eq (h a b)
def sw(CX:yA)(X:Cx)(E:XK):Prop:=∀(ag:List (da×Obj)) (σ:St) (H:Hp) (s:c9) (e:c8) (s':c9),Inv X ag σ H s->CX X.stack H s E e s'->X.xe e s'
section
variable{X:Cx}{CX:yA}{k:Nat}{f C:da}{fd:dm}{ps:List Str}{sp:Sp}{dvs:List V}{ds:List c8}{E:XK}{x m:Str}{p pos apos:Pos}{e o:Expr}{es:List Expr}{ta:TE}{t:TA}
theorem zA{ag:List (da×Obj)}{σ:St}{H:Hp}{s:c9}{Q:VK}{a:List c8}{vs:List V}(F:jQ X.prog X.w X.K X.mg X.base CX k f fd ps sp)(hr:fI k X.A)(hb:jj X.K fd ps ds)(hd:dY dvs ds)(hx:sw CX X E)(I:Inv X ag σ H s)(r:dY vs a)(h:sp (vs++dvs) H Q E):dj (model X.prog X.w) X.A (call (.ref f) a) (EP X ag σ Q) X.xe s:=by
 have r2:dY (vs++dvs) (a++ds):=r.append hd;have d:(a++ds).length=ps.length:=by rw[<- r2.length];exact F.len _ _ _ _ h
 refine wpAny_call (codeAny_mono (F.run X.A X.stack s H ⟨a,[]⟩ (a++ds) (vs++dvs) Q E hr I.env0 (hb s a I.kIn d) r2 h) λr s' b=>?_);cases r with
 |error e=>exact hx ag σ H s e s' I b
 |ok c=>
  cases c with
  |ret u=>exact I.after b
  |next=>exact False.elim b
  |brk=>exact False.elim b
  |cont=>exact False.elim b
theorem CP (F:jQ X.prog X.w X.K X.mg X.base CX k f fd ps sp)(hr:fI k X.A)(hg:Gl X x)(hm:X.mg x=some (.ref f))(hk:wK1 X.K (.ref f)=true)(hb:jj X.K fd ps ds)(hd:dY dvs ds)(hx:sw CX X E)
  (ha:PA X (e::es) t) (hdb:(x == ("__debug__":Str))=J) (he:dh (e::es) X.env=(J,eval e X.env)::dh es X.env) (hpl:(backTo pos (dh es X.env)).any (·.1)=J):
  PE X (.Call (.Name x p) (e::es) [] pos) (Eo sp dvs E t):=by
 intro ag s σ H Q I h;refine wpAny_Call_Name_kw (wF I hg hm ?_ hdb);refine PySem.W.callWith_K (h₀:=X.base) I.ok.mod.kin hk (eY (ha pos ag s σ H _ I h) λc b ⟨vs,H1,a,r,q⟩=>⟨a.kIn,?_⟩) he hpl;exact zA F hr hb hd hx a r q
end
section
variable{X:Cx}{CX:yA}{k:Nat}{f C:da}{fd:dm}{ps ks:List Str}{sp:Sp}{E:XK}{x m:Str}{p pos apos kpos:Pos}{e o:Expr}{es:List Expr}{kws:List Keyword}{te ta:TE}{t tk:TA}{nm:Option Str}
variable{g:List c8->List c8->List c8}{gV:List V->List V->List V}
end
structure gD (N P:List Str)(sc:dq):Prop where
 kind:sc.kind = .function
 co:sc.isCoroutine=false
 gen:sc.isGenerator=false
 nd:N.Nodup
 pre:N.take P.length=P
 par:∀x∈P,sc.names.lookup x=some .local\/sc.names.lookup x=some .cell
 nofree:∀y∈sc.names,y.2 ≠ .free
theorem p7{kindOf:Str->Option NameKind}{x:Str}:∀{binds:List (Str×c8)} {m:Str->Option c8},(∀v,(x,v)∉binds)->bindL kindOf binds m x=m x
 |[],_,_=>rfl
 |(n,v)::r,m,h=>by
  unfold bindL;rw[p7 λw a=>h w (mC1 _ a)];split
  ·have:x≠n:=by rintro rfl;exact h v mS1
   simp[this]
  ·rfl
theorem p9{kindOf:Str->Option NameKind}{x:Str}:∀{binds:List (Str×c8)} {m:Str->Option c8},(∀v,(x,v)∉binds)->bindC kindOf binds m x=m x
 |[],_,_=>rfl
 |(n,v)::r,m,h=>by
  unfold bindC;rw[p9 λw a=>h w (mC1 _ a)];split
  ·rfl
  ·have:x≠n:=by rintro rfl;exact h v mS1
   simp[this]
theorem p8{kindOf:Str->Option NameKind}{x:Str}{v:c8}:∀ {P:List Str} {vs:List c8} {i:Nat} {m:Str->Option c8},P.Nodup->P[i]? = some x->vs[i]? = some v->kindOf x=some .local ->
  bindL kindOf (P.zip vs) m x=Z v
 |[],_,_,_,_,h,_,_=>by simp at h
 |_::_,[],_,_,_,_,h,_=>by simp at h
 |p::P,w::vs,0,m,nd,h1,h2,hk=>by
  simp at h1 h2;subst h1;subst h2;show bindL kindOf ((p,w)::P.zip vs) m p=_;unfold bindL;rw[p7 λv a=>(aN.mp nd).1 (aO a).1,ak hk];simp
 |p::P,w::vs,i+1,m,nd,h1,h2,hk=>by
  show bindL kindOf ((p,w)::P.zip vs) m x=_;unfold bindL;exact p8 (i:=i) (aN.mp nd).2 (by simpa using h1) (by simpa using h2) hk
theorem qa{kindOf:Str->Option NameKind}{x:Str}{v:c8}:∀ {P:List Str} {vs:List c8} {i:Nat} {m:Str->Option c8},P.Nodup->P[i]? = some x->vs[i]? = some v->kindOf x≠some .local ->
  bindC kindOf (P.zip vs) m x=Z v
 |[],_,_,_,_,h,_,_=>by simp at h
 |_::_,[],_,_,_,_,h,_=>by simp at h
 |p::P,w::vs,0,m,nd,h1,h2,hk=>by
  simp at h1 h2;subst h1;subst h2;show bindC kindOf ((p,w)::P.zip vs) m p=_;unfold bindC;rw[p9 λv a=>(aN.mp nd).1 (aO a).1,aj hk];simp
 |p::P,w::vs,i+1,m,nd,h1,h2,hk=>by
  show bindC kindOf ((p,w)::P.zip vs) m x=_;unfold bindC;exact qa (i:=i) (aN.mp nd).2 (by simpa using h1) (by simpa using h2) hk
def jr(N:List Str)(vs:List V):St:=vs.map Z++aP (N.length-vs.length) Y
def m5(CX:yA)(P:db)(w:df)(K:Fg1)(mg:Str->Option c8)(base:dk)(N:List Str)(qual:Str)(scope:dq)(f:da)(cd:c8)(A:de)(outer:List Env)(s:c9)(H:Hp)(E:XK):Cx where
 prog:=P
 w:=w
 K:=K
 mg:=mg
 base:=base
 A:=A.deeper (envOfC qual scope s.heap.objs.size f cd)
 N:=N
 s₀:=s
 H₀:=H
 env:=envOfC qual scope s.heap.objs.size f cd
 outer:=outer
 stack:=envOfC qual scope s.heap.objs.size f cd::outer
 ex:=[]
 calm:=M
 fn:=λ_=>M
 pn:=[]
 xe:=λe s'=>dj (model P w) (A.deeper (envOfC qual scope s.heap.objs.size f cd)) (leaving (envOfC qual scope s.heap.objs.size f cd) e) (λ_ s''=>CX outer H s E e s'') (λe' s''=>CX outer H s E e' s'') s'
theorem uj{a:dq}{n:Nat}{x:Str}(h:a.names.lookup x=Z .cell):∃c,(cellsFrom n a.names []).lookup x=Z c:=by
 have q:=PySem.W.cellsFrom_some a.names n [] (.inl h);exact aQ.mp q
theorem x0{CX:yA}{P:db}{w:df}{K:Fg1}{mg:Str->Option c8}{base:dk}{N ps:List Str}{g:Str}{scope:dq}{f:da}{t:c8}{A:de}{d:List Env}{s s1:c9}{H:Hp}{E:XK}{B:List c8}{vs:List V}(S:gD N ps scope)(hd:A.handled=none)(e0:Eh P w K mg base A d s H)(ao:vs.length=ps.length)(r:dY vs B)(x:InCallC s s.heap.objs.size (bindL (envOfC g scope s.heap.objs.size f t).kindOf (ps.zip B) fun _=>none) (cellsFrom (s.heap.objs.size+1) scope.names []) (bindC (envOfC g scope s.heap.objs.size f t).kindOf (ps.zip B) fun _=>none) s1):
  Inv (m5 CX P w K mg base N g scope f t A d s H E) [] (jr N vs) H s1:=by
 have I:ps.length<=N.length:=by have:=congrArg List.length S.pre;rw[aR]at this;lia
 obtain⟨h1,tk,rfl,D⟩:=x.done;have j:∀b:da,b∉(m5 CX P w K mg base N g scope f t A d s H E).ex:=λb z=>absurd (show b∈([]:List da)from z) (by simp);refine⟨⟨e0.mod,S.kind,O,O,nR1 _,λy z c h1 h2=>?_,λy l=>?_,λy c _ h=>?_,λ_=>hd,Around.frames_deeper e0.frames,.inr ⟨O,O⟩,λb z=>absurd z (j b),e0.bs,e0.bsz,λb _ _=>j b,λb z=>absurd z (j b),e0.funs,e0.frf⟩,
  rfl,e0.bare,Un.kept D,⟨_,x.toInCall.ns,λi y v h1 h2 L=>?_⟩,λy c h=>⟨_,x.cell y c h⟩,e0.hok.fresh (nR1 _),λy c h=>?_,λp o=>absurd (show p∈([]:List (da×Obj))from o) (by simp),e0.hok.kept D,?_⟩
 ·exact name_of_addr x.apart (PySem.mem_of_lookup h1) (PySem.mem_of_lookup h2)
 ·have l:scope.names.lookup y=Z .cell\/scope.names.lookup y=Z .free:=l;rcases l with l|l
  ·exact uj l
  ·exact absurd O (S.nofree _ (PySem.mem_of_lookup l))
 ·exact Nat.le_of_lt (x.above y c (PySem.mem_of_lookup h))
 ·have hi:i<vs.length:=by
   unfold jr at h2;by_cases hi:i<vs.length
   ·exact hi
   ·rw[gR1 (by simpa using hi)]at h2;rw[aS]at h2;split at h2<;>cases h2
  have F:vs[i]?=Z v:=by
   unfold jr at h2;rw[gL1 (by simpa using hi),gP1]at h2;cases e:vs[i]? with
   |none=>rw[e]at h2;cases h2
   |some a=>rw[e]at h2;cases h2;rfl
  obtain⟨u,C,G⟩:=r.get F;have o:ps[i]?=Z y:=by
   rw[<- S.pre,aT (by lia)];exact h1
  have m:ps.Nodup:=by rw[<- S.pre];exact S.nd.sublist (List.take_sublist _ _)
  refine⟨u,G,?_⟩;rcases S.par y (gM1 o)with k|k
  ·exact .inl ⟨k,p8 m o C k⟩
  ·obtain⟨c,e⟩:=uj (n:=s.heap.objs.size+1) k;refine .inr ⟨.inl k,c,e,?_⟩;have q:=x.cell y c e;rw[qa m o C (by show scope.names.lookup y≠_;rw[k];decide)]at q;exact q
 ·exact e0.hok.fresh (Nat.le_of_lt (x.above y c (PySem.mem_of_lookup h)))
 ·unfold jr;show _=N.length;rw[lA1,lM1,lR1];lia
theorem JG{CX:yA}{P:db}{w:df}{K:Fg1}{mg:Str->Option c8}{base:dk}{k:Nat}{f:da}{name c:Str}{params:Arguments}{g:List dn}{scope:dq}{aq kV p au d ct wq:c8}{R od:Option da}{F:Array (Option c8)}{N ps:List Str}{sp:Sp}(lk:K.lookup f=some ⟨wq,od,.func (wF1 name c params g scope aq kV p au R d ct),F⟩)(hcd:wC1 K d c=true)(S:gD N ps scope)(len:∀vs H Q E,sp vs H Q E->vs.length=ps.length)(i:∀(A:de) (a:List Env) (s:c9) (H:Hp) (vs:List V) (Q:VK) (E:XK),fI k (A.deeper (envOfC c scope s.heap.objs.size f d))->sp vs H Q E ->
   ∃t,uC (m5 CX P w K mg base N c scope f d A a s H E) g t/\t {nx:=λ_ H'=>Q .non H',rt:=Q} (jr N vs) H):
  jQ P w K mg base CX (k+1) f (wF1 name c params g scope aq kV p au R d ct) ps sp:=by
 refine⟨len,λA a s H L X vs Q E G z hb r m=>?_⟩;have ar:=len _ _ _ _ m;have T:K.In s.heap:=z.mod.kin.keeps λb o e=>(z.bs b o e).1;have C:s.heap.NoLimit:=z.mod.nolimit.keeps λb o e=>(z.bs b o e).1;have j:∀y∈ps.zip X,scope.names.lookup y.1=Z .local\/(scope.names.lookup y.1=Z .cell/\((cellsFrom (s.heap.objs.size+1) scope.names []).lookup y.1).isSome=M):=λ⟨n,v⟩ W=>by
  rcases S.par n (aO W).1 with q|q
  ·exact .inl q
  ·exact .inr ⟨q,PySem.W.cellsFrom_some _ _ _ (.inl q)⟩
 refine codeAny_call_function G.depth (T _ _ lk) O S.co S.gen O (PySem.W.codeRec_of T hcd) (hb _ _ _ _ ?_);refine wpAny_newFunctionEnv_cells S.kind j λU he s1 x=>?_;subst he;refine⟨C.keeps x.toInCall.keep,codeAny_func ?_⟩;obtain⟨t,ht,hq⟩:=i A a s H vs Q E (G.deeper _) m;have I:Inv (m5 CX P w K mg base N c scope f d A a s H E) [] (jr N vs) H s1:=x0 S G.hd z ar r x;refine wpAny_mono (ht [] s1 (jr N vs) H _ I hq) (λfl s' l=>?_) λe s' l=>l;have B:∀{h:St} {H':Hp} {v:V} {u:c8},Inv (m5 CX P w K mg base N c scope f d A a s H E) [] h H' s'->dN v u->Q v H'->CE a P w H s Q u s':=
  λ{h H' v u} ao D q=>⟨v,H',ao.os,ao.bare,ao.base,ao.hok,D,q⟩
 cases fl with
 |ret u=>
  obtain⟨v,h,H',ao,D,q⟩:=l;exact B ao D q
 |next=>
  obtain⟨h,H',ao,q⟩:=l;exact B (v:=V.non) (u:=Value.none) ao O q
 |brk=>
  obtain⟨_,_,_,q⟩:=l;exact False.elim q
 |cont=>
  obtain⟨_,_,_,q⟩:=l;exact False.elim q
end L2
namespace L2
open PySem PySem.Spec PyProof.Rows
section
variable{X:Cx}{x:Str}{p pos:Pos}{e:Expr}{es:List Expr}{t:TA}{id T:String}{r:List V->Hp->VK->Prop}
def LI(r:List V->Hp->VK->Prop)(t:TA):TE:=fun σ H Q=>t σ H λvs H1=>r vs H1 Q
theorem nV (hc:eA X (.builtin id) r)(hg:Gl X x)(hm:X.mg x=none)(hv:bootBuiltins x=some (.builtin id))(ha:PA X (e::es) t)(hn:x≠"__name__":=by decide)(hdb:(x == ("__debug__":Str))=false:=by decide)
  (he:dh (e::es) X.env=(J,eval e X.env)::dh es X.env:=by rfl) (hpl:(backTo pos (dh es X.env)).any (·.1)=J:=by rfl):PE X (.Call (.Name x p) (e::es) [] pos) (LI r t):=by
 intro ag s σ H Q I h;refine wpAny_Call_Name_kw (jD I hg hm hv ?_ hn hdb);exact PyProof.Rows.callWith_builtin1 (eY (ha pos ag s σ H _ I h) λb c ⟨vs,H1,d,f,a⟩=>hc ag c σ H1 vs b Q d f a) he hpl
theorem jX (hc:eA X (.type T) r)(hg:Gl X x)(hm:X.mg x=none)(hv:bootBuiltins x=some (.type T))(ha:PA X (e::es) t)(hn:x≠"__name__":=by decide)(hdb:(x == ("__debug__":Str))=false:=by decide)
  (he:dh (e::es) X.env=(J,eval e X.env)::dh es X.env:=by rfl) (hpl:(backTo pos (dh es X.env)).any (·.1)=J:=by rfl):PE X (.Call (.Name x p) (e::es) [] pos) (LI r t):=by
 intro ag s σ H Q I h;refine wpAny_Call_Name_kw (jD I hg hm hv ?_ hn hdb);exact PyProof.Rows.callWith_type1 (eY (ha pos ag s σ H _ I h) λb c ⟨vs,H1,d,f,a⟩=>hc ag c σ H1 vs b Q d f a) he hpl
end
end L2
namespace HT
open PySem PyProof.Rows
section
open PySem.SeqAt
open PySem.AutoSeq1 (wpAny_loadPart')
open PySem.MeetsSeq PySem.MeetsSeq2 PySem.MeetsSeq3
end
section
variable{prog:db}{w:df}{A:de}{E:c8->c9->Prop}{s:c9}
theorem D1 {t b:da}{vs ws:List c8}{Q:c8->c9->Prop}(ht:IsTup s.heap t vs.toArray)(hb:IsTup s.heap b ws.toArray)(hv:vs≠[])
  (h1:ws=[]->Q (.ref t) s) (h2:ws≠[]->Q (.ref s.heap.objs.size) {s with heap:=s.heap.push {cls:=.type "tuple",data:=.seq (vs++ws).toArray}})
  (hsz:vs.length+ws.length<=di):dj (model prog w) A (binaryOp .Add (.ref t) (.ref b)) Q E s:=by
 obtain⟨⟨cls,k,data,m⟩,h,hc,n,l⟩:=id ht;obtain⟨⟨o,f,j,c⟩,a,g,p,d⟩:=id hb;simp only at hc l g d;subst hc l g d;have e:vs.toArray++ws.toArray=(vs++ws).toArray:=by simp
 by_cases i:ws=[]
 ·exact concat_meets ⟨_,h,rfl⟩ ⟨_,a,rfl⟩ noFill_tuple_add seq_tuple_add PySem.F.slot_tuple_add PySem.F.entry_tuple_add (PySem.F.args_tuple_add_2 _ _)
   (tuple_addW1 t b vs.toArray ws.toArray n p k f m c (by simpa using hv) (by simp[i])) ⟨h,a,h1 i⟩
 ·refine concat_meets ⟨_,h,rfl⟩ ⟨_,a,rfl⟩ noFill_tuple_add seq_tuple_add PySem.F.slot_tuple_add PySem.F.entry_tuple_add (PySem.F.args_tuple_add_2 _ _)
   (tuple_addW2 t b vs.toArray ws.toArray n p k f m c (by simpa using hv) (by simpa using i) (by rw[sT1,sT1];exact hsz)) ⟨h,a,?_⟩
  rw[e];exact h2 i
def sIx(n d:Nat):Option Int->Nat
 |none=>d
 |some v=>if v<0 then(v+(n:Int)).toNat else min v.toNat n
theorem sN(n d:Nat):sIx n d Y=d:=rfl
theorem v9(n d k:Nat):sIx n d (Z (k:Int))=min k n:=by
 show(if(k:Int)<0 then((k:Int)+(n:Int)).toNat else min (k:Int).toNat n)=min k n;rw[aj (by lia),Int.toNat_natCast]
theorem Ft(n d:Nat)(hd:d<=n)(o:Option Int):sIx n d o<=n:=by
 cases o with
 |none=>exact hd
 |some v=>
  show(if v<0 then(v+(n:Int)).toNat else min v.toNat n)<=n;by_cases a:v<0
  ·rw[ak a];lia
  ·rw[aj a];exact Nat.min_le_right _ _
theorem w5(v:Int)(n d:Nat):(if v<0 then max (v+(n:Int)) 0 else min v (n:Int))=((sIx n d (Z v):Nat):Int):=by
 show(if v<0 then max (v+(n:Int)) 0 else min v (n:Int))=(((if v<0 then(v+(n:Int)).toNat else min v.toNat n):Nat):Int);by_cases a:v<0
 ·simp only[ak a];lia
 ·simp only[aj a];lia
theorem vy(lo hi:Option Int)(n:Nat):Builtin.Slice.sliceAdjust lo hi 1 (n:Int)=(((sIx n 0 lo:Nat):Int),((sIx n n hi:Nat):Int)):=by
 have h1:¬ ((1:Int)<0):=by lia
 unfold Builtin.Slice.sliceAdjust;simp only[h1,if_false];refine Prod.ext ?_ ?_
 ·cases lo with
  |none=>rfl
  |some v=>exact w5 v n 0
 ·cases hi with
  |none=>rfl
  |some v=>exact w5 v n n
theorem uT(i j:Nat):Builtin.Slice.slicePlaces (i:Int) (j:Int) 1=j-i:=by
 unfold Builtin.Slice.slicePlaces;have h1:(1:Int)>0:=by lia
 simp only[h1,if_true,Int.ediv_one];split<;>lia
theorem hD{v:c8}{o:Option Int}{Q:Option Int->c9->Prop}(p:IsPart v o)(h:Q o s):dj (model prog w) A (Builtin.Slice.slicePartIndex v) Q E s:=by
 cases p with
 |none=>exact slicePart_none h
 |int i t=>exact slicePart_int h
theorem iE{e:da}{d c:c8}{lo hi:Option Int}{n:Nat}{Q:Int×Int×Nat->c9->Prop}(hs:s.heap.IsSliceOf e d c .none)(pl:IsPart d lo)(g:IsPart c hi)(h:Q (((sIx n 0 lo:Nat):Int),1,sIx n n hi-sIx n 0 lo) s):dj (model prog w) A (Builtin.Slice.sliceApplied (.ref e) (pure (n:Int))) Q E s:=by
 obtain⟨i,a,f,b⟩:=id hs;unfold Builtin.Slice.sliceApplied Builtin.Slice.sliceFields;refine wB1 (wB1 (wpAny_field a b (x:=d) O (wB1 (wpAny_field a b (x:=c) O (wB1 (wpAny_field a b (x:=.none) O (wP1 ?_)))))));refine wB1 (slicePart_none ?_);show dj _ _ (if((1:Int) == 0)=M then _ else _) _ _ s;rw[aj (by decide)];refine wB1 (hD pl (wB1 (hD g (wB1 (wP1 ?_)))));show dj _ _ (match Builtin.Slice.sliceAdjust lo hi 1 (n:Int)with|(lo,hi)=>pure (lo,(1:Int),Builtin.Slice.slicePlaces lo hi 1)) _ _ s;rw[vy lo hi n];show dj _ _ (pure (((sIx n 0 lo:Nat):Int),(1:Int),Builtin.Slice.slicePlaces ((sIx n 0 lo:Nat):Int) ((sIx n n hi:Nat):Int) 1)) _ _ s;rw[uT];exact wP1 h
theorem zP(xs:Array c8)(i k:Nat):((af k).filterMap λ(m:Nat)=>xs[((i:Int)+(m:Int)*1).toNat]?).toArray=((xs.toList.drop i).take k).toArray:=by
 have e:(λ(m:Nat)=>xs[((i:Int)+(m:Int)*1).toNat]?)=λm=>xs[i+m]?:=by
  funext m
  have:((i:Int)+(m:Int)*1).toNat=i+m:=by lia
  rw[this]
 rw[e];have:=pick_run xs i k;rw[aU]at this;have a:((λx=>xs[x]?)∘λx=>i+x)=λm=>xs[i+m]?:=rfl;rw[a]at this;rw[this]
theorem lz {t f:da}{items:Array c8}{i g:c8}{lo hi:Option Int}{Q:c8->c9->Prop}(ht:IsTup s.heap t items)(hs:s.heap.IsSliceOf f i g .none)(pl:IsPart i lo)(l:IsPart g hi)
  (hw:¬ (sIx items.size 0 lo=0/\sIx items.size items.size hi=items.size))
  (h:Q (.ref s.heap.objs.size) {s with heap:=s.heap.push {cls:=.type "tuple",data:=.seq ((items.toList.drop (sIx items.size 0 lo)).take (sIx items.size items.size hi-sIx items.size 0 lo)).toArray}})
  (hsz:items.size<=di):dj (model prog w) A (getItem (.ref t) (.ref f)) Q E s:=by
 have a:sizeOk (.seq ((items.toList.drop (sIx items.size 0 lo)).take (sIx items.size items.size hi-sIx items.size 0 lo)).toArray):=by
  show((items.toList.drop (sIx items.size 0 lo)).take (sIx items.size items.size hi-sIx items.size 0 lo)).toArray.size<=di;rw[sT1,aR,aV,aI];omega
 have o:sIx items.size items.size hi<=items.size:=Ft _ _ (nR1 _) hi;obtain⟨j,d,e,k⟩:=id hs;have b:s.TypeIs (.ref f) "slice":=⟨j,d,e⟩;unfold getItem
 try with_reducible refine wpAny_holding ?_
 first|refine wB1 (wP1 ?_)|skip
 refine wB1 (wpAny_sequenceKey ht.typeIs (by decide) ?_);refine wB1 (wpAny_callSpecial?_slot (name:=Str.ofString "__getitem__") ht.typeIs PyProof.Rows.slot_tuple_getitem
  (wE1 PyProof.Rows.slot_tuple_getitem ht.typeIs entry_tuple_getitem ?_ (args_tuple_getitem _ _)))
 show dj _ _ (Builtin.Tuple.tupleItemsOf (.ref t) >>= _) _ _ s;refine wB1 (tupleItemsOf_ ht ?_);refine wB1 (wpAny_typeOf b ?_);rw[ak (by decide)];refine wB1 (iE hs pl l ?_);have c:¬ ((((sIx items.size 0 lo:Nat):Int) == 0&&(1:Int) == 1&&(sIx items.size items.size hi-sIx items.size 0 lo) == items.size)=M):=by
  intro q;rw[bA1,bA1]at q;have n:((sIx items.size 0 lo:Nat):Int)=0:=eq_of_beq q.1.1;have p:sIx items.size items.size hi-sIx items.size 0 lo=items.size:=eq_of_beq q.2;exact hw ⟨by omega,by omega⟩
 show dj _ _ (if(((sIx items.size 0 lo:Nat):Int) == 0&&(1:Int) == 1&&(sIx items.size items.size hi-sIx items.size 0 lo) == items.size)=M then _ else _) _ _ s;rw[aj c,zP]
 first
  |exact wB1 (m:=Builtin.Tuple.tupleExact _) (wO1 (wP1 ⟨_,rfl,wP1 h⟩) a)
  |exact wB1 (m:=Builtin.Tuple.tupleExact _) (wO1 (wB1 (wP1 (wP1 ⟨_,rfl,wP1 h⟩))) a)
  |exact wB1 (wB1 (m:=Builtin.Tuple.tupleExact _) (wO1 (wP1 (wP1 ⟨_,rfl,wP1 h⟩)) a))
  |exact wB1 (wB1 (m:=Builtin.Tuple.tupleExact _) (wO1 (wP1 ⟨_,rfl,wP1 h⟩) a))
end
end HT
namespace L2
open PySem PySem.Spec PyProof.Rows
abbrev TO:=St->Hp->(Option Int->Hp->Prop)->Prop
def PO(X:Cx)(e:Option Expr)(t:TO):Prop:=
 ∀(ag:List (da×Obj)) (s:c9) (σ:St) (H:Hp) (Q:Option Int->Hp->Prop),Inv X ag σ H s->t σ H Q ->
  dj (model X.prog X.w) X.A (evalPart e X.env) (λu s'=>∃o H',Inv X ag σ H' s'/\IsPart u o/\Q o H') X.xe s
def B7:TO:=λ_ H Q=>Q Y H
def Ig(t:TE):TO:=fun σ H Q=>t σ H λx H1=>∃i,x = .int i/\Q (Z i) H1
section
variable{X:Cx}{e:Expr}{te:TE}{lo hi:Option Expr}{tl th:TO}{pos p2:Pos}
theorem CD:PO X Y B7:=by
 intro ag s σ H Q I h;rw[evalPart_none];exact wP1 ⟨Y,H,I,.none,h⟩
theorem CC(h:PE X e te):PO X (Z e) (Ig te):=by
 intro ag s σ H Q I b;rw[evalPart_some];refine eY (h ag s σ H _ I b) λu f ⟨x,H1,c,d,a⟩=>?_;obtain⟨i,rfl,q⟩:=a;obtain⟨t,rfl⟩:=d;exact⟨Z i,H1,c,.int i t,q⟩
def BV(X:Cx)(r:V->Option Int->Option Int->Hp->VK->Prop):Prop:=
 ∀(ag:List (da×Obj)) (s:c9) (σ:St) (H:Hp) (x:V) (v vl vu:c8) (lo hi:Option Int) (sl:da) (Q:VK),Inv X ag σ H s->dN x v->s.heap.IsSliceOf sl vl vu .none->IsPart vl lo->IsPart vu hi->r x lo hi H Q ->
  ∃T id,typeLookup (.type T) "__getitem__"=pure (Z (.builtin id))/\s.TypeIs v T/\dj (model X.prog X.w) X.A (getItem v (.ref sl)) (EP X ag σ Q) X.xe s
theorem BV.or{r a:V->Option Int->Option Int->Hp->VK->Prop}(h:BV X r)(h':BV X a):BV X (λx lo hi H Q=>r x lo hi H Q\/a x lo hi H Q):=by
 intro ag s σ H x v d b lo hi f Q I c e pl g q;rcases q with q|q
 ·exact h ag s σ H x v d b lo hi f Q I c e pl g q
 ·exact h' ag s σ H x v d b lo hi f Q I c e pl g q
def L0(r:V->Option Int->Option Int->Hp->VK->Prop)(te:TE)(tl th:TO):TE:=fun σ H Q=>te σ H λx H1=>tl σ H1 λl H2=>th σ H2 λu H3=>r x l u H3 Q
theorem zR{r:V->Option Int->Option Int->Hp->VK->Prop}(hr:BV X r)(he:PE X e te)(k:PO X lo tl)(n:PO X hi th):PE X (.Subscript e (.Slice lo hi Y p2) pos) (L0 r te tl th):=by
 intro ag s σ H Q I h;refine Subscript_ (eY (he ag s σ H _ I h) λv z ⟨x,H1,A,t,i⟩=>?_);refine wpAny_Slice (eY (k ag z σ H1 _ A i) λc o ⟨l,H2,p,pl,g⟩=>eY (n ag o σ H2 _ p g) λd a ⟨u,f,j,w,D⟩=>?_);rw[evalPart_none];refine wP1 ?_;have y:Inv X ag σ f {a with heap:=a.heap.push {cls:=.type "slice",data:=.fields #[c,d,.none]}}:=j.kept (t':=a.toks) λb E q=>hP1 _ q;obtain⟨T,id,B,C,m⟩:=hr ag {a with heap:=a.heap.push {cls:=.type "slice",data:=.fields #[c,d,.none]}} σ f x v c d l u a.heap.objs.size Q y t (Heap.IsSliceOf.new ..) pl w D;show dj (model X.prog X.w) X.A (subscriptTail e (.Slice lo hi Y p2) v (.ref a.heap.objs.size)) (EP X ag σ Q) X.xe {a with heap:=a.heap.push {cls:=.type "slice",data:=.fields #[c,d,.none]}};exact tail_any (ops:=[.ref a.heap.objs.size,v]) C B m (by with_unfolding_all rfl)
def ub(xs:List V)(lo hi:Option Int):List V:=(xs.drop (HT.sIx xs.length 0 lo)).take (HT.sIx xs.length xs.length hi-HT.sIx xs.length 0 lo)
theorem mO(xs:List V)(lo hi:Option Int):(ub xs lo hi).length<=xs.length:=by
 unfold ub;rw[aR,aV];lia
def KQ(K:Fg1):V->Option Int->Option Int->Hp->VK->Prop:=λx lo hi H Q=>∃a xs,x = .ref a/\jP K H a xs /\
 ¬ (HT.sIx xs.length 0 lo=0/\HT.sIx xs.length xs.length hi=xs.length) /\ ∀p,H p=Y->Q (.ref p) (upd H p (.tup (ub xs lo hi)))
theorem Fo:BV X (KQ X.K):=by
 intro ag s σ H x v n m lo hi p Q I i k pl l h;obtain⟨a,xs,rfl,g,j,q⟩:=h;cases i;obtain⟨d,r,e,f⟩:=I.tuple g;have c:d.toArray.size=xs.length:=by rw[sT1];exact r.length.symm
 refine⟨"tuple",_,PyProof.Rows.slot_tuple_getitem.lookup,e.typeIs,?_⟩;refine HT.lz e k pl l (by rw[c];exact j) ?_ (by rw[c];exact f);rw[c];refine⟨.ref s.heap.objs.size,_,I.laid (t':=s.toks) (o:=.tup (ub xs lo hi)) (λb t q=>hP1 _ q) (nR1 _) ?_,O,q _ (I.hok.fresh (nR1 _))⟩;exact⟨aC (mO xs lo hi) f,_,(r.drop (HT.sIx xs.length 0 lo)).take (HT.sIx xs.length xs.length hi-HT.sIx xs.length 0 lo),IsTup.new _ _⟩
def IF(K:Fg1):R2:=λx y H Q=>∃a b xs ys,x = .ref a/\y = .ref b/\jP K H a xs/\jP K H b ys/\xs≠[]/\xs.length+ys.length<=di /\
 (ys=[]->Q (.ref a) H)/\(ys≠[] -> ∀p,H p=Y->Q (.ref p) (upd H p (.tup (xs++ys))))
theorem dY.nil_iff{xs:List V}{a:List c8}(r:dY xs a):a=[]↔xs=[]:=by
 cases r with
 |nil=>simp
 |cons _ _=>simp
theorem CU:gg X (binaryOp .Add) (IF X.K):=by
 intro ag s σ H x y v u Q I i m h;obtain⟨a,b,xs,ys,rfl,rfl,k,l,g,e,f,n⟩:=h;cases i;cases m;obtain⟨p,c,j,_⟩:=I.tuple k;obtain⟨d,r2,p2,_⟩:=I.tuple l;refine HT.D1 j p2 (λz=>g (c.nil_iff.mp z)) (λz=>⟨.ref a,H,I,O,f (r2.nil_iff.mp z)⟩) (λz=>?_) (by rw[<- c.length,<- r2.length];exact e);refine⟨.ref s.heap.objs.size,_,I.laid (t':=s.toks) (o:=.tup (xs++ys)) (λb r q=>hP1 _ q) (nR1 _) ?_,O,n (λw=>z (r2.nil_iff.mpr w)) _ (I.hok.fresh (nR1 _))⟩;exact⟨by rw[lA1];exact e,_,c.append r2,IsTup.new _ _⟩
end
end L2
namespace L2
open PySem PySem.Spec PyProof.Rows
def xZ(n:Nat)(i:Int):Option Nat:=if 0<=i then(if i<n then Z i.toNat else Y)else if-(n:Int)<=i then Z (i+n).toNat else Y
def vw{α:Type}(xs:List α)(i:Int):Option α:=(xZ xs.length i).bind λj=>xs[j]?
theorem rz{n:Nat}{i:Int}{j:Nat}(h:xZ n i=Z j):seqIndex? i n=Z j/\j<n /\ -(n:Int)<=i/\i<n:=by
 unfold xZ at h;by_cases a:0<=i
 ·rw[ak a]at h;by_cases h1:i<n
  ·rw[ak h1]at h;have e:i.toNat=j:=Option.some.inj h;exact⟨by rw[seqIndex_of a h1,e],by lia,by lia,h1⟩
  ·rw[aj h1]at h;cases h
 ·rw[aj a]at h;by_cases h1: -(n:Int)<=i
  ·rw[ak h1]at h;have e:(i+n).toNat=j:=Option.some.inj h;exact⟨by rw[seqIndex_neg (by lia) h1,e],by lia,h1,by lia⟩
  ·rw[aj h1]at h;cases h
theorem xa{α:Type}{xs:List α}{i:Int}{v:α}(h:vw xs i=Z v):∃j,seqIndex? i xs.length=Z j/\xs[j]?=Z v/\j<xs.length /\ -(xs.length:Int)<=i/\i<xs.length:=by
 unfold vw at h;cases e:xZ xs.length i with
 |none=>rw[e]at h;cases h
 |some j=>
  rw[e]at h;obtain⟨h1,h2,a,b⟩:=rz e;exact⟨j,h1,h,h2,a,b⟩
def nr(b:Expr):Prop:=∀o i,subscripted b J o i=operate [o,i] (getItem o i)
def E2(X:Cx)(r:R2):Prop:=
 ∀(value slice:Expr) (ag:List (da×Obj)) (s:c9) (σ:St) (H:Hp) (x y:V) (v u:c8) (Q:VK),Inv X ag σ H s->dN x v->dN y u->r x y H Q ->
  subscripted slice J v u=operate [v,u] (getItem v u)->dj (model X.prog X.w) X.A (subscriptTail value slice v u) (EP X ag σ Q) X.xe s
def HP(X:Cx)(id:String)(r:V->List V->Hp->VK->Prop):Prop:=
 ∀(ag:List (da×Obj)) (s:c9) (σ:St) (H:Hp) (x:V) (xs:List V) (v:c8) (us:List c8) (Q:VK),Inv X ag σ H s->dN x v->dY xs us->r x xs H Q ->
  dj (model X.prog X.w) X.A (call (.builtin id) (v::us)) (EP X ag σ Q) X.xe s
section
variable{X:Cx}{a b:Expr}{ta tb:TE}{pos:Pos}
theorem IN{r:R2}(hr:E2 X r)(ha:PE X a ta)(hb:PE X b tb)(hs:nr b):PE X (.Subscript a b pos) (Ih r ta tb):=by
 intro ag s σ H Q I h;exact Subscript_ (Hz ha hb I h λv u f x y H2 e c d q=>hr a b ag f σ H2 x y v u Q e c d q (hs _ _))
def KW(K:Fg1):R2:=λx y H Q=>∃p xs i v,x = .ref p/\y = .int i/\lP K H p xs/\vw xs i=Z v/\Q v H
def KU(K:Fg1):R2:=λx y H Q=>∃p xs i v,x = .ref p/\y = .int i/\jP K H p xs/\vw xs i=Z v/\Q v H
theorem Dx:E2 X (KW X.K):=by
 intro value b ag s σ H x y v u Q I n C h g;obtain⟨p,xs,i,z,rfl,rfl,l,o,q⟩:=h;cases n;obtain⟨t,rfl⟩:=C;obtain⟨e,r,pl,E⟩:=I.list l;obtain⟨j,h1,h2,F,B,A⟩:=xa o;obtain⟨w,f,d⟩:=r.get h2;have m:=r.length;have D:=l6;have a:EP X ag σ Q w s:=⟨z,H,I,d,q⟩;by_cases k:0<=i
 ·have c:i.toNat=j:=by
   rw[seqIndex_of k A]at h1;exact Option.some.inj h1
  exact item_listR pl.isList k (by lia) (by rw[c];simpa using f) a g
 ·have c:(i+(e.toArray.size:Int)).toNat=j:=by
   rw[seqIndex_neg (by lia) B]at h1;rw[sT1,<- m];exact Option.some.inj h1
  exact subscriptTail_builtinR (x:=w) pl.isList.typeIs slot_list_getitem.lookup
   (wpAny_getItem_list_neg (Q:=λr s'=>r=w/\EP X ag σ Q r s') pl.isList (by lia) (by rw[sT1]<;>lia) (by lia) (by rw[c];simpa using f) ⟨O,a⟩) g
theorem G8:E2 X (KU X.K):=by
 intro value a ag s σ H x y v u Q I f m h l;obtain⟨p,xs,i,z,rfl,rfl,d,g,q⟩:=h;cases f;obtain⟨t,rfl⟩:=m;obtain⟨n,r,pl,C⟩:=I.tuple d;obtain⟨j,h1,h2,D,A,o⟩:=xa g;obtain⟨w,k,c⟩:=r.get h2;have e:=r.length;have B:=l6;have b:EP X ag σ Q w s:=⟨z,H,I,c,q⟩;exact subscriptTail_builtinR (x:=w) pl.typeIs slot_tuple_getitem.lookup
  (getItem_tuple (j:=j) (Q:=λr s'=>r=w/\EP X ag σ Q r s') pl (by lia) (by lia) (by rw[sT1,<- e];exact h1) (by simpa using k) ⟨O,b⟩) l
theorem u8(its:List c8)(n j:Nat)(u:c8):Obj.mapSeq (·.setIfInBounds j u) {cls:=.type "list",data:=.seq its.toArray n}={cls:=.type "list",data:=.seq (its.set j u).toArray n}:=by
 simp[Obj.mapSeq]
theorem Inv.lst{ag:List (da×Obj)}{σ:St}{H:Hp}{s:c9}{p:da}{xs:List V}(I:Inv X ag σ H s)(h:H p=some (.lst xs)):
  ∃(its:List c8) (n:Nat),dY xs its/\s.heap.get? p=Z {cls:=.type "list",data:=.seq its.toArray n}/\xs.length<=di:=by
 obtain⟨z,its,n,r,e⟩:=I.hok p _ h;exact⟨its,n,r,e,z⟩
theorem Inv.lstUpd {ag:List (da×Obj)}{σ:St}{H:Hp}{s:c9}{p:da}{xs ys:List V}{its its':List c8}{n n':Nat}{f:Obj->Obj}(I:Inv X ag σ H s)(h:H p=some (.lst xs))
  (ho:s.heap.get? p=Z {cls:=.type "list",data:=.seq its.toArray n}) (hf:f {cls:=.type "list",data:=.seq its.toArray n}={cls:=.type "list",data:=.seq its'.toArray n'}) (r:dY ys its') (hz:ys.length<=di) (t:Nat):
  Inv X ag σ (upd H p (.lst ys)) {s with heap:=s.heap.update p f,toks:=t}:=by
 have e:(s.heap.update p f).get? p=Z {cls:=.type "list",data:=.seq its'.toArray n'}:=by
  rw[hW1 f ho (by rw[hf]<;>rfl),hf]
 refine I.write (x:=p) (e:=p) (by rw[h];trivial) (.inl O) (λb u a q=>(Heap.get?_update_other _ _ (Ne.symm a)).trans q) ⟨_,e⟩ ?_;exact⟨hz,its',n',r,e⟩
def IC:V->V->V->Hp->(Hp->Prop)->Prop:=λo i v H Q=>∃p xs k j,o = .ref p/\i = .int k/\H p=Z (.lst xs)/\xZ xs.length k=Z j/\Q (upd H p (.lst (xs.set j v)))
theorem zw:vF X IC:=by
 intro ag s σ H o i v D B u Q I w y A h;obtain⟨p,xs,k,j,rfl,rfl,f,z,q⟩:=h;cases w;obtain⟨t,rfl⟩:=y;obtain⟨a,n,r,c,x⟩:=I.lst f;obtain⟨h1,h2,m,e⟩:=rz z;have b:=r.length;have C:=l6;have l:Inv X ag σ (upd H p (.lst (xs.set j v))) {s with heap:=s.heap.update p (Obj.mapSeq (·.setIfInBounds j u))}:=
  I.lstUpd f c (u8 a n j u) (r.set A j) (by rw[aW];exact x) s.toks
 by_cases g:0<=k
 ·have d:k.toNat=j:=by
   rw[seqIndex_of g e]at h1;exact Option.some.inj h1
  exact PySem.W.ki_setAt c g (by lia) (by rw[sT1,<- b];exact e) (by rw[d];exact⟨_,l,q⟩)
 ·have d:(k+(a.toArray.size:Int)).toNat=j:=by
   rw[seqIndex_neg (by lia) m]at h1;rw[sT1,<- b];exact Option.some.inj h1
  exact PySem.W.ki_setBack c (by lia) (by rw[sT1,<- b];exact m) (by lia) (by rw[d];exact⟨_,l,q⟩)
theorem qt(lo hi:Option Int)(n:Nat):(sliceBounds lo hi Y n).1=((HT.sIx n 0 lo:Nat):Int)/\(sliceBounds lo hi Y n).2.1=((HT.sIx n n hi:Nat):Int)/\(sliceBounds lo hi Y n).2.2=1:=by
 refine⟨?_,?_,O⟩
 ·cases lo with
  |none=>simp[sliceBounds,HT.sIx]
  |some i=>
   simp only[sliceBounds,HT.sIx,Option.getD_none,show(1:Int)>0 by decide,if_true];by_cases h:i<0
   ·simp only[h,if_true]<;>lia
   ·simp only[h,if_false]<;>lia
 ·cases hi with
  |none=>simp[sliceBounds,HT.sIx]
  |some i=>
   simp only[sliceBounds,HT.sIx,Option.getD_none,show(1:Int)>0 by decide,if_true];by_cases h:i<0
   ·simp only[h,if_true]<;>lia
   ·simp only[h,if_false]<;>lia
theorem oX(its:List c8)(lo hi:Option Int):slicePick its.toArray lo hi Y=((its.drop (HT.sIx its.length 0 lo)).take (HT.sIx its.length its.length hi-HT.sIx its.length 0 lo)).toArray:=by
 obtain⟨h1,h2,a⟩:=qt lo hi its.toArray.size;unfold slicePick;rw[h1,h2,a];simp only[sliceRange_one,pick_run,sT1]<;>rfl
def KS(K:Fg1):V->Option Int->Option Int->Hp->VK->Prop:=λx lo hi H Q=>∃a xs,x = .ref a/\lP K H a xs /\ ∀p,H p=Y->Q (.ref p) (upd H p (.lst (ub xs lo hi)))
theorem Ci:BV X (KS X.K):=by
 intro ag s σ H x v m l lo hi n Q I f i pl j h;obtain⟨a,xs,rfl,e,q⟩:=h;cases f;obtain⟨k,r,d,g⟩:=I.list e;have c:=r.length;refine⟨"list",_,slot_list_getitem.lookup,d.isList.typeIs,?_⟩;refine wpAny_getItem_list_slice d.isList i pl j .none (by simp) ?_ (by rw[sT1]<;>lia);rw[oX,<- c];refine⟨.ref s.heap.objs.size,_,I.laid (t':=s.toks) (o:=.lst (ub xs lo hi)) (λb p q=>hP1 _ q) (nR1 _) ?_,O,q _ (I.hok.fresh (nR1 _))⟩;exact⟨aC (mO xs lo hi) g,_,0,(r.drop (HT.sIx xs.length 0 lo)).take (HT.sIx xs.length xs.length hi-HT.sIx xs.length 0 lo),hS1 _ O⟩
def km:V->Bool
 | .non=>M
 | .bl _=>M
 | .int _=>M
 | .str _=>M
 |_=>J
def uA:V->V->Bool
 | .non,.non=>M
 | .bl a,.bl b=>a == b
 | .bl a,.int b=>(if a then 1 else 0) == b
 | .int a,.bl b=>a == (if b then 1 else 0)
 | .int a,.int b=>a == b
 | .str a,.str b=>a == b
 |_,_=>J
theorem kH{A:de}{s:c9}{y x:V}{u v:c8}(f:dN y u)(c:dN x v)(g:km y=M)(e:km x=M):SeqAt.EqAt A s u v (uA y x):=by
 cases y with
 |non=>
  cases f;cases x with
  |non=>cases c;exact SeqAt.EqAt.same _
  |bl b=>cases c;exact SeqAt.EqAt.none_bool b
  |int b=>obtain⟨t,rfl⟩:=c;exact SeqAt.EqAt.none_int b t
  |str b=>obtain⟨t,rfl⟩:=c;exact SeqAt.EqAt.none_str b t
  |_=>exact absurd (show J=M from e) aJ
 |bl a=>
  cases f;cases x with
  |non=>cases c;exact SeqAt.EqAt.bool_none a
  |bl b=>cases c;exact SeqAt.EqAt.bool_bool a b
  |int b=>obtain⟨t,rfl⟩:=c;exact SeqAt.EqAt.bool_int a b t
  |str b=>obtain⟨t,rfl⟩:=c;exact SeqAt.EqAt.bool_str a b t
  |_=>exact absurd (show J=M from e) aJ
 |int a=>
  obtain⟨d,rfl⟩:=f;cases x with
  |non=>cases c;exact SeqAt.EqAt.int_none a d
  |bl b=>cases c;exact SeqAt.EqAt.int_bool a d b
  |int b=>obtain⟨t,rfl⟩:=c;exact SeqAt.EqAt.int_int a d b t
  |str b=>obtain⟨t,rfl⟩:=c;exact SeqAt.EqAt.int_str a d b t
  |_=>exact absurd (show J=M from e) aJ
 |str a=>
  obtain⟨d,rfl⟩:=f;cases x with
  |non=>cases c;exact SeqAt.EqAt.str_none a d
  |bl b=>cases c;exact SeqAt.EqAt.str_bool a d b
  |int b=>obtain⟨t,rfl⟩:=c;exact SeqAt.EqAt.str_int a d b t
  |str b=>obtain⟨t,rfl⟩:=c;exact SeqAt.EqAt.str_str a d b t
  |_=>exact absurd (show J=M from e) aJ
 |_=>exact absurd (show J=M from g) aJ
theorem si:eA X (.builtin "len") (λxs H Q=>∃p ys,xs=[.ref p]/\(lP X.K H p ys\/jP X.K H p ys)/\Q (.int ys.length) H):=by
 intro ag s σ H xs g Q I r h;obtain⟨p,ys,rfl,b,q⟩:=h;obtain⟨u,rfl,e⟩:=hC r;cases e;have i:=l6;rcases b with b|b
 ·obtain⟨d,c,pl,f⟩:=I.list b;have a:=c.length;exact Calls.call_len_list pl.isList (by simp only[sT1]<;>lia) ⟨.int ys.length,H,I.tok _,⟨s.toks+1,by rw[sT1,a]⟩,q⟩
 ·obtain⟨d,c,pl,f⟩:=I.tuple b;have a:=c.length;exact len_tuple pl (by simp only[sT1]<;>lia) ⟨.int ys.length,H,I.tok _,⟨s.toks+1,by rw[sT1,a]⟩,q⟩
theorem sf:eA X (.builtin "len") (λxs H Q=>∃z,xs=[.str z]/\z.length<=di/\Q (.int z.length) H):=by
 intro ag s σ H xs c Q I r h;obtain⟨z,rfl,b,q⟩:=h;obtain⟨u,rfl,t,rfl⟩:=hC r;have a:=l6;exact len_str (by lia) ⟨.int z.length,H,I.tok _,⟨_,O⟩,q⟩
theorem se:eA X (.type "list") (λxs H Q=>∃p ys,xs=[.ref p]/\(lP X.K H p ys\/jP X.K H p ys) /\ ∀l,H l=Y->Q (.ref l) (upd H l (.lst ys))):=by
 intro ag s σ H xs w Q I r h;obtain ⟨p,ys,rfl,f,q⟩:=h;obtain ⟨u,rfl,v⟩:=hC r;cases v;have k:∀ (a:List c8),dY ys a->ys.length<=di -> ∀ (h':dk) (d:Nat),(∀ b o',s.heap.get? b=some o'->h'.get? b=some o') ->
   h'.get? s.heap.objs.size=Z {cls:=.type "list",dict:=Y,data:=.seq a.toArray d,slots:= #[]}->EP X ag σ Q (.ref s.heap.objs.size) {s with heap:=h'}:=λa c i h' d g e=>
  ⟨.ref s.heap.objs.size,_,I.laid (t':=s.toks) g (nR1 _) (show eI X.prog X.w _ h' _ (.lst ys)from⟨i,a,d,c,e⟩),O,q _ (I.hok.fresh (nR1 _))⟩
 rcases f with f|f
 ·obtain⟨a,c,pl,i⟩:=I.list f;have j:=c.length;obtain⟨o,t,hc,n,m⟩:=pl.isList;exact call_list_seq p (.inl O) t hc m (λh' d g e=>k a c i h' d g e) (by simp only[sT1]<;>lia)
 ·obtain⟨a,c,pl,i⟩:=I.tuple f;have j:=c.length;obtain⟨o,t,hc,n,m⟩:=pl;exact call_list_seq p (.inr O) t hc m (λh' d g e=>k a c i h' d g e) (by simp only[sT1]<;>lia)
theorem ph:eA X (.type "tuple") (λxs H Q=>∃p ys,xs=[.ref p]/\((lP X.K H p ys /\ ∀l,H l=Y->Q (.ref l) (upd H l (.tup ys)))\/(jP X.K H p ys/\Q (.ref p) H))):=by
 intro ag s σ H xs n Q I r h;obtain⟨p,ys,rfl,h⟩:=h;obtain⟨u,rfl,j⟩:=hC r;cases j;rcases h with⟨d,q⟩|⟨d,q⟩
 ·obtain ⟨a,c,pl,f⟩:=I.list d;have i:=c.length;refine call_tuple_list pl.isList (fun h' k=>?_) (by simp only [sT1]<;>lia);have g:Inv X ag σ H {s with heap:=h'}:=I.kept (t':=s.toks) k;have m:Inv X ag σ (upd H h'.objs.size (.tup ys)) {s with heap:=h'.push {cls:=.type "tuple",data:=.seq a.toArray}}:=
   g.laid (t':=s.toks) (λb o e=>hP1 _ e) (nR1 _) (show eI X.prog X.w _ _ _ (.tup ys)from⟨f,a,c,IsTup.new _ _⟩)
  exact⟨.ref h'.objs.size,_,m,O,q _ (g.hok.fresh (nR1 _))⟩
 ·obtain⟨a,c,pl,f⟩:=I.tuple d;exact call_tuple_same pl ⟨.ref p,H,I,O,q⟩
def LD(K:Fg1)(T:String)(x:V)(H:Hp):Prop:=match x with
 | .str _=>T="str"
 | .int _=>T="int"
 | .ref p=>(T="list" /\ ∃ xs,lP K H p xs)\/(T="tuple" /\ ∃ o,K.lookup p=some o/\o.cls = .type "tuple"/\o.dict=none) \/
   (T="dict"/\((∃kvs,H p=Z (.dK kvs)) \/ ∃kvs,H p=Z (.dT kvs)))\/(T="set" /\ ∃S n,H p=Z (.set S n))
 |_=>False
theorem E9{ag:List (da×Obj)}{σ:St}{H:Hp}{s:c9}{T:String}{x:V}{v:c8}(I:Inv X ag σ H s)(r:dN x v)(ty:LD X.K T x H):
  s.TypeIs v T /\ ∀a,v = .ref a -> ∃g,s.heap.get? a=Z g/\g.dict=Y:=by
 cases x with
 |str z=>
  obtain⟨t,rfl⟩:=r;cases(show T="str" from ty);exact⟨typeIs_str s z t,λ_ e=>nomatch e⟩
 |int i=>
  obtain⟨t,rfl⟩:=r;cases(show T="int" from ty);exact⟨typeIs_int s i t,λ_ e=>nomatch e⟩
 |ref p=>
  cases r;rcases ty with⟨rfl,xs,h⟩|⟨rfl,o,b,hc,d⟩|⟨rfl,b⟩|⟨rfl,S,n,b⟩
  ·obtain⟨j,_,pl,_⟩:=I.list h;refine⟨pl.isList.typeIs,λa e=>?_⟩;cases e;obtain⟨o,n,e,c,d,_⟩:=pl;exact⟨o,e,d⟩
  ·refine⟨⟨o,I.kIn p o b,hc⟩,λa e=>?_⟩;cases e;exact⟨o,I.kIn _ o b,d⟩
  ·have z:∃ o,s.heap.get? p=some o/\o.ExactDict:=by
    rcases b with⟨kvs,b⟩|⟨kvs,b⟩
    ·obtain⟨_,_,_,_,o,_,_,e,ex,_⟩:=I.hok p _ b;exact⟨o,e,ex⟩
    ·obtain⟨_,_,_,_,o,_,_,e,ex,_⟩:=I.hok p _ b;exact⟨o,e,ex⟩
   obtain⟨o,e,ex⟩:=z;refine⟨⟨o,e,ex.1⟩,λa f=>?_⟩;cases f;exact⟨o,e,ex.2.1⟩
  ·obtain⟨o,_,_,_,e,ex,_⟩:=I.hok p _ b;refine⟨⟨o,e,ex.1⟩,λa f=>?_⟩;cases f;exact⟨o,e,ex.2.1⟩
 |_=>exact False.elim ty
def L6(K:Fg1)(T:String)(r:V->List V->Hp->VK->Prop)(to:TE)(t:TA):TE:=fun σ H Q=>to σ H λx H1=>LD K T x H1/\t σ H1 λxs H2=>r x xs H2 Q
variable{o e:Expr}{es:List Expr}{to:TE}{t:TA}{name:Str}{apos cpos:Pos}{T id:String}{r:V->List V->Hp->VK->Prop}
theorem IP (i:PlainAttrs T)(slot:Slot T name id)(hty:typeOf (.builtin id)=pure (.type "method_descriptor"))(hm:HP X id r)(ho:PE X o to)(ha:PA X (e::es) t)
  (hbase:attributeBase o name X.env (eval o X.env)=eval o X.env)
  (hfew:((backTo cpos (dh (e::es) X.env)).all (λx=> !x.1)&&(backToKw cpos (keywordEach [] X.env)).all (λx=>x.1.isSome)
   && decide ((e::es).length+([]:List Keyword).length+(if([]:List Keyword).isEmpty then 0 else 1)<30))=M)
  (hline:(apos.endLine == cpos.line)=M) (hs:dh (e::es) X.env=(J,eval e X.env)::dh es X.env) (hplain:(backTo cpos (dh es X.env)).any (·.1)=J):
  PE X (.Call (.Attribute o name apos) (e::es) [] cpos) (L6 X.K T r to t):=by
 intro ag s σ H Q I h;refine wpAny_Call_method_late hbase hfew hline O (eY (ho ag s σ H _ I h) λv g ⟨x,H1,b,c,ty,d⟩=>?_);obtain⟨h1,h2⟩:=E9 b c ty;refine⟨T,id,i,slot,hty,h1,h2,?_⟩;have a:=ha cpos ag g σ H1 _ b d;rw[hs]at a ⊢;refine Calls.callWith_builtin (by show(J||(backTo cpos (dh es X.env)).any (·.1))=J;rw[hplain]<;>rfl) (Calls.evalArgs_plain ?_);exact eY a λf j ⟨vs,H2,l,r2,k⟩=>hm ag j σ H2 x vs v f Q l c r2 k
end
end L2
namespace L2
open PySem PySem.Spec PyProof.Rows
def LS(X:Cx)(id:String)(r:V->List V->Hp->VK->Prop):Prop:=
 ∀(ag:List (da×Obj)) (s:c9) (σ:St) (H:Hp) (x:V) (xs:List V) (v:c8) (us:List c8) (Q:VK),Inv X ag σ H s->dN x v->dY xs us->r x xs H Q ->
  dj (model X.prog X.w) X.A (call (.builtin id) (v::us)) (EP X ag σ Q) X.xe s
theorem dY.one:∀{x:V} {a:List c8},dY [x] a -> ∃u,a=[u]/\dN x u:=by
 intro x a h;cases h with
 |cons r t=>cases t;exact⟨_,O,r⟩
theorem dY.eraseIdx:∀{xs:List V} {a:List c8} (i:Nat),dY xs a->dY (xs.eraseIdx i) (a.eraseIdx i)
 |_,_,_,.nil=>.nil
 |_,_,0,.cons _ t=>t
 |_,_,i+1,.cons r t=>.cons r (dY.eraseIdx i t)
theorem pG{α:Type}:∀(l:List α) (i:Nat),(l.eraseIdx i).length<=l.length
 |[],_=>nR1 _
 |_::_,0=>aX _
 |_::r,i+1=>Nat.succ_le_succ (pG r i)
section
variable{X:Cx}{ag:List (da×Obj)}{σ:St}{H:Hp}{s:c9}{l b:da}{xs ys zs:List V}
theorem Inv.lset {its its':List c8}{n:Nat}{f:Array c8->Array c8}{t':Nat}(I:Inv X ag σ H s)(c:H l=some (.lst xs))
  (e:s.heap.get? l=Z {cls:=.type "list",data:=.seq its.toArray n}) (hf:f its.toArray=its'.toArray) (hv:dY ys its') (hz:ys.length<=di):
  Inv X ag σ (upd H l (.lst ys)) {s with heap:=s.heap.update l (Obj.mapSeq f),toks:=t'}:=by
 have q:=PySem.IsL.update e f;rw[hf]at q;refine I.write (x:=l) (e:=l) (by rw[c];exact trivial) (.inl O) (λd u a b=>(Heap.get?_update_other s.heap (Obj.mapSeq f) (Ne.symm a)).trans b) ⟨_,q⟩ ?_;exact⟨hz,its',_,hv,q⟩
theorem Inv.lnew{its:List c8}{t':Nat}(I:Inv X ag σ H s)(hv:dY ys its)(hz:ys.length<=di):
  Inv X ag σ (upd H s.heap.objs.size (.lst ys)) {s with heap:=s.heap.push {cls:=.type "list",data:=.seq its.toArray},toks:=t'}:=
 I.laid (λ_ _ q=>hP1 _ q) (nR1 _) ⟨hz,its,0,hv,hS1 _ O⟩
theorem Inv.fresh(I:Inv X ag σ H s):H s.heap.objs.size=Y:=I.hok.fresh (nR1 _)
theorem Inv.lstM(I:Inv X ag σ H s)(a:H l=Z (.lst xs)):xs.length<=di /\ ∃(its:List c8) (n:Nat),dY xs its/\xs.length=its.length/\s.heap.get? l=Z {cls:=.type "list",data:=.seq its.toArray n}:=by
 obtain⟨z,its,n,r,e⟩:=I.hok l _ a;exact⟨z,its,n,r,r.length,e⟩
end
section
variable{X:Cx}
def Cs:V->List V->Hp->VK->Prop:=λx vs H Q=>∃l xs y,x = .ref l/\vs=[y]/\H l=Z (.lst xs)/\xs.length<di/\Q .non (upd H l (.lst (xs++[y])))
theorem pC:LS X "list.append" Cs:=by
 intro ag s σ H x vs v g Q I d f h;obtain⟨l,xs,y,rfl,rfl,b,j,q⟩:=h;cases d;obtain⟨u,rfl,c⟩:=f.one;obtain⟨z,a,n,r,i,e⟩:=I.lstM b;refine call_meets F.slot_list_append ⟨_,e,O⟩ F.entry_list_append (F.args_list_append_2 _ _) (PySem.list_append l a.toArray n u (by rw[sT1];lia)) ⟨e,?_⟩;refine⟨.non,_,I.lset (its':=a++[u]) b e (by simp) (r.append (.cons c .nil)) ?_,O,q⟩;rw[lA1,aY];lia
def Fx:V->List V->Hp->VK->Prop:=λx vs H Q=>∃l xs i k y,x = .ref l/\vs=[.int i]/\H l=Z (.lst xs) /\ -(2^63)<=i/\i<2^63/\seqIndex? i xs.length=Z k/\xs[k]?=Z y/\Q y (upd H l (.lst (xs.eraseIdx k)))
theorem An:LS X "list.pop" Fx:=by
 intro ag s σ H x vs v A Q I g o h;obtain⟨l,xs,i,k,y,rfl,rfl,c,h1,h2,p,m,q⟩:=h;cases g;obtain⟨u,rfl,d⟩:=o.one;obtain⟨t,rfl⟩:=d;obtain⟨z,a,n,r,f,e⟩:=I.lstM c;obtain⟨w,j,b⟩:=r.get m;refine call_meets F.slot_list_pop ⟨_,e,O⟩ F.entry_list_pop (F.args_list_pop_2 _ _)
  (MeetsSeq.list_pop_at l a.toArray n i t k w (fitsIndex_both h1 h2) (by rw[sT1,<- f];exact p) (by rw[<- aT1];exact j) (by rw[sT1];lia)) ⟨e,?_⟩
 refine⟨y,_,I.lset (its':=a.eraseIdx k) c e ?_ (r.eraseIdx k) ?_,b,q⟩
 ·show a.toArray.eraseIdxIfInBounds k=(a.eraseIdx k).toArray;rw[List.eraseIdxIfInBounds_toArray]
 ·have:=pG xs k;lia
def KX:R2:=λx y H Q=>∃l b xs zs,x = .ref l/\y = .ref b/\H l=Z (.lst xs)/\H b=Z (.lst zs)/\xs.length+zs.length<=di /\ ∀p,H p=Y->Q (.ref p) (upd H p (.lst (xs++zs)))
theorem Gc:gg X (binaryOp .Add) KX:=by
 intro ag s σ H x y v u Q I f j h;obtain⟨l,b,xs,zs,rfl,rfl,d,i,t,q⟩:=h;cases f;cases j;obtain⟨z,c,n,r,p,e⟩:=I.lstM d;obtain⟨o,a,w,r2,k,m⟩:=I.lstM i;refine PySem.P.add_list e m ?_ (by rw[sT1,sT1];lia);have g:c.toArray++a.toArray=(c++a).toArray:=by simp
 rw[g];exact⟨.ref _,_,I.lnew (t':=s.toks) (r.append r2) (by rw[lA1];lia),O,q _ I.fresh⟩
end
section
variable{prog:db}{w:df}{A:de}{E:c8->c9->Prop}{s:c9}
end
section
variable{X:Cx}
end
end L2
namespace Att
open PySem PySem.W PySem.Calls PyProof.Rows
theorem mZ{P:Params}{h:dk}:∀(ns:List Int) (vs:List c8),WellAll P h vs (ns.map WData.int)->IntsAre vs ns:=by
 intro ns
 induction ns with
 |nil=>
  intro vs w;rw[aZ]at w;cases w;exact .nil
 |cons n ns ih=>
  intro vs w;rw[mP1]at w;cases w with
  |cons a b=>
   cases a;exact .cons _ _ (ih _ b)
theorem xB{l:OpenLaw}{n:Nat}(hn:l.most=some n){P:Params}{h:dk}{args:List WData}{b:List c8}(c:l.row.toRowW.claim.pre args=true)(k:WellAll P h b args):
  ∃a vs ns,b=[Value.ref a]/\args=[WData.list (ns.map WData.int)]/\h.get? a=Z {cls:=.type "list",data:=.seq vs.toArray}/\IntsAre vs ns/\ns.length<=n:=by
 have j:WShape.hasAll [] args [.list .int]=M:=(pre_splitW c).1;have hc:l.pre.holds [] {args:=args}=M:=(pre_splitW c).2;obtain⟨d,r,rfl,h1,h2⟩:=hasAllW_cons j;obtain rfl:=hasAllW_nil h2;obtain⟨xs,rfl,t⟩:=hasW_list h1;obtain⟨ns,rfl⟩:=items_int t;have f:ns.length<=n:=by
  unfold OpenLaw.pre at hc;have g:(WTm.not (.lt (.lit (.int (n:Int))) (.len (.arg 0)))).holds [] {args:=[.list (ns.map .int)]}=M:=by
   have g:=(holds_andW hc).1;rw[hn]at g;exact g
  have i:=condW_of g (w_not (w_lt w_lit (w_len_list (w_arg O))));rw[lM1]at i;refine Nat.le_of_not_lt λq=>?_;have o:(n:Int)<((ns.length:Nat):Int):=by omega
  first
   |(rw[ah o]at i;exact absurd i (by decide))
   |(simp at i;omega)
 cases k with
 |cons s m=>
  cases m;cases s with
  |list p e=>exact⟨_,_,ns,O,O,p,mZ ns _ e,f⟩
theorem xH(l:OpenLaw)(args:List WData):l.row.toRowW.claim.post args (.bool M) args=M:=
 postW_of (r:=l.row.toRowW) (X:=(M == M))
  (show WShape.has [] (.bool M) .bool=M by first|rfl|decide|simp[WShape.has,WShape.arms,WShape.armsAll])
  (show(WTm.eq .res (.lit (.bool M))).value [] {args:=args,res:=Z (.bool M),after:=args}=Z (.bool (M == M))from w_eq_bool (w_res O) w_lit) O
theorem attach_call {l:OpenLaw}{n:Nat}{q:db}{e:List Str}{XP:(Str->Option c8)->dk->Prop}{D:df->dk->Prop}{d:DefRec}
  (hn:l.most=Z n) (s:d.params.defaults=[])
  (call:∀(w:df) (c b:c9) (mg u:Str->Option c8) (m:da) (o:Obj) (x p h:c8) (a:da) (vs:List c8) (ns:List Int),
   Ground q e [] XP w c mg u b.heap->D w b.heap ->
   b.heap.get? m=Z o->o.data = .func (docDef d.name d.params d.body d.scope x p h)->b.heap.CodeRec p d.name->mg d.name=Z (.ref m) ->
   b.heap.get? a=Z {cls:=.type "list",data:=.seq vs.toArray}->IntsAre vs ns->ns.length<=n->b.gens = #[] ->
   codeAny (model l.prog w) callerA (.call (.ref m) ⟨[.ref a],[]⟩) (λr s'=>r = .ok (.ret (.bool M))/\OldK b.heap s'.heap/\s'.os=b.os/\AllBare s'.gens) b):
  WalkO q e XP D l.row.toRowW d [] (λf vs=>PySem.call f vs):=by
 intro w c b mg u G ar m o x p h H kV E L v B y F A z as j C au t aq;obtain rfl:H = .none:=Dflts.none B s;obtain rfl:kV = .none:=Dflts.noKw B;obtain⟨a,vs,ns,rfl,rfl,i,g,k⟩:=xB hn j t;refine enter_call (codeAny_mono (call w c b mg u m o x p h a vs ns G ar E (fd_plain L) v y i g k F) λr s' K=>?_);obtain⟨rfl,h2,ao,N⟩:=K;exact⟨.inl ⟨.bool M,.bool M,[],O,λ_=>rfl,.bool M,xH l _,λ_=>⟨List.Pairwise.nil,λ_ I=>(nomatch I)⟩⟩,h2,ao,N⟩
section
variable{prog:db}{w:df}{A:de}{E:c8->c9->Prop}{s:c9}{K:Frag}
end
end Att
namespace L2
open PySem PySem.Spec PyProof.Rows
theorem xm:∀{vs:List c8} {ns:List Int},IntsAre vs ns->dY (ns.map V.int) vs:=by
 intro vs ns h
 induction h with
 |nil=>exact .nil
 |cons n t h ih=>exact .cons ⟨t,O⟩ ih
def Ef(H:Hp):Prop:=∀b,H b=Y \/ ∃o xs,H b=Z (.frz o (.lst xs))
theorem AT {P:db}{w:df}{K:Fg1}{mg G:Str->Option c8}{CX:yA}{k:Nat}{L a:da}{fd:dm}{x:Str}{sp:Sp}{s₁:c9}{vs:List c8}{ns:List Int}
  (S:K.In s₁.heap) (y:s₁.heap.Ns dg mg) (hb:s₁.heap.Ns builtinsNs G) (I:∀x:Str,x≠"__name__"->G x=bootBuiltins x) (A:s₁.heap.NoLimit) (hg:s₁.gens = #[])
  (ha:s₁.heap.get? a=Z {cls:=.type "list",data:=.seq vs.toArray}) (hi:IntsAre vs ns) (N:ns.length<=di) (hr:fI k callerA)
  (F:∀base:dk,K.In base->base.Ns dg mg->jQ P w K mg base CX k L fd [x] sp) (g:∀(s:c9) (u:c8),BindsTo s fd ⟨[u],[]⟩ [(x,u)])
  (C:∀H:Hp,Ef H->lP K H a (ns.map V.int)->sp [.ref a] H (λv _=>v = .bl M) λ_ _ _=>False)
  (D:∀H e s',CX [] H s₁ (λ_ _ _=>False) e s'->False):
  codeAny (model P w) callerA (.call (.ref L) ⟨[.ref a],[]⟩) (λr s'=>r = .ok (.ret (.bool M))/\OldK s₁.heap s'.heap/\s'.os=s₁.os/\AllBare s'.gens) s₁:=by
 have au:=xm hi;have B:=hi.length
 -- from an abstract heap in which nothing but the script may be tracked
 have f:∀ H:Hp,Ef H->lP K H a (ns.map V.int)->kM P w H s₁.heap->(∀ b,H b≠none->b=a)->(H a≠none->K.lookup a=none) ->
   codeAny (model P w) callerA (.call (.ref L) ⟨[.ref a],[]⟩) (λr s'=>r = .ok (.ret (.bool M))/\OldK s₁.heap s'.heap/\s'.os=s₁.os/\AllBare s'.gens) s₁:=by
  intro H R U t Q X;have base_of:∀{b:da} {o:Obj},s₁.heap.get? b=Z o->H b=Y->(rG s₁.heap H).get? b=Z o:=λe n=>AZ e n;have E:∀{b:da} {o:Obj} {es:Array DictEntry} {ep:Nat},s₁.heap.get? b=Z o->o.data = .dict es ep->H b=Y:=λ{b o es ep} e d=>by
   cases q:H b with
   |none=>rfl
   |some u=>
    have ao:b=a:=Q b (by rw[q];simp);subst ao;rw[ha]at e;cases e;have d':Data.seq vs.toArray _=Data.dict es ep:=d;cases d'
  have c:∀{b:da} {m:Str->Option c8},s₁.heap.Ns b m->(rG s₁.heap H).Ns b m:=λ{b m} ⟨o,es,ep,e,d,r⟩=>⟨o,es,ep,base_of e (E e d),d,r⟩;have l:K.In (rG s₁.heap H):=λb o e=>base_of (S b o e) (by
   cases q:H b with
   |none=>rfl
   |some u=>
    have ao:b=a:=Q b (by rw[q];simp);subst ao;rw[X (by rw[q];simp)]at e;cases e)
  have hM:Mod K mg (rG s₁.heap H):=⟨l,c y,⟨G,c hb,I⟩,let ⟨mc,h1,h2⟩:=A;⟨mc,c h1,h2⟩⟩;have e0:Eh P w K mg (rG s₁.heap H) callerA [] s₁ H:=⟨O,hM,λb o e=>CW e,Nat.le_of_eq (yb _ _),trivial,λb hb=>absurd (show b∈([]:List da)from hb) (by simp),t,.of_eq hg⟩;refine codeAny_mono ((F _ l (c y)).run callerA [] s₁ H ⟨[.ref a],[]⟩ [.ref a] [.ref a] _ _ hr e0 (g s₁ (.ref a)) (.cons O .nil) (C H R U)) λr s' h=>?_;cases r with
  |error e=>exact(D H e s' h).elim
  |ok fl=>
   cases fl with
   |next=>exact False.elim h
   |brk=>exact False.elim h
   |cont=>exact False.elim h
   |ret u=>
    obtain⟨v,H',ar,j,un,p,T,q⟩:=h;have W:v = .bl M:=q;subst W;obtain rfl:u=Value.bool true:=T;refine⟨O,OldK.of_keep λb o e=>?_,ar,j⟩;cases q:H b with
    |none=>exact un.keep b o e q (by intro z;exact absurd (show b∈([]:List da)from z) (by simp)) (by simp)
    |some u=>
     rcases R b with z|⟨ob,xs,z⟩
     ·rw[q]at z;cases z
     ·have wq:=un.frzs b ob _ z;obtain⟨aq,_⟩:=t b _ z;obtain⟨e2,_⟩:=p b _ wq;rw[e]at aq;cases aq;exact e2
 cases hk:K.lookup a with
 |some o=>
  -- the script is one of the module's own objects
  have e:=S a o hk;rw[ha]at e;cases e;refine f (λ_=>Y) (λ_=>.inl O) (.inr ⟨_,vs.toArray,_,hk,O,O,O,by rw[sT1,B];exact N,by simpa using au⟩) (λb u z=>by have i:(Y:Option HO)=Z u:=z;cases i) (λb z=>absurd O z) λz=>absurd O z
 |none=>
  refine f (λb=>if b=a then Z (.frz {cls:=.type "list",data:=.seq vs.toArray} (.lst (ns.map V.int)))else Y) (λb=>?_) (.inl (.inr ⟨{cls:=.type "list",data:=.seq vs.toArray},ak O⟩)) (λb u z=>?_) (λb z=>?_) λ_=>hk
  ·by_cases hb:b=a
   ·exact .inr ⟨_,_,ak hb⟩
   ·exact .inl (aj hb)
  ·by_cases hb:b=a
   ·have i:=(ak hb).symm.trans z;cases i;subst hb;exact⟨ha,by rw[lM1];exact N,vs,_,au,ha⟩
   ·have i:=(aj hb).symm.trans z;cases i
  ·by_cases hb:b=a
   ·exact hb
   ·exact absurd (aj hb) z
end L2
namespace L2
open PySem PySem.Spec PyProof.Rows
theorem B3{l:PySem.W.OpenLaw}{n k:Nat}{q:db}{g:List Str}{XP:(Str->Option c8)->dk->Prop}{C:df->dk->Prop}{d:DefRec}{K:Params->Fg1}{CX:df->yA}{sp:df->Sp}{x:Str}(hn:l.most=some n)(y:n<=di)(p:d.params.defaults=[])(hr:fI k callerA)(I:∀(w:df) (h:dk),C w h->(K w.params).In h)(F:∀(w:df) (mg:Str->Option c8) (m:da) (h:dk),(K w.params).In h->h.Ns dg mg->mg d.name=some (.ref m) ->
   ∃fd:dm,(∀(s:c9) (u:c8),BindsTo s fd ⟨[u],[]⟩ [(x,u)]) /\
    ∀base:dk,(K w.params).In base->base.Ns dg mg->jQ l.prog w (K w.params) mg base (CX w) k m fd [x] (sp w))(r:∀(w:df) (H:Hp) (a:da) (ns:List Int),ns.length<=n->Ef H->lP (K w.params) H a (ns.map V.int)->sp w [.ref a] H (λv _=>v = .bl M) λ_ _ _=>False)(t:∀(w:df) (H:Hp) (s:c9) (e:c8) (s':c9),CX w [] H s (λ_ _ _=>False) e s'->False):
  PySem.W.WalkO q g XP C l.row.toRowW d [] (λf vs=>PySem.call f vs):=by
 refine Att.attach_call hn p λw A i mg Q m o S P aq a vs ns G ar R T L z j c b E=>?_;have B:=I w _ ar;obtain⟨fd,ao,N⟩:=F w mg m _ B G.T.g z;exact AT B G.T.g G.T.b G.T.builtins G.T.nolimit E j c (aC b y) hr N ao (λH au D=>r w H a ns b au D) λH e s'=>t w H i e s'
end L2
namespace L2
open PySem PySem.Spec PyProof.Rows
def ix(s:dn):Arguments:=match s with
 | .FunctionDef _ a _ _ _ _ _ _ _ _=>a
 |_=>{posonlyargs:=[],args:=[],vararg:=Y,kwonlyargs:=[],kw_defaults:=[],kwarg:=Y,defaults:=[]}
def ft(s:dn):List dn:=match s with
 | .FunctionDef _ _ b _ _ _ _ _ _ _=>b
 |_=>[]
def dQ(s:dn):dq:=match s with
 | .FunctionDef _ _ _ _ _ _ sc _ _ _=>sc
 |_=>{kind:=.function,names:=[],isGenerator:=J,isCoroutine:=J}
abbrev uw:yA:=λ_ _ _ _ _ _=>False
abbrev E0:XK:=λ_ _ _=>False
theorem Ew{X:Cx}:sw uw X E0:=λ_ _ _ _ _ _ _ h=>h.elim
structure xi (K:Fg1)(x qual:Str)(st:dn)(f:da)(fd:dm):Prop where
 ex:∃(oc:c8) (od:Option da) (kV doc pm:c8) (an:Option da) (cdv ct:c8) (osl:Array (Option c8)),
  fd=wF1 x qual (ix st) (ft st) (dQ st) .none kV doc pm an cdv ct/\K.lookup f=some ⟨oc,od,.func fd,osl⟩/\wC1 K cdv qual=true
 kp:wK1 K (.ref f)=true
section
variable{P:db}{w:df}{K:Fg1}{mg:Str->Option c8}{base:dk}
theorem xi.ok{x b:Str}{st:dn}{f:da}{fd:dm}{N ps:List Str}{k:Nat}{sp:Sp}(F:xi K x b st f fd)(S:gD N ps (dQ st))(len:∀ vs H Q E,sp vs H Q E->vs.length=ps.length)(d:∀(c:c8) (A:de) (a:List Env) (s:c9) (H:Hp) (vs:List V) (Q:VK) (E:XK),fI k (A.deeper (envOfC b (dQ st) s.heap.objs.size f c))->sp vs H Q E ->
   ∃t,uC (m5 uw P w K mg base N b (dQ st) f c A a s H E).nox (ft st) t/\t {nx:=λ_ H'=>Q .non H',rt:=Q} (jr N vs) H):jQ P w K mg base uw (k+1) f fd ps sp:=by
 obtain⟨o,m,kV,j,p,n,c,ct,l,rfl,lk,g⟩:=F.ex;refine JG lk g S len λA a s H vs Q E i e=>?_;obtain⟨t,h,q⟩:=d c A a s H vs Q E i e;exact⟨t,h.nox,q⟩
theorem xi.binds{x a:Str}{st:dn}{f:da}{fd:dm}{ps:List Str}(F:xi K x a st f fd)(h:∀(kV b g:c8) (e:Option da) (c ct:c8) (d:List c8),d.length=ps.length->bindArgs (wF1 x a (ix st) (ft st) (dQ st) .none kV b g e c ct) ⟨d,[]⟩=pure (ps.zip d)):jj K fd ps []:=by
 obtain⟨l,k,kV,b,g,e,c,ct,i,rfl,lk,j⟩:=F.ex;exact .all (h kV b g e c ct)
theorem A3{x a:Str}{st:dn}{f:da}{j:c8}{i g:Option da}{e:Array (Option c8)}{kV d h b ct:c8}(l:K.lookup f=Z ⟨j,i,.func (wF1 x a (ix st) (ft st) (dQ st) .none kV d h g b ct),e⟩)(c:wC1 K b a=M)(k:wK1 K (.ref f)=M):xi K x a st f (wF1 x a (ix st) (ft st) (dQ st) .none kV d h g b ct):=⟨⟨j,i,kV,d,h,g,b,ct,e,O,l,c⟩,k⟩
end
section
variable{X:Cx}
end
def pi(H H':Hp):Prop:=∀b o,H b=Z o->H' b=Z o
theorem pi.refl(H:Hp):pi H H:=λ_ _ h=>h
theorem pi.trans{H H1 H2:Hp}(a:pi H H1)(b:pi H1 H2):pi H H2:=λc o h=>b c o (a c o h)
theorem pi.free{H H':Hp}(e:pi H H'){l:da}(h:H' l=Option.none):H l=Option.none:=by
 cases q:H l with
 |none=>rfl
 |some o=>
  rw[e l o q]at h;cases h
theorem pi.seq{K:Fg1}{H H':Hp}{a:da}{xs:List V}(e:pi H H')(h:lP K H a xs):lP K H' a xs:=by
 rcases h with(h|⟨o,h⟩)|h
 ·exact .inl (.inl (e _ _ h))
 ·exact .inl (.inr ⟨o,e _ _ h⟩)
 ·exact .inr h
end L2
namespace L2
open PySem PySem.Spec PyProof.Rows
section
variable{κ:Type} [DecidableEq κ]
def gM(kvs:List (κ×V))(k:κ):Option V:=(kvs.find? λkv=>decide (kv.1=k)).map (·.2)
def iV(kvs:List (κ×V))(k:κ)(v:V):List (κ×V):=
 if(kvs.any λkv=>decide (kv.1=k))=M then kvs.map (λkv=>if kv.1=k then(kv.1,v)else kv)else kvs++[(k,v)]
def EN(kvs:List (κ×V))(k:κ):List (κ×V):=kvs.filter λkv=>decide (kv.1≠k)
theorem nz{p:κ×V}{r:List (κ×V)}{k:κ}(e:p.1=k):gM (p::r) k=Z p.2:=by simp[gM,a0,e]
theorem nA{p:κ×V}{r:List (κ×V)}{k:κ}(e:¬ p.1=k):gM (p::r) k=gM r k:=by simp[gM,a0,e]
theorem sJ(k:κ):∀kvs:List (κ×V),(kvs.any λa=>decide (a.1=k))=(gM kvs k).isSome
 |[]=>rfl
 |p::r=>by
  rw[ba];by_cases e:p.1=k
  ·simp only[nz e,ah e,Bool.true_or,Option.isSome_some]
  ·rw[nA e,ai e,Bool.false_or];exact sJ k r
theorem jC(kvs:List (κ×V))(k:κ)(v:V):(iV kvs k v).length<=kvs.length+1:=by
 unfold iV;split
 ·rw[lM1];lia
 ·rw[lA1,lC1,bb];lia
theorem kK.isSome_eq{o:Option V}{u:Option c8}(r:kK o u):o.isSome=u.isSome:=by
 cases o with
 |none=>cases u with
  |none=>rfl
  |some _=>exact(show False from r).elim
 |some _=>cases u with
  |none=>exact(show False from r).elim
  |some _=>rfl
theorem kK.getD{o:Option V}{u:Option c8}{d:V}{d':c8}(r:kK o u)(a:dN d d'):dN (o.getD d) (u.getD d'):=by
 cases o with
 |none=>cases u with
  |none=>exact a
  |some _=>exact(show False from r).elim
 |some _=>cases u with
  |none=>exact(show False from r).elim
  |some _=>exact r
theorem KV.val{kvs:List (κ×V)}{vs:List (κ×c8)}(r:KV kvs vs)(k:κ):kK (gM kvs k) (valueAt vs k):=by
 unfold KV at r
 induction r with
 |nil=>exact True.intro
 | @cons p q ps a h t ih=>
  obtain⟨h1,h2⟩:=h;by_cases e:p.1=k
  ·have c:q.1=k:=h1.symm.trans e;have b:valueAt (q::a) k=Z q.2:=by simp[valueAt,a0,c]
   rw[nz e,b];exact h2
  ·have c:¬ q.1=k:=λz=>e (h1.trans z);have b:valueAt (q::a) k=valueAt a k:=by simp[valueAt,a0,c]
   rw[nA e,b];exact ih
theorem KV.any{kvs:List (κ×V)}{vs:List (κ×c8)}(r:KV kvs vs)(k:κ):(kvs.any λa=>decide (a.1=k))=vs.any λa=>decide (a.1=k):=by
 unfold KV at r
 induction r with
 |nil=>rfl
 |cons h t ih=>rw[ba,ba,ih,h.1]
theorem KV.repl{kvs:List (κ×V)}{vs:List (κ×c8)}(r:KV kvs vs)(k:κ){y:V}{u:c8}(b:dN y u):
  KV (kvs.map λa=>if a.1=k then(a.1,y)else a) (vs.map λa=>if a.1=k then(a.1,u)else a):=by
 unfold KV at r ⊢
 induction r with
 |nil=>exact .nil
 | @cons p q ps c h t ih=>
  rw[mP1,mP1];refine .cons ?_ ih;obtain⟨h1,h2⟩:=h;by_cases e:p.1=k
  ·rw[ak e,ak (h1.symm.trans e)];exact⟨h1,b⟩
  ·rw[aj e,aj (λz=>e (h1.trans z))];exact⟨h1,h2⟩
theorem KV.put{kvs:List (κ×V)}{vs:List (κ×c8)}(r:KV kvs vs)(k:κ){y:V}{u:c8}(a:dN y u):KV (iV kvs k y) (stored vs k u):=by
 unfold iV stored;rw[r.any k];by_cases e:(vs.any λb=>decide (b.1=k))=M
 ·rw[ak e,ak e];exact r.repl k a
 ·rw[aj e,aj e];exact Paired.snoc r ⟨O,a⟩
theorem KV.drop{kvs:List (κ×V)}{vs:List (κ×c8)}(r:KV kvs vs)(k:κ):KV (EN kvs k) (without vs k):=by
 unfold KV at r ⊢;unfold EN without
 induction r with
 |nil=>exact .nil
 | @cons p q ps d h t ih=>
  obtain⟨h1,h2⟩:=h;rw[bc,bc];by_cases e:p.1=k
  ·have a:¬ decide (p.1≠k)=M:=by simp[e]
   have b:¬ decide (q.1≠k)=M:=by simp[h1.symm.trans e]
   rw[aj a,aj b];exact ih
  ·have c:¬ q.1=k:=λz=>e (h1.trans z);have a:decide (p.1≠k)=M:=by simp[e]
   have b:decide (q.1≠k)=M:=by simp[c]
   rw[ak a,ak b];exact .cons ⟨h1,h2⟩ ih
theorem KV.keys{kvs:List (κ×V)}{vs:List (κ×c8)}(r:KV kvs vs):kvs.map (·.1)=vs.map (·.1):=by
 unfold KV at r
 induction r with
 |nil=>rfl
 |cons h t ih=>rw[mP1,mP1,ih,h.1]
theorem KV.length{kvs:List (κ×V)}{vs:List (κ×c8)}(r:KV kvs vs):kvs.length=vs.length:=Paired.length r
end
theorem pJ{P:db}{w:df}{k:Key}{u:c8}(r:dN (kV k) u):(fg P w).is k u=M:=by
 cases k with
 |inl i=>obtain⟨t,e⟩:=(show∃t,u=Value.int i t from r);subst e;exact tI P w i t
 |inr x=>obtain⟨t,e⟩:=(show∃t,u=Value.str x t from r);subst e;exact tH P w x t
theorem pK{P:db}{w:df}:∀{ks:List Key} {a:List c8},dY (ks.map kV) a->ItemsAre (fg P w) ks a
 |[],_,r=>by rw[aZ]at r;cases r;exact .nil
 |k::ks,_,r=>by
  rw[mP1]at r;cases r with
  |cons h t=>exact .cons (pJ h) (pK t)
abbrev KT(H:Hp):List (List Key×V)->List (List Key×da×c8)->Prop:=Paired λp q=>p.1=q.1/\H q.2.1=Z (.tup (p.1.map kV))/\dN p.2 q.2.2
theorem KT.val{H:Hp}{kvs:List (List Key×V)}{xs:List (List Key×da×c8)}(r:KT H kvs xs)(k:List Key):kK (gM kvs k) ((atKey xs k).map (·.2)):=by
 induction r with
 |nil=>exact True.intro
 | @cons p q ps a h t ih=>
  obtain⟨h1,_,h2⟩:=h;by_cases e:p.1=k
  ·have c:q.1=k:=h1.symm.trans e;have b:atKey (q::a) k=Z q.2:=by simp[atKey,a0,c]
   rw[nz e,b];exact h2
  ·have c:¬ q.1=k:=λz=>e (h1.trans z);have b:atKey (q::a) k=atKey a k:=by simp[atKey,a0,c]
   rw[nA e,b];exact ih
theorem KT.repl{H:Hp}{kvs:List (List Key×V)}{xs:List (List Key×da×c8)}(r:KT H kvs xs)(k:List Key){y:V}{u:c8}(c:dN y u):
  KT H (kvs.map λa=>if a.1=k then(a.1,y)else a) (xs.map (putAt k u)):=by
 induction r with
 |nil=>exact .nil
 | @cons p q ps d h t ih=>
  rw[mP1,mP1];refine .cons ?_ ih;obtain⟨h1,h2,b⟩:=h;unfold putAt;by_cases e:p.1=k
  ·rw[ak e,ak (h1.symm.trans e)];exact⟨h1,h2,c⟩
  ·rw[aj e,aj (λz=>e (h1.trans z))];exact⟨h1,h2,b⟩
theorem KT.put{H:Hp}{kvs:List (List Key×V)}{xs:List (List Key×da×c8)}(r:KT H kvs xs)(k:List Key){b:da}{y:V}{u:c8}(hb:H b=some (.tup (k.map kV)))(a:dN y u):
  KT H (iV kvs k y) (storedH xs k b u):=by
 have e:(kvs.any λc=>decide (c.1=k))=(atKey xs k).isSome:=by
  rw[sJ,(r.val k).isSome_eq,bf]
 unfold iV storedH;rw[e];by_cases q:(atKey xs k).isSome=M
 ·rw[ak q,ak q];exact r.repl k a
 ·rw[aj q,aj q];exact Paired.snoc r ⟨O,hb,a⟩
theorem KT.keeps{H H':Hp}{kvs:List (List Key×V)}{xs:List (List Key×da×c8)}(r:KT H kvs xs)(ht:∀b ys,H b=Z (.tup ys)->H' b=Z (.tup ys)):KT H' kvs xs:=
 Paired.mapP r λ_ _ z=>⟨z.1,ht _ _ z.2.1,z.2.2⟩
section
variable{P:db}{w:df}{H:Hp}{h:dk}{a:da}
theorem Et{u:HO}(ok:kM P w H h)(e:Rd H a u):eI P w H h a u:=e.ok ok
theorem oF{kvs:List (Key×V)}(ok:kM P w H h)(e:Rd H a (.dK kvs)):kvs.length<=di/\(a == sysModules)=J /\ ∃vs,KV kvs vs/\h.DictOf (fg P w) a vs:=
 show eI P w H h a (.dK kvs)from Et ok e
theorem wY{kvs:List (Key×V)}(ok:kM P w H h)(e:H a=Z (.dK kvs)):kvs.length<=di/\(a == sysModules)=J /\ ∃vs,KV kvs vs/\h.DictOf (fg P w) a vs:=oF ok (.inl e)
theorem oe{ks:List Key}(ok:kM P w H h)(e:H a=Z (.tup (ks.map kV))):(tupleKind (fg P w)).is h ks a:=by
 obtain⟨_,b,r,o,h1,h2,n,c⟩:=(show eI P w H h a (.tup (ks.map kV))from ok a _ e);exact⟨o,b.toArray,n,h1,h2,c,by simpa using pK r⟩
theorem pV{kvs:List (List Key×V)}(ok:kM P w H h)(e:Rd H a (.dT kvs)):kvs.length<=di/\(a == sysModules)=false /\
  ∃xs,KT H kvs xs/\h.DictOfH (tupleKind (fg P w)) a xs:=by
 obtain⟨z,y,xs,r,o,es,ep,h1,h2,g,d,f⟩:=(show eI P w H h a (.dT kvs)from Et ok e);refine⟨z,y,xs,r,o,es,ep,h1,h2,g,d,λx b=>?_,f⟩;have all:∀{l:List (List Key×V)} {m:List (List Key×da×c8)},KT H l m -> ∀x∈m,(tupleKind (fg P w)).is h x.1 x.2.1:=by
  intro l m q
  induction q with
  |nil=>intro x b;exact nomatch b
  | @cons p q ps i c t ih=>
   intro x b;rcases aE.mp b with e|b
   ·subst e;exact oe ok (by rw[<- c.1];exact c.2.1)
   ·exact ih x b
 exact all r x b
theorem JK{kvs:List (List Key×V)}(ok:kM P w H h)(e:H a=some (.dT kvs)):kvs.length<=di/\(a == sysModules)=false /\
  ∃xs,KT H kvs xs/\h.DictOfH (tupleKind (fg P w)) a xs:=pV ok (.inl e)
end
def pk(H:Hp)(a:da)(y:V)(r:Option V):Prop:=
 (∃kvs k,Rd H a (.dK kvs)/\y=kV k/\r=gM kvs k) \/ ∃kvs k b,Rd H a (.dT kvs)/\y = .ref b/\H b=Z (.tup (k.map kV))/\r=gM kvs k
def yz(H:Hp)(a:da)(y v:V)(H':Hp):Prop:=
 (∃kvs k,H a=Z (.dK kvs)/\y=kV k/\kvs.length<di/\H'=upd H a (.dK (iV kvs k v))) \/
 ∃kvs k b,H a=Z (.dT kvs)/\y = .ref b/\H b=Z (.tup (k.map kV))/\kvs.length<di/\H'=upd H a (.dT (iV kvs k v))
theorem pk.k{H:Hp}{a:da}{kvs:List (Key×V)}{k:Key}(e:H a=Z (.dK kvs)):pk H a (kV k) (gM kvs k):=.inl ⟨kvs,k,.inl e,O,O⟩
theorem pk.t{H:Hp}{a b:da}{kvs:List (List Key×V)}{k:List Key}(e:H a=Z (.dT kvs))(eb:H b=Z (.tup (k.map kV))):pk H a (.ref b) (gM kvs k):=.inr ⟨kvs,k,b,.inl e,O,eb,O⟩
theorem yz.k{H:Hp}{a:da}{kvs:List (Key×V)}{k:Key}{v:V}(e:H a=Z (.dK kvs))(b:kvs.length<di):yz H a (kV k) v (upd H a (.dK (iV kvs k v))):=.inl ⟨kvs,k,e,O,b,O⟩
theorem yz.t{H:Hp}{a b:da}{kvs:List (List Key×V)}{k:List Key}{v:V}(e:H a=some (.dT kvs))(eb:H b=some (.tup (k.map kV)))(c:kvs.length<di):
  yz H a (.ref b) v (upd H a (.dT (iV kvs k v))):=.inr ⟨kvs,k,b,e,O,eb,c,O⟩
section
variable{X:Cx}{ag:List (da×Obj)}{σ:St}{H:Hp}{s:c9}{a:da}{y v:V}{u r:c8}{o:Option V}{A:de}{E:c8->c9->Prop}
theorem Inv.big(I:Inv X ag σ H s):sysModules<s.heap.objs.size:=by
 have h:dg<s.heap.objs.size:=(I.mod.glob.keeps I.bk).lt;exact bg (by decide) h
theorem yi{Q:c8->c9->Prop}(t:A.units+1<cLine)(I:Inv X ag σ H s)(g:pk H a y (some v))(q:dN y u)(h:∀ f s',Inv X ag σ H s'->dN v f->Q f s'):
  dj (model X.prog X.w) A (getItem (.ref a) u) Q E s:=by
 rcases g with⟨kvs,k,e,m,l⟩|⟨kvs,k,b,e,m,eb,l⟩
 ·subst m;obtain⟨z,r,vs,c,i⟩:=oF I.hok e;obtain⟨f,j,d⟩:=kK.some_of (v:=v) (o:=valueAt vs k) (by rw[l];exact c.val k);exact wpAny_getItem_of (pJ q) i.mapOf j (h f _ (I.tok _) d)
 ·subst m;cases(show u=Value.ref b from q);obtain⟨z,r,xs,c,i⟩:=pV I.hok e;obtain⟨f,j,d⟩:=kK.some_of (v:=v) (o:=(atKey xs k).map (·.2)) (by rw[l];exact c.val k);obtain⟨p,w,n⟩:=oM1.mp j;refine wpAny_getItem_heap (tupleKind_room_in1 t) (oe I.hok eb) i w ?_;rw[n];exact h f _ (I.tok _) d
theorem Ld{Q:c8->c9->Prop}(m:A.units+1<cLine)(I:Inv X ag σ H s)(g:pk H a y o)(j:dN y u)(h:∀ s',Inv X ag σ H s'->Q (.bool o.isSome) s'):
  dj (model X.prog X.w) A (compareOp .In u (.ref a)) Q E s:=by
 rcases g with⟨kvs,k,e,i,l⟩|⟨kvs,k,b,e,i,eb,l⟩
 ·subst i;obtain⟨z,f,vs,c,d⟩:=oF I.hok e;refine wpAny_in_of (pJ j) f d.mapOf ?_;rw[<- (c.val k).isSome_eq,<- l];exact h _ (I.tok _)
 ·subst i;cases(show u=Value.ref b from j);obtain⟨z,f,xs,c,d⟩:=pV I.hok e;refine wpAny_in_heap (tupleKind_room_in1 m) (oe I.hok eb) f d ?_;have q:=(c.val k).isSome_eq;rw[bf]at q;rw[<- q,<- l];exact h _ (I.tok _)
theorem DX{Q:c8->c9->Prop}(m:A.units+1<cLine)(I:Inv X ag σ H s)(g:pk H a y o)(j:dN y u)(h:∀ s',Inv X ag σ H s'->Q (.bool (!o.isSome)) s'):
  dj (model X.prog X.w) A (compareOp .NotIn u (.ref a)) Q E s:=by
 rcases g with⟨kvs,k,e,i,l⟩|⟨kvs,k,b,e,i,eb,l⟩
 ·subst i;obtain⟨z,f,vs,c,d⟩:=oF I.hok e;refine wpAny_notIn_of (pJ j) f d.mapOf ?_;rw[<- (c.val k).isSome_eq,<- l];exact h _ (I.tok _)
 ·subst i;cases(show u=Value.ref b from j);obtain⟨z,f,xs,c,d⟩:=pV I.hok e;refine wpAny_notIn_heap (tupleKind_room_in1 m) (oe I.hok eb) f d ?_;have q:=(c.val k).isSome_eq;rw[bf]at q;rw[<- q,<- l];exact h _ (I.tok _)
theorem lD{h':dk}{t':Nat}{c:HO}(I:Inv X ag σ H s)(mu:HN (H a))(hs:Heap.SameBut a s.heap h')(he:∃ q,h'.get? a=some q)(new:eI X.prog X.w (upd H a c) h' a c):
  Inv X ag σ (upd H a c) {s with heap:=h',toks:=t'}:=
 I.write (x:=a) (e:=a) mu (.inl O) (λb q d z=>(hs.2 b d).trans z) he new
theorem Be{P:db}{w:df}{H':Hp}{h':dk}{kvs:List (Key×V)}{vs:List (Key×c8)}(z:kvs.length<=di)(hd:(a == sysModules)=false)(b:KV kvs vs)(c:h'.DictOf (fg P w) a vs):
  eI P w H' h' a (.dK kvs):=⟨z,hd,vs,b,c⟩
theorem yh{H':Hp}{Q:Unit->c9->Prop}(ao:A.units+1<cLine)(I:Inv X ag σ H s)(g:yz H a y v H')(C:dN y u)(B:dN v r)(h:∀ s',Inv X ag σ H' s'->Q () s'):
  dj (model X.prog X.w) A (setItem (.ref a) u r) Q E s:=by
 rcases g with⟨kvs,k,e,t,l,w⟩|⟨kvs,k,b,e,t,eb,l,w⟩
 ·subst t w;obtain⟨z,m,vs,d,j⟩:=wY I.hok e;have o:vs.length<=di:=by rw[<- d.length];exact z
  have n:(iV kvs k v).length<=di:=by have:=jC kvs k v;lia
  refine wpAny_setItem_pairs (hsz:=o) (pJ C) j λh' f p=>h _ ?_;have D:∃q,h'.get? a=Z q:=let ⟨q,_,_,i,_⟩:=f;⟨q,i⟩
  exact lD I (by rw[e];exact True.intro) p D (Be n m (d.put k B) f)
 ·subst t w;cases(show u=Value.ref b from C);obtain⟨z,m,xs,d,j⟩:=JK I.hok e;have o:xs.length<=di:=by rw[<- Paired.length d];exact z
  have n:(iV kvs k v).length<=di:=by have:=jC kvs k v;lia
  refine wpAny_setItem_heap (hsz:=o) (tupleKind_room_in1 ao) (oe I.hok eb) j λh' f p=>h _ ?_;obtain⟨q,es,ep,i,h2,K,F,_,G⟩:=f;refine lD I (by rw[e];exact True.intro) p ⟨q,i⟩ ⟨n,m,_,(d.put k eb B).keeps λc ys x=>?_,q,es,ep,i,h2,K,F,G⟩;rw[dU (I0 x e (λz=>nomatch z))];exact x
end
section
variable{X:Cx}{ag:List (da×Obj)}{σ:St}{H:Hp}{s:c9}{a:da}{kvs:List (Key×V)}{k:Key}{u:c8}{A:de}{E:c8->c9->Prop}
theorem JL{Q:c8->c9->Prop}(I:Inv X ag σ H s)(e:Rd H a (.dK kvs))(h:∀t s',Inv X ag σ H s'->Q (.int kvs.length t) s'):dj (model X.prog X.w) A (call (.builtin "len") [.ref a]) Q E s:=by
 obtain⟨z,d,vs,b,c⟩:=oF I.hok e;refine call_len_dict d c (by rw[<- b.length];rw[sizeLine_eq]at z;lia) ?_;rw[<- b.length];exact h _ _ (I.tok _)
end
theorem t8{X:Cx}{ag:List (da×Obj)}{σ:St}{H:Hp}{s:c9}{a:da}{y:V}{o:Option V}(I:Inv X ag σ H s)(g:pk H a y o):s.TypeIs (.ref a) "dict":=by
 rcases g with⟨kvs,k,e,_,_⟩|⟨kvs,k,b,e,_,_,_⟩
 ·obtain⟨_,_,vs,_,c⟩:=oF I.hok e;exact c.typeIs
 ·obtain⟨_,_,xs,_,c⟩:=pV I.hok e;exact c.typeIs
section
variable{X:Cx}{o i e value:Expr}{pos pos' tpos:Pos}{td ty tv:TE}
end
theorem Bf{P:db}{w:df}{H:Hp}(h:dk)(hb:sysModules<h.objs.size):eI P w H (h.push {cls:=.type "dict",data:=.dict #[]}) h.objs.size (.dK []):=
 ⟨bh _,beq_eq_false_iff_ne.mpr (Ne.symm (nN1 hb)),[],.nil,Heap.DictOf.new h⟩
def Fh:TE:=λ_ H Q=>∀p,H p=Y->Q (.ref p) (upd H p (.dK []))
section
variable{X:Cx}{pos:Pos}
theorem zU:PE X (.Dict [] [] pos) Fh:=λag s σ H Q I h=>
 wpAny_Dict_empty ⟨.ref s.heap.objs.size,_,I.laid (a:=s.heap.objs.size) (o:=.dK []) (t':=s.toks) (λ_ _ q=>hP1 _ q) (nR1 _) (Bf s.heap I.big),O,h _ (I.hok.fresh (nR1 _))⟩
end
def zi:List (TE×TE)->St->Hp->(List (V×V)->Hp->Prop)->Prop
 |[],_,H,Q=>Q [] H
 |(tk,tv)::r,σ,H,Q=>tk σ H λx H1=>tv σ H1 λy H2=>zi r σ H2 λps H3=>Q ((x,y)::ps) H3
abbrev VV:List (V×V)->List (c8×c8)->Prop:=Paired λp q=>dN p.1 q.1/\dN p.2 q.2
def MH(X:Cx)(pos:Pos)(keys:List (Option Expr))(values:List Expr)(trs:List (TE×TE)):Prop:=
 ∀(ag:List (da×Obj)) (s:c9) (σ:St) (H:Hp) (Q:List (V×V)->Hp->Prop),Inv X ag σ H s->zi trs σ H Q ->
  dj (model X.prog X.w) X.A (evalPairs (pairTrees keys values X.env pos)) (λvs s'=>∃ps H',Inv X ag σ H' s'/\VV ps vs/\Q ps H') X.xe s
structure M2 (X:Cx)(o:Expr)(m:Str)(apos:Pos)(e f:Expr)(cpos:Pos):Prop where
 base:attributeBase o m X.env (eval o X.env)=eval o X.env
 few:((backTo cpos (dh [e,f] X.env)).all (λx=> !x.1)&&(backToKw cpos (keywordEach [] X.env)).all (λx=>x.1.isSome)
  && decide (([e,f]:List Expr).length+([]:List Keyword).length+(if([]:List Keyword).isEmpty then 0 else 1)<30))=true
 line:(apos.endLine == cpos.line)=true
 trees:backTo cpos (dh [e,f] X.env)=[(false,eval e X.env),(false,eval f X.env)]
def Lz(H:Hp)(a:da):Prop:=(∃kvs,Rd H a (.dK kvs)) \/ ∃kvs,Rd H a (.dT kvs)
theorem Ha{X:Cx}{ag:List (da×Obj)}{σ:St}{H:Hp}{s:c9}{a:da}(I:Inv X ag σ H s)(d:Lz H a):
  s.TypeIs (.ref a) "dict"/\(∀b,Value.ref a = .ref b -> ∃c,s.heap.get? b=Z c/\c.dict=Y)/\(a == sysModules)=J:=by
 rcases d with⟨kvs,e⟩|⟨kvs,e⟩
 ·obtain⟨_,g,vs,_,f⟩:=oF I.hok e;refine⟨f.typeIs,λb q=>?_,g⟩;cases q;obtain⟨c,_,_,h1,h2,_⟩:=f;exact⟨c,h1,h2.2.1⟩
 ·obtain⟨_,g,xs,_,f⟩:=pV I.hok e;refine⟨f.typeIs,λb q=>?_,g⟩;cases q;obtain⟨c,_,_,h1,h2,_⟩:=f;exact⟨c,h1,h2.2.1⟩
section
variable{X:Cx}{ag:List (da×Obj)}{σ:St}{H:Hp}{s:c9}{a:da}{y d:V}{u r:c8}{o:Option V}{A:de}{E:c8->c9->Prop}
end
section
variable{X:Cx}{o e f:Expr}{apos cpos:Pos}{td ty tx:TE}
end
section
variable{X:Cx}{ag:List (da×Obj)}{σ:St}{H:Hp}{s:c9}{a:da}{kvs:List (Key×V)}{A:de}{E:c8->c9->Prop}
end
section
variable{X:Cx}{ag:List (da×Obj)}{σ:St}{H:Hp}{s:c9}{a:da}{y:V}{u:c8}{A:de}{E:c8->c9->Prop}
end
end L2
namespace Mi
open PySem PySem.Spec PyProof.Rows L2
inductive TK where
 |non|int (i:Int)|tup (xs:List TK)
instance:DecidableEq TK:=λ_ _=>Classical.propDecidable _
mutual
def TK.hash:TK->Int
 | .non=>0xFCA86420
 | .int i=>hashInt i
 | .tup xs=>reduceHash (Builtin.Tuple.tupleHashOf (TK.hashes xs))
def TK.hashes:List TK->List Int
 |[]=>[]
 |x::xs=>TK.hash x::TK.hashes xs
end
mutual
def TK.draws:TK->Nat
 | .non=>1
 | .int _=>1
 | .tup xs=>TK.drawsAll xs+1
def TK.drawsAll:List TK->Nat
 |[]=>0
 |x::xs=>TK.draws x+TK.drawsAll xs
end
mutual
def TK.dep:TK->Nat
 | .non=>0
 | .int _=>0
 | .tup xs=>TK.depAll xs+1
def TK.depAll:List TK->Nat
 |[]=>0
 |x::xs=>max (TK.dep x) (TK.depAll xs)
end
theorem TK.dep_mem:∀{xs:List TK} {x:TK},x∈xs->x.dep<=TK.depAll xs
 |y::ys,x,h=>by
  rw[TK.depAll];rcases aE.mp h with e|e
  ·rw[e];exact Nat.le_max_left _ _
  ·exact aC (TK.dep_mem e) (Nat.le_max_right _ _)
theorem TK.hashes_app:∀a b:List TK,TK.hashes (a++b)=TK.hashes a++TK.hashes b
 |[],_=>rfl
 |x::xs,b=>by rw[bi,TK.hashes,TK.hashes,TK.hashes_app xs b];rfl
theorem TK.draws_app:∀a b:List TK,TK.drawsAll (a++b)=TK.drawsAll a+TK.drawsAll b
 |[],_=>by simp[TK.drawsAll]
 |x::xs,b=>by rw[bi,TK.drawsAll,TK.drawsAll,TK.draws_app xs b,bj]
def vE(xs:Array Nat):Prop:=xs.toList.Pairwise (· < ·)
def ge(m:Nat):Nat->Nat->Nat->List Nat
 |0,_,_=>[]
 |n+1,i,b=>bm i (SetTable.runEnd m i-i+1)++ge m n (SetTable.leap m i b).1 (SetTable.leap m i b).2
def xE(m:Nat):Prop:=m=7\/m=31\/m=127
def mW(m:Nat)(h:Int):List Nat:=ge m (SetTable.turns m) (SetTable.bits h%(m+1)) (SetTable.bits h)
def xD(m:Nat)(occ:List Nat)(h:Int)(j:Nat):Prop:=∃pre post,mW m h=pre++j::post /\ ∀y∈pre,y∈occ
structure sTT (es:Array (Int×c8))(t:SetTable):Prop where
 mks:xE t.mask
 up:vE t.place
 du:t.dummies = #[]
 sz:t.place.size=es.size
 le:∀j∈t.place.toList,j<=t.mask
 fl:es.size<=t.mask
 rc:∀z∈t.place.toList.zip es.toList,xD t.mask t.place.toList z.2.1 z.1
def stO(es:Array (Int×c8))(ep:Nat)(t:SetTable):Obj:={cls:=.type "set",dict:=Y,data:=.set es ep t,slots:= #[]}
def uv(a:da)(xs:List (TK×da×c8))(h:dk):Prop:=(xs.map (·.1)).Nodup /\ ∃es ep t,h.get? a=Z (stO es ep t)/\sTT es t/\t.tooFull=J/\(∀e∈es.toList,∃z∈xs,e=(z.1.hash,.ref z.2.1))/\(∀z∈xs,(z.1.hash,Value.ref z.2.1)∈es.toList)/\es.size=xs.length
inductive D where
 |non|bl (b:Bool)|int (i:Int)|str (x:Str)|tup (xs:List D)|rol (xs:List D)|ref (n:Nat)|fn (x:Str)
inductive Ob where
 |lst (xs:List D)|dct (kvs:List (Key×D))|dcT (kvs:List (TK×D))|iset (xs:List Int)|dcF (kvs:List (TK×D))|tst (ks:List TK)
abbrev Sto:=List Ob
abbrev Ev:=List (Option D)
abbrev FE:=Ev->Sto->Option (D×Sto)
abbrev FT:=Ev->Sto->Option (Bool×Sto)
abbrev FA:=Ev->Sto->Option (List D×Sto)
abbrev FN:=List D->Sto->Option (D×Sto)
inductive Fl where
 |nx|rt (d:D)|bk|ct
abbrev FS:=Ev->Sto->Option (Fl×Ev×Sto)
def RoL(K:Fg1)(H:Hp)(a:da)(xs:List V):Prop:=(∃o,H a=Z (.frz o (.lst xs))) \/
 ∃(o:Obj) (its:Array c8) (n:Nat),K.lookup a=Z o/\o.cls = .type "list"/\o.dict=Y/\o.data = .seq its n/\its.size<=di/\dY xs its.toList
theorem RoL.sq{K:Fg1}{H:Hp}{a:da}{xs:List V}(h:RoL K H a xs):lP K H a xs:=h.elim (λ⟨o,q⟩=>.inl (.inr ⟨o,q⟩)) .inr
mutual
inductive eX (K:Fg1)(H:Hp)(mu:List da):D->V->Prop
 |non:eX K H mu .non .non
 |bl (b:Bool):eX K H mu (.bl b) (.bl b)
 |int (i:Int):eX K H mu (.int i) (.int i)
 |str (x:Str):eX K H mu (.str x) (.str x)
 |tup {ds:List D} {vs:List V} {a:da} (h:jP K H a vs) (r:dJ K H mu ds vs):eX K H mu (.tup ds) (.ref a)
 |rol {ds:List D} {vs:List V} {a:da} (h:RoL K H a vs) (r:dJ K H mu ds vs):eX K H mu (.rol ds) (.ref a)
 |ref {n:Nat} {a:da} (h:mu[n]?=some a):eX K H mu (.ref n) (.ref a)
 |fn {x:Str} {a:da} (h:wN1 K dg x=some (some (.ref a))):eX K H mu (.fn x) (.ref a)
inductive dJ (K:Fg1)(H:Hp)(mu:List da):List D->List V->Prop
 |nil:dJ K H mu [] []
 |cons {d:D} {v:V} {ds:List D} {vs:List V} (r:eX K H mu d v) (t:dJ K H mu ds vs):dJ K H mu (d::ds) (v::vs)
end
structure Ext (mu mu':List da)(H H':Hp):Prop where
 pre:mu <+: mu'
 old:∀a o,H a=some o->a∉mu->H' a=some o
 tup:∀a xs,Rd H a (.tup xs)->Rd H' a (.tup xs)
 frz:∀a o u,H a=some (.frz o u)->H' a=some (.frz o u)
 new:∀a∈mu',a∈mu\/H a=none
theorem Ext.refl(mu:List da)(H:Hp):Ext mu mu H H:=⟨bn,λ_ _ h _=>h,λ_ _ h=>h,λ_ _ _ h=>h,λ_ h=>.inl h⟩
theorem Ext.trans{mu m1 m2:List da}{H H1 H2:Hp}(a:Ext mu m1 H H1)(b:Ext m1 m2 H1 H2):Ext mu m2 H H2 where
 pre:=a.pre.trans b.pre
 old:=λc o h n=>b.old c o (a.old c o h n) λz=>by
  rcases a.new c z with q|q
  ·exact n q
  ·rw[h]at q;cases q
 tup:=λc xs h=>b.tup c xs (a.tup c xs h)
 frz:=λc o u h=>b.frz c o u (a.frz c o u h)
 new:=λc h=>by
  rcases b.new c h with q|q
  ·exact a.new c q
  ·by_cases z:c∈mu
   ·exact .inl z
   ·right;cases e:H c with
    |none=>rfl
    |some o=>rw[a.old c o e z]at q;cases q
theorem Ext.at{mu mu':List da}{H H':Hp}(e:Ext mu mu' H H'){n:Nat}{a:da}(h:mu[n]?=Z a):mu'[n]?=Z a:=by
 obtain⟨t,rfl⟩:=e.pre;have b:n<mu.length:=(gE1.mp h).1;rw[gL1 b];exact h
theorem Ext.back{mu mu':List da}{H H':Hp}(e:Ext mu mu' H H'):Ext mu mu H H':=⟨bn,e.old,e.tup,e.frz,λ_ h=>.inl h⟩
structure sD (mu mu':List da)(H H':Hp):Prop where
 pre:mu <+: mu'
 tup:∀a xs,Rd H a (.tup xs)->Rd H' a (.tup xs)
 frz:∀a o u,H a=some (.frz o u)->H' a=some (.frz o u)
theorem Ext.w{mu mu':List da}{H H':Hp}(e:Ext mu mu' H H'):sD mu mu' H H':=⟨e.pre,e.tup,e.frz⟩
theorem sD.trans{mu m1 m2:List da}{H H1 H2:Hp}(a:sD mu m1 H H1)(b:sD m1 m2 H1 H2):sD mu m2 H H2:=⟨a.pre.trans b.pre,λc xs h=>b.tup c xs (a.tup c xs h),λc o u h=>b.frz c o u (a.frz c o u h)⟩
theorem sD.at{mu mu':List da}{H H':Hp}(e:sD mu mu' H H'){n:Nat}{a:da}(h:mu[n]?=Z a):mu'[n]?=Z a:=by
 obtain⟨t,rfl⟩:=e.pre;have b:n<mu.length:=(gE1.mp h).1;rw[gL1 b];exact h
structure E3 (mu mu':List da)(H H':Hp):Prop where
 pre:mu <+: mu'
 tup:∀a xs,Rd H a (.tup xs)->Rd H' a (.tup xs)
 frl:∀a o xs,H a=some (.frz o (.lst xs))->H' a=some (.frz o (.lst xs))
theorem sD.v{mu mu':List da}{H H':Hp}(e:sD mu mu' H H'):E3 mu mu' H H':=⟨e.pre,e.tup,λa o xs h=>e.frz a o _ h⟩
theorem Ext.v{mu mu':List da}{H H':Hp}(e:Ext mu mu' H H'):E3 mu mu' H H':=e.w.v
theorem E3.at{mu mu':List da}{H H':Hp}(e:E3 mu mu' H H'){n:Nat}{a:da}(h:mu[n]?=Z a):mu'[n]?=Z a:=by
 obtain⟨t,rfl⟩:=e.pre;have b:n<mu.length:=(gE1.mp h).1;rw[gL1 b];exact h
theorem jP.exv{K:Fg1}{mu mu':List da}{H H':Hp}{a:da}{vs:List V}(e:E3 mu mu' H H')(h:jP K H a vs):jP K H' a vs:=by
 rcases h with h|h
 ·exact .inl (e.tup a vs h)
 ·exact .inr h
theorem RoL.exv{K:Fg1}{mu mu':List da}{H H':Hp}{a:da}{vs:List V}(e:E3 mu mu' H H')(h:RoL K H a vs):RoL K H' a vs:=by
 rcases h with⟨o,h⟩|h
 ·exact .inl ⟨o,e.frl a o _ h⟩
 ·exact .inr h
theorem eX.exv{K:Fg1}{mu mu':List da}{H H':Hp}(e:E3 mu mu' H H'):∀ {d:D} {v:V},eX K H mu d v->eX K H' mu' d v:=fun h=>h.rec (motive_1:=fun d v _=>eX K H' mu' d v) (motive_2:=fun ds vs _=>dJ K H' mu' ds vs)
  .non .bl .int .str (λh _ ih=>.tup (jP.exv e h) ih) (λh _ ih=>.rol (RoL.exv e h) ih) (λh=>.ref (e.at h)) (λh=>.fn h) .nil (λ_ _ a b=>.cons a b)
theorem dJ.ind{K:Fg1}{mu:List da}{H:Hp}{P:(ds:List D)->(vs:List V)->dJ K H mu ds vs->Prop}(hn:P [] [] .nil)(hc:∀{d v ds vs} (r:eX K H mu d v) (t:dJ K H mu ds vs),P ds vs t->P (d::ds) (v::vs) (.cons r t)){ds:List D}{vs:List V}(h:dJ K H mu ds vs):P ds vs h:=
 h.rec (motive_1:=λ_ _ _=>True) (motive_2:=P) trivial (λ_=>trivial) (λ_=>trivial) (λ_=>trivial) (λ_ _ _=>trivial) (λ_ _ _=>trivial) (λ_=>trivial) (λ_=>trivial) hn (λr t _ ih=>hc r t ih)
theorem dJ.exv{K:Fg1}{mu mu':List da}{H H':Hp}(e:E3 mu mu' H H'):∀{ds:List D} {vs:List V},dJ K H mu ds vs->dJ K H' mu' ds vs:=λh=>h.ind (P:=λds vs _=>dJ K H' mu' ds vs) .nil λr _ ih=>.cons (eX.exv e r) ih
section
variable{K:Fg1}{mu mu':List da}{H H':Hp}{a:da}{vs:List V}
theorem eX.exw(e:sD mu mu' H H'){d:D}{v:V}(h:eX K H mu d v):eX K H' mu' d v:=h.exv e.v
theorem dJ.exw(e:sD mu mu' H H'){ds:List D}(h:dJ K H mu ds vs):dJ K H' mu' ds vs:=h.exv e.v
theorem eX.ext(e:Ext mu mu' H H'){d:D}{v:V}(h:eX K H mu d v):eX K H' mu' d v:=h.exv e.v
theorem dJ.ext(e:Ext mu mu' H H'){ds:List D}(h:dJ K H mu ds vs):dJ K H' mu' ds vs:=h.exv e.v
end
section
variable{K:Fg1}{H:Hp}{mu:List da}
theorem dJ.length:∀{ds:List D} {vs:List V},dJ K H mu ds vs->ds.length=vs.length:=λh=>h.ind (P:=λds vs _=>ds.length=vs.length) O λ_ _ ih=>congrArg (· + 1) ih
theorem dJ.get:∀{ds:List D} {vs:List V} {i:Nat} {d:D},dJ K H mu ds vs->ds[i]?=Z d -> ∃v,vs[i]?=Z v/\eX K H mu d v:=by
 intro ds vs i d h e
 induction h using dJ.ind generalizing i with
 |hn=>cases e
 |hc r t ih=>cases i with
  |zero=>cases e;exact⟨_,O,r⟩
  |succ i=>exact ih (i:=i) e
theorem dJ.getV:∀{ds:List D} {vs:List V} {i:Nat} {v:V},dJ K H mu ds vs->vs[i]?=Z v -> ∃d,ds[i]?=Z d/\eX K H mu d v:=by
 intro ds vs i d h e
 induction h using dJ.ind generalizing i with
 |hn=>cases e
 |hc r t ih=>cases i with
  |zero=>cases e;exact⟨_,O,r⟩
  |succ i=>exact ih (i:=i) e
theorem dJ.append:∀{ds es:List D} {vs ws:List V},dJ K H mu ds vs->dJ K H mu es ws->dJ K H mu (ds++es) (vs++ws):=λh s=>h.ind (P:=λds vs _=>dJ K H mu (ds++_) (vs++_)) s λr _ ih=>.cons r ih
theorem dJ.take:∀{ds:List D} {vs:List V} (n:Nat),dJ K H mu ds vs->dJ K H mu (ds.take n) (vs.take n):=by
 intro ds vs n h
 induction h using dJ.ind generalizing n with
 |hn=>rw[av,av];exact .nil
 |hc r t ih=>cases n with
  |zero=>exact .nil
  |succ n=>exact .cons r (ih n)
theorem dJ.drop:∀{ds:List D} {vs:List V} (n:Nat),dJ K H mu ds vs->dJ K H mu (ds.drop n) (vs.drop n):=by
 intro ds vs n h
 induction h using dJ.ind generalizing n with
 |hn=>rw[aw,aw];exact .nil
 |hc r t ih=>cases n with
  |zero=>exact .cons r t
  |succ n=>exact ih n
theorem dJ.set{d:D}{v:V}(r:eX K H mu d v):∀{ds:List D} {vs:List V} (i:Nat),dJ K H mu ds vs->dJ K H mu (ds.set i d) (vs.set i v):=by
 intro ds vs i h
 induction h using dJ.ind generalizing i with
 |hn=>exact .nil
 |hc q t ih=>cases i with
  |zero=>exact .cons r t
  |succ i=>exact .cons q (ih i)
theorem dJ.eraseIdx:∀{ds:List D} {vs:List V} (i:Nat),dJ K H mu ds vs->dJ K H mu (ds.eraseIdx i) (vs.eraseIdx i):=by
 intro ds vs i h
 induction h using dJ.ind generalizing i with
 |hn=>exact .nil
 |hc q t ih=>cases i with
  |zero=>exact t
  |succ i=>exact .cons q (ih i)
theorem dJ.reverse:∀{ds:List D} {vs:List V},dJ K H mu ds vs->dJ K H mu ds.reverse vs.reverse:=by
 intro ds vs h
 induction h using dJ.ind with
 |hn=>exact .nil
 |hc r t ih=>rw[bo,bo];exact dJ.append ih (.cons r .nil)
end
def KR{κ:Type}(K:Fg1)(H:Hp)(mu:List da):List (κ×D)->List (κ×V)->Prop:=Paired λp q=>p.1=q.1/\eX K H mu p.2 q.2
mutual
def oV:TK->D
 | .non=>.non
 | .int i=>.int i
 | .tup xs=>.tup (ky xs)
def ky:List TK->List D
 |[]=>[]
 |x::xs=>oV x::ky xs
end
def jS(a:da)(xs:List (TK×da×c8))(h:dk):Prop:=(a == sysModules)=J/\(xs.map (·.1)).Nodup /\ ∃o es ep,h.get? a=Z o/\o.ExactDict/\o.data = .dict es ep/\es.toList=xs.map λx=>(⟨x.1.hash,.ref x.2.1,x.2.2⟩:DictEntry)
def E4(a:da)(xs:List (TK×da×c8))(o:Obj):Prop:=(a == sysModules)=J/\(xs.map (·.1)).Nodup/\o.ExactDict /\ ∃es ep,o.data = .dict es ep/\es.toList=xs.map λx=>(⟨x.1.hash,.ref x.2.1,x.2.2⟩:DictEntry)
def KT(K:Fg1)(H:Hp)(mu:List da):List (TK×D)->List (TK×da×c8)->Prop:=Paired λp q=>p.1=q.1/\p.1.dep<=8/\eX K H mu (oV p.1) (.ref q.2.1) /\ ∃v,dN v q.2.2/\eX K H mu p.2 v
def oU(K:Fg1)(H:Hp)(mu:List da)(a:da):Ob->Prop
 | .lst ds=>∃vs,H a=Z (.lst vs)/\dJ K H mu ds vs
 | .dct kvs=>∃ws,H a=Z (.dK ws)/\KR K H mu kvs ws
 | .dcT kvs=>∃xs,H a=Z (.ext (jS a xs))/\KT K H mu kvs xs/\xs.length<=di
 | .iset xs=>H a=Z (.set (λk=>xs.contains k) xs.length)/\xs.Nodup
 | .dcF kvs=>∃xs,(∃o u,H a=Z (.frz o u)/\E4 a xs o)/\KT K H mu kvs xs/\xs.length<=di
 | .tst ks=>∃xs,H a=Z (.ext (uv a xs))/\KT K H mu (ks.map λk=>(k,D.non)) xs
structure Sim (K:Fg1)(H:Hp)(mu:List da)(S:Sto):Prop where
 len:mu.length=S.length
 nd:mu.Nodup
 ob:∀(n:Nat) (o:Ob) (a:da),S[n]?=some o->mu[n]?=some a->oU K H mu a o
structure fJ (K:Fg1)(H:Hp)(mu:List da)(r:Ev)(σ:L2.St):Prop where
 len:r.length=σ.length
 val:∀(i:Nat) (d:D),r[i]?=some (some d) -> ∃v,σ[i]?=some (some v)/\eX K H mu d v
theorem fJ.ext{K:Fg1}{mu mu':List da}{H H':Hp}{r:Ev}{σ:L2.St}(e:Ext mu mu' H H')(h:fJ K H mu r σ):fJ K H' mu' r σ:=⟨h.len,λi d q=>by
 obtain⟨v,b,a⟩:=h.val i d q;exact⟨v,b,a.ext e⟩⟩
theorem KR.ext{κ:Type}{K:Fg1}{mu mu':List da}{H H':Hp}{ks:List (κ×D)}{ws:List (κ×V)}(e:Ext mu mu' H H')(h:KR K H mu ks ws):KR K H' mu' ks ws:=
 Paired.mapP h λ_ _ z=>⟨z.1,z.2.ext e⟩
theorem KT.ext{K:Fg1}{mu mu':List da}{H H':Hp}{ks:List (TK×D)}{ws:List (TK×da×c8)}(e:Ext mu mu' H H')(h:KT K H mu ks ws):KT K H' mu' ks ws:=
 Paired.mapP h λ_ _ ⟨z,d,k,v,a,r⟩=>⟨z,d,k.ext e,v,a,r.ext e⟩
theorem Sim.nil{K:Fg1}{H:Hp}:Sim K H [] []:=⟨O,bp,λn o a h=>by simp at h⟩
theorem Sim.here{K:Fg1}{H:Hp}{mu:List da}{S:Sto}(s:Sim K H mu S){a:da}(h:a∈mu):∃o,H a=Z o:=by
 obtain⟨n,b⟩:=bq h;have c:n<S.length:=by rw[<- s.len];exact(gE1.mp b).1
 have q:=s.ob n _ a (gG1 c) b;cases e:S[n]with
 |lst ds=>rw[e]at q;obtain⟨vs,z,_⟩:=q;exact⟨_,z⟩
 |dct ks=>rw[e]at q;obtain⟨vs,z,_⟩:=q;exact⟨_,z⟩
 |dcT ks=>rw[e]at q;obtain⟨vs,z,_⟩:=q;exact⟨_,z⟩
 |iset xs=>rw[e]at q;exact⟨_,q.1⟩
 |dcF ks=>rw[e]at q;obtain⟨vs,⟨_,_,z,_⟩,_⟩:=q;exact⟨_,z⟩
 |tst ks=>rw[e]at q;obtain⟨vs,z,_⟩:=q;exact⟨_,z⟩
def sy(K:Fg1)(mu:List da)(H:Hp)(d:D)(S':Sto)(Q:VK):Prop:=∀v H' mu',Ext mu mu' H H'->eX K H' mu' d v->Sim K H' mu' S'->Q v H'
inductive tM (K:Fg1)(m:FE)(σ:L2.St)(H:Hp)(Q:VK):Prop
 |mk (r:Ev) (mu:List da) (S:Sto) (d:D) (S':Sto) (he:fJ K H mu r σ) (hs:Sim K H mu S) (hm:m r S=some (d,S')) (hc:sy K mu H d S' Q)
inductive B8 (K:Fg1)(m:FT)(σ:L2.St)(H:Hp)(Q:Bool->Hp->Prop):Prop
 |mk (r:Ev) (mu:List da) (S:Sto) (b:Bool) (S':Sto) (he:fJ K H mu r σ) (hs:Sim K H mu S) (hm:m r S=some (b,S')) (hc:∀H' mu',Ext mu mu' H H'->Sim K H' mu' S'->Q b H')
inductive LH (K:Fg1)(m:FA)(σ:L2.St)(H:Hp)(Q:List V->Hp->Prop):Prop
 |mk (r:Ev) (mu:List da) (S:Sto) (ds:List D) (S':Sto) (he:fJ K H mu r σ) (hs:Sim K H mu S) (hm:m r S=some (ds,S')) (hc:∀vs H' mu',Ext mu mu' H H'->dJ K H' mu' ds vs->Sim K H' mu' S'->Q vs H')
def KE(K:Fg1)(mu:List da)(H:Hp)(r':Ev)(S':Sto)(E:jR)(f:Fl):Prop:=match f with
 | .nx=>∀ σ' H' mu',Ext mu mu' H H'->fJ K H' mu' r' σ'->Sim K H' mu' S'->E.nx σ' H'
 | .bk=>∀ σ' H' mu',Ext mu mu' H H'->fJ K H' mu' r' σ'->Sim K H' mu' S'->E.bk σ' H'
 | .ct=>∀ σ' H' mu',Ext mu mu' H H'->fJ K H' mu' r' σ'->Sim K H' mu' S'->E.ct σ' H'
 | .rt d=>sy K mu H d S' E.rt
inductive vV (K:Fg1)(m:FS)(E:jR)(σ:L2.St)(H:Hp):Prop
 |mk (r:Ev) (mu:List da) (S:Sto) (f:Fl) (r':Ev) (S':Sto) (he:fJ K H mu r σ) (hs:Sim K H mu S) (hm:m r S=some (f,r',S')) (hc:KE K mu H r' S' E f)
inductive rN (K:Fg1)(f:FN)(vs:List V)(H:Hp)(Q:VK):Prop
 |mk (mu:List da) (S:Sto) (ds:List D) (d:D) (S':Sto) (hr:dJ K H mu ds vs) (hs:Sim K H mu S) (hm:f ds S=some (d,S')) (hc:sy K mu H d S' Q)
abbrev ME(X:Cx)(e:Expr)(m:FE):Prop:=PE X e (tM X.K m)
abbrev MT(X:Cx)(e:Expr)(m:FT):Prop:=PT X e (B8 X.K m)
abbrev MW(X:Cx)(e:Expr)(m:FT):Prop:=PW X e (B8 X.K m)
abbrev MA(X:Cx)(es:List Expr)(m:FA):Prop:=PA X es (LH X.K m)
abbrev MS(X:Cx)(st:dn)(m:FS):Prop:=PS X st (vV X.K m)
abbrev yv(X:Cx)(st:List dn)(m:FS):Prop:=uC X st (vV X.K m)
section
variable{X:Cx}{e:Expr}{es:List Expr}{st:dn}{sts:List dn}
theorem ez{t t':TE}(h:PE X e t)(i:∀ σ H Q,t' σ H Q->t σ H Q):PE X e t':=λag s σ H Q I q=>h ag s σ H Q I (i σ H Q q)
theorem qC{t t':TT}(h:PT X e t)(i:∀ σ H Q,t' σ H Q->t σ H Q):PT X e t':=λag s σ H Q I q=>h ag s σ H Q I (i σ H Q q)
theorem zF{t t':TT}(h:PW X e t)(i:∀ σ H Q,t' σ H Q->t σ H Q):PW X e t':=λa ag s σ H Q I q=>h a ag s σ H Q I (i σ H Q q)
theorem zX{t t':TA}(h:PA X es t)(i:∀ σ H Q,t' σ H Q->t σ H Q):PA X es t':=λpos ag s σ H Q I q=>h pos ag s σ H Q I (i σ H Q q)
theorem iW{t t':TS}(h:PS X st t)(i:∀E σ H,t' E σ H->t E σ H):PS X st t':=λag s σ H E I q=>h ag s σ H E I (i E σ H q)
theorem qL{t t':TS}(h:uC X sts t)(i:∀E σ H,t' E σ H->t E σ H):uC X sts t':=λag s σ H E I q=>h ag s σ H E I (i E σ H q)
end
noncomputable def mV (i:Nat):FE:=λr S=>match r[i]? with
 |some (some d)=>some (d,S)
 |_=>none
noncomputable def mC (d:D):FE:=λ_ S=>some (d,S)
section
variable{X:Cx}{pos:Pos}
theorem GD (i:Nat){x:Str}(hN:X.N[i]?=Z x)(hv:Ed X.env.scope x)(hd:(x == ("__debug__":Str))=J)(hcd:(x == ("__classdict__":Str))=J):ME X (.Name x pos) (mV i):=
 ez (FX hN hv hd hcd) <| by
  rintro σ H Q ⟨r,mu,S,d,j,c,f,a,hc⟩;unfold mV at a;split at a
  ·rename_i h e;cases a;obtain⟨v,b,g⟩:=c.val i _ e;exact⟨v,b,hc v H mu (.refl _ _) g f⟩
  ·cases a
theorem Ay{e:Expr}{v:V}(d:D)(h:PE X e (tC v))(hr:∀H mu,eX X.K H mu d v):ME X e (mC d):=
 ez h <| by
  rintro σ H Q ⟨r,mu,S,f,g,c,b,a,hc⟩;cases a;exact hc v H mu (.refl _ _) (hr H mu) b
theorem GL{i:Int}{j}:ME X (.Constant (.int i) j pos) (mC (.int i)):=Ay _ F5 λ_ _=>.int i
theorem Jo{b:Bool}{j}:ME X (.Constant (.bool b) j pos) (mC (.bl b)):=Ay _ IQ λ_ _=>.bl b
theorem GJ{j}:ME X (.Constant .none j pos) (mC .non):=Ay _ F3 λ_ _=>.non
theorem GF{x:Str}{j}:ME X (.Constant (.str x) j pos) (mC (.str x)):=Ay _ FZ λ_ _=>.str x
end
def dt:FA:=λ_ S=>Z ([],S)
noncomputable def dr (m:FE)(n:FA):FA:=λr S=>(m r S).bind λp=>(n r p.2).bind λq=>some (p.1::q.1,q.2)
section
variable{X:Cx}{pos:Pos}{e:Expr}{es:List Expr}{m:FE}{n:FA}
theorem GP:MA X [] dt:=zX lW <| by
 rintro σ H Q ⟨r,mu,S,ds,d,c,a,b,hc⟩;cases b;exact hc [] H mu (.refl _ _) .nil a
theorem Df(h:ME X e m)(ht:MA X es n)(hs:dh (e::es) X.env=(J,eval e X.env)::dh es X.env):MA X (e::es) (dr m n):=
 zX (iX h ht hs) <| by
  rintro σ H Q ⟨r,mu,S,ds,q,i,hs,a,hc⟩;unfold dr at a;obtain⟨⟨d,g⟩,j,a⟩:=oB1.mp a;obtain⟨⟨c,s⟩,o,a⟩:=oB1.mp a;cases a;refine⟨r,mu,S,d,g,i,hs,j,λv H1 mu1 f p k=>?_⟩;refine⟨r,mu1,g,c,_,i.ext f,k,o,λvs H2 b x2 r2 l=>?_⟩;exact hc _ H2 b (f.trans x2) (.cons (p.ext x2) r2) l
end
noncomputable def m2 (f:FN)(a b:FE):FE:=λr S=>(a r S).bind λp=>(b r p.2).bind λq=>f [p.1,q.1] q.2
noncomputable def m1 (f:FN)(a:FE):FE:=λr S=>(a r S).bind λp=>f [p.1] p.2
noncomputable def mN (f:FN)(a:FA):FE:=λr S=>(a r S).bind λp=>f p.1 p.2
abbrev r2(K:Fg1)(f:FN):R2:=λx y H Q=>rN K f [x,y] H Q
section
variable{X:Cx}{K:Fg1}{f:FN}{a b:FE}{σ:L2.St}{H:Hp}{Q:VK}
theorem wz(h:tM K (m2 f a b) σ H Q):Ih (r2 K f) (tM K a) (tM K b) σ H Q:=by
 obtain⟨r,mu,S,d,A,n,s,c,hc⟩:=h;obtain⟨⟨k,i⟩,o,c⟩:=oB1.mp c;obtain⟨⟨j,l⟩,B,c⟩:=oB1.mp c;refine⟨r,mu,S,k,i,n,s,o,λv H1 mu1 m x y=>?_⟩;refine⟨r,mu1,i,j,l,n.ext m,y,B,λu H2 e x2 r2 t=>?_⟩;exact⟨e,l,[k,j],d,A,.cons (x.ext x2) (.cons r2 .nil),t,c,λv w g q p z=>hc v w g ((m.trans x2).trans q) p z⟩
theorem Jp(h:tM K (m1 f a) σ H Q):LG (λx H Q=>rN K f [x] H Q) (tM K a) σ H Q:=by
 obtain⟨r,mu,S,d,s,m,o,c,hc⟩:=h;obtain⟨⟨g,e⟩,j,c⟩:=oB1.mp c;refine⟨r,mu,S,g,e,m,o,j,λv H1 mu1 i t l=>?_⟩;exact⟨mu1,e,[g],d,s,.cons t .nil,l,c,λv q b n k p=>hc v q b (i.trans n) k p⟩
theorem wy{a:FA}(h:tM K (mN f a) σ H Q):LH K a σ H λvs H1=>rN K f vs H1 Q:=by
 obtain⟨r,mu,S,d,s,m,o,c,hc⟩:=h;obtain⟨⟨g,e⟩,j,c⟩:=oB1.mp c;refine⟨r,mu,S,g,e,m,o,j,λv H1 mu1 i t l=>?_⟩;exact⟨mu1,e,g,d,s,t,l,c,λv q b n k p=>hc v q b (i.trans n) k p⟩
theorem Jk{op:Operator}{x y:Expr}{pos:Pos}(ho:gg X (binaryOp op) (r2 X.K f))(hx:ME X x a)(hy:ME X y b):ME X (.BinOp x op y pos) (m2 f a b):=ez (IM ho hx hy) λ_ _ _=>wz
theorem Jj{op:UnaryOp}{x:Expr}{pos:Pos}(ho:HW X (unaryOp op) (λx H Q=>rN X.K f [x] H Q))(hx:ME X x a):ME X (.UnaryOp op x pos) (m1 f a):=ez (IL ho hx) λ_ _ _=>Jp
theorem GM{op:CmpOp}{x y:Expr}{pos:Pos}(ho:gg X (compareOp op) (r2 X.K f))(hx:ME X x a)(hy:ME X y b)(hm:behindInMarks op y=J):ME X (.Compare x [op] [y] pos) (m2 f a b):=ez (CO ho hx hy hm) λ_ _ _=>wz
theorem Jl{x y:Expr}{pos:Pos}(ho:E2 X (r2 X.K f))(hx:ME X x a)(hy:ME X y b)(hs:nr y):ME X (.Subscript x y pos) (m2 f a b):=ez (IN ho hx hy hs) λ_ _ _=>wz
theorem Ax {x:Str}{p pos:Pos}{e:Expr}{es:List Expr}{id:String}{a:FA}(hc:eA X (.builtin id) (rN X.K f))(hg:Gl X x)(hm:X.mg x=none)(hv:bootBuiltins x=some (.builtin id))(ha:MA X (e::es) a)(hn:x≠"__name__")(hdb:(x == ("__debug__":Str))=false)
  (he:dh (e::es) X.env=(J,eval e X.env)::dh es X.env) (hpl:(backTo pos (dh es X.env)).any (·.1)=J):ME X (.Call (.Name x p) (e::es) [] pos) (mN f a):=
 ez (nV hc hg hm hv ha hn hdb he hpl) λ_ _ _=>wy
theorem xR {x:Str}{p pos:Pos}{e:Expr}{es:List Expr}{T:String}{a:FA}(hc:eA X (.type T) (rN X.K f))(hg:Gl X x)(hm:X.mg x=none)(hv:bootBuiltins x=some (.type T))(ha:MA X (e::es) a)(hn:x≠"__name__")(hdb:(x == ("__debug__":Str))=false)
  (he:dh (e::es) X.env=(J,eval e X.env)::dh es X.env) (hpl:(backTo pos (dh es X.env)).any (·.1)=J):ME X (.Call (.Name x p) (e::es) [] pos) (mN f a):=
 ez (jX hc hg hm hv ha hn hdb he hpl) λ_ _ _=>wy
end
noncomputable def mB (m:FE):FT:=λr S=>(m r S).bind λp=>match p.1 with
 | .bl b=>some (b,p.2)
 |_=>none
theorem EA{K:Fg1}{m:FE}{σ:L2.St}{H:Hp}{Q:Bool->Hp->Prop}(h:B8 K (mB m) σ H Q):tB (tM K m) σ H Q:=by
 obtain⟨r,mu,S,b,n,f,g,a,hc⟩:=h;obtain⟨⟨i,l⟩,d,a⟩:=oB1.mp a;cases i with
 |bl k=>
  cases a;refine⟨r,mu,S,_,_,f,g,d,λv H1 mu1 c j e=>?_⟩;cases j;exact⟨_,O,hc H1 mu1 c e⟩
 |_=>cases a
def rn(a b:FT):FT:=λr S=>(a r S).bind λp=>if p.1=M then b r p.2 else Z (J,p.2)
def mOr(a b:FT):FT:=λr S=>(a r S).bind λp=>if p.1=M then Z (M,p.2)else b r p.2
def gI(a:FT):FT:=λr S=>(a r S).bind λp=>Z (!p.1,p.2)
def iL(a b:FE):FE:=λr S=>(a r S).bind λp=>match p.1 with
 | .bl c=>if c=M then b r p.2 else Z (.bl J,p.2)
 |_=>Y
def Mq(a b:FE):FE:=λr S=>(a r S).bind λp=>match p.1 with
 | .bl c=>if c=M then Z (.bl M,p.2)else b r p.2
 |_=>Y
def pF(a:FE):FE:=λr S=>(a r S).bind λp=>match p.1 with
 | .bl c=>Z (.bl (!c),p.2)
 |_=>Y
def HS(c:FT)(a b:FE):FE:=λr S=>(c r S).bind λp=>if p.1=M then a r p.2 else b r p.2
section
variable{X:Cx}{x y c:Expr}{rest:List Expr}{pos:Pos}{a b:FT}{f g:FE}
theorem Gq{op:CmpOp}{f:FN}{a b:FE}(ho:gg X (compareOp op) (r2 X.K f))(hx:ME X x a)(hy:ME X y b)(hm:behindInMarks op y=J):MT X (.Compare x [op] [y] pos) (mB (m2 f a b)):=
 qC (Cu ho hx hy hm) fun σ H Q h=>by
  obtain⟨r,mu,S,d,j,g,i,hm,hc⟩:=EA h;exact wz ⟨r,mu,S,d,j,g,i,hm,λv H' mu' c k e=>hc v H' mu' c k e⟩
theorem C2(ha:MT X x a):MW X (.BoolOp .And [x] pos) a:=Ct ha
theorem Gm(ha:MT X x a):MW X (.BoolOp .Or [x] pos) a:=Fy ha
theorem Gn(ha:MT X x a)(hb:MW X (.BoolOp .And (y::rest) pos) b):MW X (.BoolOp .And (x::y::rest) pos) (rn a b):=
 zF (Fz ha hb) <| by
  rintro σ H Q ⟨r,mu,S,k,m,h,j,c,hc⟩;obtain⟨⟨b1,g⟩,i,c⟩:=oB1.mp c;refine⟨r,mu,S,b1,g,h,j,i,λH1 mu1 d f=>?_⟩;cases b1 with
  |true=>exact⟨r,mu1,g,k,m,h.ext d,f,c,λH2 e x2 l=>hc H2 e (d.trans x2) l⟩
  |false=>cases c;exact hc H1 mu1 d f
theorem Ja(ha:MT X x a)(hb:MW X (.BoolOp .Or (y::rest) pos) b):MW X (.BoolOp .Or (x::y::rest) pos) (mOr a b):=
 zF (IG ha hb) <| by
  rintro σ H Q ⟨r,mu,S,k,m,h,j,c,hc⟩;obtain⟨⟨b1,g⟩,i,c⟩:=oB1.mp c;refine⟨r,mu,S,b1,g,h,j,i,λH1 mu1 d f=>?_⟩;cases b1 with
  |false=>exact⟨r,mu1,g,k,m,h.ext d,f,c,λH2 e x2 l=>hc H2 e (d.trans x2) l⟩
  |true=>cases c;exact hc H1 mu1 d f
theorem K2(h:MW X x a):MT X x a:=PW.pt h
theorem Gp(ha:MT X x a):MT X (.UnaryOp .Not x pos) (gI a):=
 qC (FC ha) <| by
  rintro σ H Q ⟨r,mu,S,k,i,g,h,b,hc⟩;obtain⟨⟨b1,f⟩,d,b⟩:=oB1.mp b;cases b;exact⟨r,mu,S,b1,f,g,h,d,λH1 mu1 c e=>hc H1 mu1 c e⟩
theorem GH{op}(h:ME X x f):ME X (.BoolOp op [x] pos) f:=F1 h
theorem GN(ha:ME X x f)(hb:ME X (.BoolOp .And (y::rest) pos) g):ME X (.BoolOp .And (x::y::rest) pos) (iL f g):=
 ez (F7 ha hb) <| by
  rintro σ H Q ⟨r,mu,S,k,o,h,m,a,hc⟩;obtain⟨⟨i,e⟩,l,a⟩:=oB1.mp a;refine⟨r,mu,S,i,e,h,m,l,λv H1 mu1 b p d=>?_⟩;cases i with
  |bl b1=>
   cases p;refine⟨b1,O,?_⟩;cases b1 with
   |true=>exact⟨r,mu1,e,k,o,h.ext b,d,a,λj H2 c x2 r2 n=>hc j H2 c (b.trans x2) r2 n⟩
   |false=>cases a;exact hc _ H1 mu1 b (.bl J) d
  |_=>cases a
theorem GI(ha:ME X x f):ME X (.UnaryOp .Not x pos) (pF f):=
 ez (F2 ha) <| by
  rintro σ H Q ⟨r,mu,S,k,l,h,i,a,hc⟩;obtain⟨⟨b,g⟩,d,a⟩:=oB1.mp a;refine⟨r,mu,S,b,g,h,i,d,λv H1 mu1 c j e=>?_⟩;cases b with
  |bl b1=>
   cases j;cases a;exact⟨b1,O,hc _ H1 mu1 c (.bl _) e⟩
  |_=>cases a
theorem Jm(hc:MT X c a)(hx:ME X x f)(hy:ME X y g):ME X (.IfExp c x y pos) (HS a f g):=
 ez (zS hc hx hy) <| by
  rintro σ H Q ⟨r,mu,S,k,n,j,p,e,hc⟩;obtain⟨⟨b1,i⟩,o,e⟩:=oB1.mp e;refine⟨r,mu,S,b1,i,j,p,o,λH1 mu1 d m=>?_⟩;cases b1 with
  |true=>exact⟨r,mu1,i,k,n,j.ext d,m,e,λh H2 b x2 r2 l=>hc h H2 b (d.trans x2) r2 l⟩
  |false=>exact⟨r,mu1,i,k,n,j.ext d,m,e,λh H2 b x2 r2 l=>hc h H2 b (d.trans x2) r2 l⟩
end
def GR(f g:FN)(a b c:FE):FE:=λr S=>(a r S).bind λp=>(b r p.2).bind λq=>(f [p.1,q.1] q.2).bind λt=>match t.1 with
 | .bl k=>if k=M then(c r t.2).bind λz=>g [q.1,z.1] z.2 else Z (.bl J,t.2)
 |_=>Y
section
variable{X:Cx}{x y z:Expr}{pos:Pos}{f g:FN}{a b c:FE}{op op':CmpOp}
theorem GQ{K:Fg1}{σ:L2.St}{H:Hp}{Q:VK}(h:tM K (GR f g a b c) σ H Q):zk (r2 K f) (r2 K g) (tM K a) (tM K b) (tM K c) σ H Q:=by
 obtain⟨r,mu,S,d,R,q,ao,e,hc⟩:=h;obtain⟨⟨v,t⟩,C,e⟩:=oB1.mp e;obtain⟨⟨o,w⟩,W,e⟩:=oB1.mp e;obtain⟨⟨A,u⟩,G,e⟩:=oB1.mp e;refine⟨r,mu,S,v,t,q,ao,C,λv1 H1 mu1 l N au=>?_⟩;refine⟨r,mu1,t,o,w,q.ext l,au,W,λX H2 m x2 r2 L=>?_⟩;refine⟨m,w,[v,o],A,u,.cons (N.ext x2) (.cons r2 .nil),L,G,λar aq i j E x=>?_⟩;cases A with
 |bl k=>
  cases E;refine⟨k,O,?_⟩;cases k with
  |false=>cases e;exact hc _ aq i ((l.trans x2).trans j) (.bl J) x
  |true=>
   obtain⟨⟨y,s⟩,U,e⟩:=oB1.mp e;refine⟨r,i,u,y,s,q.ext ((l.trans x2).trans j),x,U,λv4 wq p z P T=>?_⟩;exact⟨p,s,[o,y],d,R,.cons ((r2.ext j).ext z) (.cons P .nil),T,e,λI V n B F D=>hc I V n ((((l.trans x2).trans j).trans z).trans B) F D⟩
 |_=>cases e
theorem Av(ho:gg X (compareOp op) (r2 X.K f))(ho':gg X (compareOp op') (r2 X.K g))(hx:ME X x a)(hy:ME X y b)(hz:ME X z c)(hm:lastMarks [op,op'] [y,z]=false):
  ME X (.Compare x [op,op'] [y,z] pos) (GR f g a b c):=ez (zV ho ho' hx hy hz hm) λ_ _ _=>GQ
end
mutual
def D.und(n:Nat):D->Bool
 | .tup xs=>D.unds n xs
 | .rol xs=>D.unds n xs
 | .ref k=>decide (k<n)
 | .non=>M
 | .bl _=>M
 | .int _=>M
 | .str _=>M
 | .fn _=>M
def D.unds(n:Nat):List D->Bool
 |[]=>M
 |d::ds=>D.und n d&&D.unds n ds
end
def D.sames(a b:List D):Bool:=@decide (a=b) (Classical.propDecidable _)
theorem D.sames_eq{a b:List D}(h:D.sames a b=M):a=b:=@of_decide_eq_true _ (Classical.propDecidable _) h
theorem D.sames_refl(a:List D):D.sames a a=M:=@decide_eq_true _ (Classical.propDecidable _) O
section
variable{K:Fg1}{H:Hp}{mu mu':List da}
theorem eX.cut{n:Nat}(h:∀ k,k<n->mu[k]? = mu'[k]?):∀ {d:D} {v:V},eX K H mu d v->d.und n=true->eX K H mu' d v:=fun c=>c.rec (motive_1:=fun d v _=>d.und n=true->eX K H mu' d v) (motive_2:=fun ds vs _=>D.unds n ds=true->dJ K H mu' ds vs)
  (λ_=>.non) (λb _=>.bl b) (λi _=>.int i) (λx _=>.str x) (λq _ ih e=>.tup q (ih (by rw[D.und]at e;exact e))) (λq _ ih e=>.rol q (ih (by rw[D.und]at e;exact e)))
  (λq e=>.ref (by rw[D.und]at e;rw[<- h _ (of_decide_eq_true e)];exact q)) (λq _=>.fn q) (λ_=>.nil) (λ_ _ a b e=>by rw[D.unds,bA1]at e;exact .cons (a e.1) (b e.2))
theorem dJ.cut{n:Nat}(h:∀k,k<n->mu[k]?=mu'[k]?):∀{ds:List D} {vs:List V},dJ K H mu ds vs->D.unds n ds=M->dJ K H mu' ds vs:=λa=>a.ind (P:=λds vs _=>D.unds n ds=M->dJ K H mu' ds vs) (λ_=>.nil) λr _ b e=>by rw[D.unds,bA1]at e;exact .cons (eX.cut h r e.1) (b e.2)
end
def Ob.und(n:Nat):Ob->Bool
 | .lst xs=>D.unds n xs
 | .dct kvs=>D.unds n (kvs.map (·.2))
 | .dcT kvs=>D.unds n (kvs.map (·.2))
 | .iset _=>M
 | .dcF kvs=>D.unds n (kvs.map (·.2))
 | .tst _=>M
theorem KR.cut{κ:Type}{K:Fg1}{H:Hp}{mu mu':List da}{n:Nat}(h:∀k,k<n->mu[k]?=mu'[k]?):∀{ks:List (κ×D)} {ws:List (κ×V)},KR K H mu ks ws->D.unds n (ks.map (·.2))=M->KR K H mu' ks ws:=by
 intro ks ws a e
 induction a with
 |nil=>exact .nil
 |cons r t ih=>
  rw[mP1,D.unds,bA1]at e;exact .cons ⟨r.1,r.2.cut h e.1⟩ (ih e.2)
mutual
theorem zg(n:Nat):∀k:TK,(oV k).und n=M
 | .non=>rfl
 | .int _=>rfl
 | .tup xs=>by rw[oV,D.und];exact vT n xs
theorem vT(n:Nat):∀ks:List TK,D.unds n (ky ks)=M
 |[]=>rfl
 |x::xs=>by rw[ky,D.unds,zg n x,vT n xs];rfl
end
theorem KT.cut{K:Fg1}{H:Hp}{mu mu':List da}{n:Nat}(h:∀k,k<n->mu[k]?=mu'[k]?):∀{ks:List (TK×D)} {ws:List (TK×da×c8)},KT K H mu ks ws->D.unds n (ks.map (·.2))=M->KT K H mu' ks ws:=by
 intro ks ws a e
 induction a with
 |nil=>exact .nil
 |cons r t ih=>
  rw[mP1,D.unds,bA1]at e;obtain⟨z,d,k,v,b,r⟩:=r;exact .cons ⟨z,d,k.cut h (zg n _),v,b,r.cut h e.1⟩ (ih e.2)
theorem wt(n:Nat):∀ks:List TK,D.unds n ((ks.map λk=>(k,D.non)).map (·.2))=M
 |[]=>rfl
 |_::ks=>by rw[mP1,mP1,D.unds,wt n ks];rfl
theorem oU.cut{K:Fg1}{H:Hp}{mu mu':List da}{n:Nat}{a:da}(h:∀k,k<n->mu[k]?=mu'[k]?):∀{o:Ob},oU K H mu a o->o.und n=M->oU K H mu' a o
 | .lst _,⟨vs,e,r⟩,b=>⟨vs,e,r.cut h b⟩
 | .dct _,⟨ws,e,r⟩,b=>⟨ws,e,KR.cut h r b⟩
 | .dcT _,⟨ws,e,r,l⟩,b=>⟨ws,e,KT.cut h r b,l⟩
 | .iset _,q,_=>q
 | .dcF _,⟨ws,e,r,l⟩,b=>⟨ws,e,KT.cut h r b,l⟩
 | .tst ks,⟨ws,e,r⟩,_=>⟨ws,e,KT.cut h r (wt n ks)⟩
def gc(n:Nat)(p:D×Sto):D×Sto:=if p.1.und n&&(p.2.take n).all (Ob.und n)then(p.1,p.2.take n)else p
mutual
def D.sh(n:Nat):D->D
 | .tup xs=>.tup (D.shs n xs)
 | .rol xs=>.rol (D.shs n xs)
 | .ref k=>.ref (n+k)
 | .fn x=>.fn x
 | .non=>.non
 | .bl b=>.bl b
 | .int i=>.int i
 | .str x=>.str x
def D.shs(n:Nat):List D->List D
 |[]=>[]
 |d::ds=>D.sh n d::D.shs n ds
end
def Ob.sh(n:Nat):Ob->Ob
 | .lst xs=>.lst (D.shs n xs)
 | .dct kvs=>.dct (kvs.map λp=>(p.1,p.2.sh n))
 | .dcT kvs=>.dcT (kvs.map λp=>(p.1,p.2.sh n))
 | .iset xs=>.iset xs
 | .dcF kvs=>.dcF (kvs.map λp=>(p.1,p.2.sh n))
 | .tst ks=>.tst ks
theorem eX.sh{K:Fg1}{H:Hp}{mu mu':List da}:∀ {d:D} {v:V},eX K H mu' d v->eX K H (mu++mu') (d.sh mu.length) v:=fun c=>c.rec (motive_1:=fun d v _=>eX K H (mu++mu') (d.sh mu.length) v) (motive_2:=fun ds vs _=>dJ K H (mu++mu') (D.shs mu.length ds) vs)
  .non .bl .int .str (λh _ ih=>.tup h ih) (λh _ ih=>.rol h ih) (λh=>.ref (by rw[gR1 (br _ _),Nat.add_sub_cancel_left];exact h)) (λh=>.fn h) .nil (λ_ _ a b=>.cons a b)
theorem dJ.sh{K:Fg1}{H:Hp}{mu mu':List da}:∀{ds:List D} {vs:List V},dJ K H mu' ds vs->dJ K H (mu++mu') (D.shs mu.length ds) vs:=λh=>h.ind (P:=λds vs _=>dJ K H (mu++mu') (D.shs mu.length ds) vs) .nil λr _ ih=>.cons (eX.sh r) ih
theorem KR.sh{κ:Type}{K:Fg1}{H:Hp}{mu mu':List da}:∀{ks:List (κ×D)} {ws:List (κ×V)},KR K H mu' ks ws->KR K H (mu++mu') (ks.map λp=>(p.1,p.2.sh mu.length)) ws:=by
 intro ks ws h
 induction h with
 |nil=>exact .nil
 |cons r t ih=>exact .cons ⟨r.1,r.2.sh⟩ ih
mutual
theorem Ei(n:Nat):∀k:TK,(oV k).sh n=oV k
 | .non=>rfl
 | .int _=>rfl
 | .tup xs=>by rw[oV,D.sh,zf n xs]
theorem zf(n:Nat):∀ks:List TK,D.shs n (ky ks)=ky ks
 |[]=>rfl
 |x::xs=>by rw[ky,D.shs,Ei n x,zf n xs]
end
theorem KT.sh{K:Fg1}{H:Hp}{mu mu':List da}:∀{ks:List (TK×D)} {ws:List (TK×da×c8)},KT K H mu' ks ws->KT K H (mu++mu') (ks.map λp=>(p.1,p.2.sh mu.length)) ws:=by
 intro ks ws h
 induction h with
 |nil=>exact .nil
 |cons r t ih=>
  obtain⟨z,d,k,v,a,r⟩:=r;exact .cons ⟨z,d,by have:=k.sh (mu:=mu);rw[Ei]at this;exact this,v,a,r.sh⟩ ih
theorem oU.sh{K:Fg1}{H:Hp}{mu mu':List da}{a:da}:∀{o:Ob},oU K H mu' a o->oU K H (mu++mu') a (o.sh mu.length)
 | .lst _,⟨vs,e,r⟩=>⟨vs,e,r.sh⟩
 | .dct _,⟨ws,e,r⟩=>⟨ws,e,KR.sh r⟩
 | .dcT _,⟨ws,e,r,l⟩=>⟨ws,e,KT.sh r,l⟩
 | .iset _,q=>q
 | .dcF _,⟨ws,e,r,l⟩=>⟨ws,e,KT.sh r,l⟩
 | .tst ks,⟨ws,e,r⟩=>⟨ws,e,by have:=KT.sh (mu:=mu) r;rw[bt]at this;exact this⟩
theorem eX.mor{K:Fg1}{H:Hp}{mu:List da}(mu':List da):∀{d:D} {v:V},eX K H mu d v->eX K H (mu++mu') d v:=λh=>h.exv ⟨bu _ _,λ_ _ h=>h,λ_ _ _ h=>h⟩
theorem dJ.mor{K:Fg1}{H:Hp}{mu:List da}(mu':List da):∀{ds:List D} {vs:List V},dJ K H mu ds vs->dJ K H (mu++mu') ds vs:=λh=>h.exv ⟨bu _ _,λ_ _ h=>h,λ_ _ _ h=>h⟩
theorem KR.mor{κ:Type}{K:Fg1}{H:Hp}{mu:List da}(mu':List da){ks:List (κ×D)}{ws:List (κ×V)}(h:KR K H mu ks ws):KR K H (mu++mu') ks ws:=Paired.mapP h λ_ _ z=>⟨z.1,z.2.mor mu'⟩
theorem oU.mor{K:Fg1}{H:Hp}{mu:List da}{a:da}(mu':List da):∀{o:Ob},oU K H mu a o->oU K H (mu++mu') a o
 | .lst _,⟨vs,e,r⟩=>⟨vs,e,r.mor mu'⟩
 | .dct _,⟨ws,e,r⟩=>⟨ws,e,KR.mor mu' r⟩
 | .dcT _,⟨ws,e,r,l⟩=>⟨ws,e,Paired.mapP r λ_ _ ⟨z,d,k,v,b,r⟩=>⟨z,d,k.mor mu',v,b,r.mor mu'⟩,l⟩
 | .iset _,q=>q
 | .dcF _,⟨ws,e,r,l⟩=>⟨ws,e,Paired.mapP r λ_ _ ⟨z,d,k,v,b,r⟩=>⟨z,d,k.mor mu',v,b,r.mor mu'⟩,l⟩
 | .tst _,⟨ws,e,r⟩=>⟨ws,e,Paired.mapP r λ_ _ ⟨z,d,k,v,b,r⟩=>⟨z,d,k.mor mu',v,b,r.mor mu'⟩⟩
def p0(f:FN):FN:=λds S=>if D.unds 0 ds=M then(f ds []).map λp=>if p.1.und 0=M then(p.1,S)else(p.1.sh S.length,S++p.2.map (Ob.sh S.length))else(f ds S).map (gc S.length)
theorem oU.keep{K:Fg1}{H H':Hp}{mu:List da}{a:da}(e:Ext mu mu H H')(h:∀o,H a=Z o->H' a=Z o):∀{o:Ob},oU K H mu a o->oU K H' mu a o
 | .lst _,⟨vs,q,r⟩=>⟨vs,h _ q,r.ext e⟩
 | .dct _,⟨ws,q,r⟩=>⟨ws,h _ q,KR.ext e r⟩
 | .dcT _,⟨ws,q,r,l⟩=>⟨ws,h _ q,KT.ext e r,l⟩
 | .iset _,q=>⟨h _ q.1,q.2⟩
 | .dcF _,⟨ws,⟨o,u,c,b⟩,r,l⟩=>⟨ws,⟨o,u,h _ c,b⟩,KT.ext e r,l⟩
 | .tst _,⟨ws,q,r⟩=>⟨ws,h _ q,KT.ext e r⟩
theorem ul{K:Fg1}{f:FN}{vs:List V}{H:Hp}{Q:VK}(h:rN K (p0 f) vs H Q):rN K f vs H Q:=by
 obtain⟨mu,S,ds,d,L,E,c,g,hc⟩:=h;unfold p0 at g;split at g
 ·rename_i j;obtain⟨⟨w,p⟩,u,g⟩:=oM1.mp g;refine⟨[],[],ds,w,p,E.cut (n:=0) (λk i=>absurd i (bv _)) j,.nil,u,λv H' mu' x r s=>?_⟩;have y:Ext mu mu H H':=⟨bn,λa o e _=>x.old a o e (by simp),x.tup,x.frz,λ_ z=>.inl z⟩;dsimp only at g;split at g
  ·rename_i G;cases g;refine hc v H' mu y (r.cut (n:=0) (λk i=>absurd i (bv _)) G) ⟨c.len,c.nd,λn o a h1 h2=>?_⟩;exact(c.ob n o a h1 h2).keep y λo e=>x.old a o e (by simp)
  ·cases g;have C:∀ a∈mu',H a=none:=fun a A=>(x.new a A).resolve_left (by simp);have x2:Ext mu (mu++mu') H H':=⟨bu _ _,fun a o e _=>x.old a o e (by simp),x.tup,x.frz,fun a z=>by
    rcases aF.mp z with z|z
    ·exact .inl z
    ·exact .inr (C a z)⟩
   refine hc v H' (mu++mu') x2 (by rw[<- c.len];exact r.sh) ⟨by rw[lA1,lA1,lM1,c.len,s.len],?_,λn o a h1 h2=>?_⟩
   ·refine bw.mpr ⟨c.nd,s.nd,λa A b j z=>?_⟩;subst z;obtain⟨o,e⟩:=c.here A;rw[C a j]at e;cases e
   ·by_cases l:n<S.length
    ·rw[gL1 l]at h1;rw[gL1 (by rw[c.len];exact l)]at h2;exact((c.ob n o a h1 h2).keep y λo e=>x.old a o e (by simp)).mor mu'
    ·have m:=Nat.le_of_not_lt l;rw[gR1 m]at h1;rw[gR1 (by rw[c.len];exact m)]at h2;rw[gP1]at h1;obtain⟨F,ao,I⟩:=oM1.mp h1;subst I;have q:=s.ob (n-S.length) F a ao (by rw[c.len]at h2;exact h2);rw[<- c.len];exact q.sh
 ·obtain⟨⟨w,p⟩,u,g⟩:=oM1.mp g;refine⟨mu,S,ds,w,p,E,c,u,λv H' mu' x r s=>?_⟩;unfold gc at g;split at g
  ·rename_i j;cases g;rw [bA1] at j;have i:∀ k,k<S.length->mu'[k]? = mu[k]?:=fun k i=>by
    obtain⟨t,rfl⟩:=x.pre;rw[gL1 (by rw[c.len];exact i)]
   refine hc v H' mu x.back (r.cut i j.1) ⟨?_,c.nd,λn o a h1 h2=>?_⟩
   ·have:=s.len;have D:=x.pre.length_le;rw[aR,<- s.len];rw[c.len]at D ⊢;exact(bx D).symm
   ·have l:n<S.length:=by rw[<- c.len];exact(gE1.mp h2).1
    have B:p[n]?=Z o:=by rw[aT l]at h1;exact h1
    refine(s.ob n o a B ((i n l).trans h2)).cut i ?_;exact bA.mp j.2 o (gM1 h1)
  ·cases g;exact hc v H' mu' x r s
def spM(K:Fg1)(n:Nat)(f:FN):Sp:=λvs H Q _=>vs.length=n/\rN K f vs H Q
section
variable{X:Cx}{k n:Nat}{f:da}{fd:dm}{ps:List Str}{x:Str}{p pos:Pos}{e:Expr}{es:List Expr}{m:FN}{a:FA}
noncomputable def dy (n:Nat)(f:FN):FN:=λds S=>if ds.length=n then p0 f ds S else none
theorem De (F:jQ X.prog X.w X.K X.mg X.base uw k f fd ps (spM X.K n m))(hr:fI k X.A)(hg:Gl X x)(hm:X.mg x=some (.ref f))(hk:wK1 X.K (.ref f)=true)(hb:jj X.K fd ps [])
  (ha:MA X (e::es) a) (hdb:(x == ("__debug__":Str))=J) (he:dh (e::es) X.env=(J,eval e X.env)::dh es X.env) (hpl:(backTo pos (dh es X.env)).any (·.1)=J):
  ME X (.Call (.Name x p) (e::es) [] pos) (mN (dy n m) a):=
 ez (CP (E:=E0) F hr hg hm hk hb .nil Ew ha hdb he hpl) fun σ H Q h=>by
  obtain⟨r,mu,S,ds,u,he,t,hm,hc⟩:=wy h;refine⟨r,mu,S,ds,u,he,t,hm,λvs H' mu' g w i=>?_⟩;have q:=hc vs H' mu' g w i;show spM X.K n m (vs++[]) H' Q E0;rw[aM];obtain⟨c,v,d,s,o,h1,h2,b,l⟩:=q;unfold dy at b;split at b
  ·rename_i j;exact⟨by rw[<- h1.length];exact j,ul ⟨c,v,d,s,o,h1,h2,b,l⟩⟩
  ·cases b
end
def jk:FS:=λr S=>Z (.nx,r,S)
noncomputable def dH (a b:FS):FS:=λr S=>(a r S).bind λp=>match p.1 with
 | .nx=>b p.2.1 p.2.2
 |f=>some (f,p.2.1,p.2.2)
noncomputable def d6 (m:FE):FS:=λr S=>(m r S).bind λp=>some (.rt p.1,r,p.2)
def LJ:FS:=λr S=>Z (.rt .non,r,S)
noncomputable def eU (m:FE):FS:=λr S=>(m r S).bind λp=>some (.nx,r,p.2)
noncomputable def eJ (c:FT)(a b:FS):FS:=λr S=>(c r S).bind λp=>if p.1=true then a r p.2 else b r p.2
section
variable{X:Cx}{pos:Pos}{e c:Expr}{st:dn}{rest as bs:List dn}{a b:FS}{m:FE}{t:FT}
theorem C4:yv X [] jk:=qL Cw <| by
 rintro E σ H ⟨r,mu,S,f,d,e,a,c,b,hc⟩;cases b;exact hc σ H mu (.refl _ _) a c
theorem Ap(h1:MS X st a)(h2:yv X rest b):yv X (st::rest) (dH a b):=qL (zJ h1 h2) <| by
 rintro E σ H ⟨r,mu,S,f,n,s,p,q,g,hc⟩;obtain⟨⟨m,k,l⟩,o,g⟩:=oB1.mp g;refine⟨r,mu,S,m,k,l,p,q,o,?_⟩;cases m with
 |nx=>
  intro t H1 mu1 h i j;refine⟨k,mu1,l,f,n,s,i,j,g,?_⟩;cases f with
  |nx=>exact λe H2 c x2=>hc e H2 c (h.trans x2)
  |bk=>exact λe H2 c x2=>hc e H2 c (h.trans x2)
  |ct=>exact λe H2 c x2=>hc e H2 c (h.trans x2)
  |rt d=>exact λv H2 c x2=>hc v H2 c (h.trans x2)
 |bk=>cases g;exact hc
 |ct=>cases g;exact hc
 |rt d=>cases g;exact hc
theorem C3(h1:MS X st a):yv X [st] a:=Cv h1
theorem C5(h:ME X e m)(hs:swapsWith e Y pos.line X.env=pure J):MS X (.Expr e pos) (eU m):=iW (Cy h hs) <| by
 rintro E σ H ⟨r,mu,S,f,i,k,b,hs,a,hc⟩;obtain⟨⟨d,j⟩,c,a⟩:=oB1.mp a;cases a;exact⟨r,mu,S,d,_,b,hs,c,λv H' mu' x l g=>hc σ H' mu' x (b.ext x) g⟩
theorem Gs(h:ME X e m):MS X (.Return (Z e) pos) (d6 m):=iW (FF h) <| by
 rintro E σ H ⟨r,mu,S,f,i,k,c,g,a,hc⟩;obtain⟨⟨d,j⟩,b,a⟩:=oB1.mp a;cases a;exact⟨r,mu,S,d,_,c,g,b,hc⟩
theorem Jb(hc:MT X c t)(ha:yv X as a)(hb:yv X bs b):MS X (.If c as bs pos) (eJ t a b):=iW (II hc ha hb) <| by
 rintro E σ H ⟨r,mu,S,f,l,n,m,s,h,hc⟩;obtain⟨⟨k,j⟩,p,h⟩:=oB1.mp h;refine⟨r,mu,S,k,j,m,s,p,λH1 mu1 i q=>?_⟩;have o:∀c:FS,c r j=Z (f,l,n)->vV X.K c E σ H1:=λc h=>by
  refine⟨r,mu1,j,f,l,n,m.ext i,q,h,?_⟩;cases f with
  |nx=>exact λg H2 e x2=>hc g H2 e (i.trans x2)
  |bk=>exact λg H2 e x2=>hc g H2 e (i.trans x2)
  |ct=>exact λg H2 e x2=>hc g H2 e (i.trans x2)
  |rt d=>exact λv H2 e x2=>hc v H2 e (i.trans x2)
 cases k with
 |true=>exact o a h
 |false=>exact o b h
end
abbrev FG:=D->Ev->Sto->Option (Ev×Sto)
abbrev BO:=List D->Ev->Sto->Option (Ev×Sto)
inductive Ik (K:Fg1)(g:FG)(v:V)(σ:L2.St)(H:Hp)(Q:L2.St->Hp->Prop):Prop
 |mk (r:Ev) (mu:List da) (S:Sto) (d:D) (r':Ev) (S':Sto) (he:fJ K H mu r σ) (hs:Sim K H mu S) (hr:eX K H mu d v) (hm:g d r S=some (r',S')) (hc:∀ σ' H' mu',Ext mu mu' H H'->fJ K H' mu' r' σ'->Sim K H' mu' S'->Q σ' H')
inductive KG (K:Fg1)(g:BO)(vs:List V)(σ:L2.St)(H:Hp)(Q:L2.St->Hp->Prop):Prop
 |mk (r:Ev) (mu:List da) (S:Sto) (ds:List D) (r':Ev) (S':Sto) (he:fJ K H mu r σ) (hs:Sim K H mu S) (hr:dJ K H mu ds vs) (hm:g ds r S=some (r',S')) (hc:∀ σ' H' mu',Ext mu mu' H H'->fJ K H' mu' r' σ'->Sim K H' mu' S'->Q σ' H')
abbrev MG(X:Cx)(e:Expr)(g:FG):Prop:=PG X e (Ik X.K g)
abbrev Ka(X:Cx)(es:List Expr)(g:BO):Prop:=HL X es (KG X.K g)
noncomputable def gN (i:Nat):FG:=λd r S=>some (r.set i (some d),S)
def jl:BO:=λds r S=>match ds with
 |[]=>Z (r,S)
 |_=>Y
noncomputable def fB (g:FG)(gs:BO):BO:=λds r S=>match ds with
 |d::ds=>(g d r S).bind λp=>gs ds p.1 p.2
 |[]=>none
noncomputable def gT (n:Nat)(gs:BO):FG:=λd r S=>match d with
 | .tup ds=>if ds.length=n then gs ds r S else none
 |_=>none
theorem fJ.set{K:Fg1}{H:Hp}{mu:List da}{r:Ev}{σ:L2.St}{i:Nat}{d:D}{v:V}(h:fJ K H mu r σ)(q:eX K H mu d v):fJ K H mu (r.set i (Z d)) (σ.set i (Z v)):=by
 refine⟨by rw[aW,aW];exact h.len,λj f e=>?_⟩;by_cases a:i=j
 ·subst a;have b:i<r.length:=by
   have:=(gE1.mp e).1
   rwa [aW]at this
  rw[aH b]at e;cases e;exact⟨v,aH (by rw[<- h.len];exact b),q⟩
 ·rw[gS1 a]at e;obtain⟨g,c,k⟩:=h.val j f e;exact⟨g,by rw[gS1 a];exact c,k⟩
section
variable{X:Cx}{pos:Pos}
theorem uU{e:Expr}{t t':TG}(h:PG X e t)(i:∀v σ H Q,t' v σ H Q->t v σ H Q):PG X e t':=λag s σ H v u Q I r q=>h ag s σ H v u Q I r (i v σ H Q q)
theorem wf{e:List Expr}{t t':EZ}(h:HL X e t)(i:∀v σ H Q,t' v σ H Q->t v σ H Q):HL X e t':=λag s σ H v u Q I r q=>h ag s σ H v u Q I r (i v σ H Q q)
theorem Dc(i:Nat){x:Str}(hN:X.N.Nodup)(hi:X.N[i]?=Z x)(hx:yw X.env.scope x)(hf:X.fn x=M\/X.env.scope.names.lookup x=Z .local):MG X (.Name x pos) (gN i):=
 uU (wg hN hi hx hf) <| by
  rintro v σ H Q ⟨r,mu,S,d,f,g,b,e,a,c,hc⟩;cases c;exact hc _ H mu (.refl _ _) (b.set a) e
theorem Db:Ka X [] jl:=wf CL <| by
 rintro vs σ H Q ⟨r,mu,S,ds,e,f,c,d,b,a,hc⟩;unfold jl at a;split at a
 ·cases a;cases b;exact⟨O,hc σ H mu (.refl _ _) c d⟩
 ·cases a
theorem As{e:Expr}{es:List Expr}{g:FG}{j:BO}(h1:MG X e g)(h2:Ka X es j)(hs:(assignEach (e::es) X.env).map (·.2)=assign e X.env::(assignEach es X.env).map (·.2)):Ka X (e::es) (fB g j):=
 wf (zQ h1 h2 hs) <| by
  rintro vs σ H Q ⟨r,mu,S,ds,k,p,o,hs,l,a,hc⟩;unfold fB at a;split at a
  ·obtain⟨⟨f,h⟩,m,a⟩:=oB1.mp a;cases l with
   |cons q t=>
    exact⟨_,_,O,r,mu,S,_,f,h,o,hs,q,m,λs H1 mu1 i b n=>⟨f,mu1,h,_,k,p,b,n,t.ext i,a,λd H2 c x2=>hc d H2 c (i.trans x2)⟩⟩
  ·cases a
theorem GA{es:List Expr}{k:Nat}{b:BO}{n:Nat}(hc:X.calm=M)(h:Ka X es b)(hn:(assignEach es X.env).length=n)(hst:(assignEach es X.env).findIdx? (·.1)=Y):MG X (.Tuple es k pos) (gT n b):=
 uU (FU hc h hn hst) <| by
  rintro v σ H Q ⟨r,mu,S,d,c,j,g,i,e,a,hc⟩;cases d with
  |tup ds=>
   rw[gT]at a;split at a
   ·rename_i f;cases e with
    |tup q t=>exact⟨_,_,O,q,by rw[<- t.length];exact f,r,mu,S,ds,c,j,g,i,t,a,hc⟩
   ·cases a
  |_=>cases a
inductive rU (K:Fg1)(f:FN)(o i v:V)(H:Hp)(Q:Hp->Prop):Prop
 |mk (mu:List da) (S:Sto) (ds:List D) (d:D) (S':Sto) (hr:dJ K H mu ds [o,i,v]) (hs:Sim K H mu S) (hm:f ds S=some (d,S')) (hc:∀H' mu',Ext mu mu' H H'->Sim K H' mu' S'->Q H')
def gS(f:FN)(a b:FE):FG:=λd r S=>(a r S).bind λp=>(b r p.2).bind λq=>(f [p.1,q.1,d] q.2).bind λt=>Z (r,t.2)
theorem GB{o i:Expr}{a b:FE}{f:FN}(ho:ME X o a)(hi:ME X i b)(hs:vF X (rU X.K f))(ha:∀v,assign (.Subscript o i pos) X.env v=(do
   let ov<-holding [v] (eval o X.env)
   let iv<-holding [v,ov] (eval i X.env)
   standAt pos
   holding [v,ov,iv] (setItem ov iv v)
   release [v,ov,iv] [])):MG X (.Subscript o i pos) (gS f a b):=
 uU (FW ho hi hs ha) <| by
  rintro v σ H Q ⟨r,mu,S,d,C,F,j,hs,z,c,hc⟩;obtain⟨⟨n,k⟩,q,c⟩:=oB1.mp c;obtain⟨⟨m,p⟩,B,c⟩:=oB1.mp c;obtain⟨⟨A,D⟩,s,c⟩:=oB1.mp c;cases c;refine⟨r,mu,S,n,k,j,hs,q,λG H1 mu1 e w x=>?_⟩;refine⟨r,mu1,k,m,p,j.ext e,x,B,λE H2 g x2 r2 t=>?_⟩;exact⟨g,p,[n,m,d],A,_,.cons (w.ext x2) (.cons r2 (.cons ((z.ext e).ext x2) .nil)),t,s,λu h l y=>hc σ u h ((e.trans x2).trans l) (((j.ext e).ext x2).ext l) y⟩
noncomputable def dL (m:FE)(g:FG):FS:=λr S=>(m r S).bind λp=>(g p.1 r p.2).bind λq=>some (.nx,q.1,q.2)
theorem rm{K:Fg1}{m:FE}{g:FG}{E:jR}{σ:L2.St}{H:Hp}(h:vV K (dL m g) E σ H):zl (tM K m) (Ik K g) E σ H:=by
 obtain⟨r,mu,S,f,q,t,i,o,a,hc⟩:=h;obtain⟨⟨j,e⟩,k,a⟩:=oB1.mp a;obtain⟨⟨r2,u⟩,n,a⟩:=oB1.mp a;cases a;refine⟨r,mu,S,j,e,i,o,k,λs H1 mu1 d p l=>?_⟩;exact⟨r,mu1,e,j,_,_,i.ext d,l,p,n,λc H2 b x2=>hc c H2 b (d.trans x2)⟩
theorem Gv{tg e:Expr}{m:FE}{g:FG}(he:ME X e m)(hg:MG X tg g)(hs:swapsWithSole [tg] e pos.line X.env=pure J)(hw:swappedStores [tg] e X.env=pure Y)(h1:(assignEach [tg] X.env).map (·.2)=[assign tg X.env]):MS X (.Assign [tg] e pos) (dL m g):=iW (FL he hg hs hw h1) λ_ _ _=>rm
theorem Gr(i:Nat){x:Str}{e:Expr}{m:FE}{pos':Pos}(hN:X.N.Nodup)(hi:X.N[i]? = some x)(hx:yw X.env.scope x)(he:ME X e m)(hs:swapsWith e (some (.Name x pos')) pos.line X.env=pure false)(hf:X.fn x=true\/X.env.scope.names.lookup x=some .local):
  MS X (.Assign [.Name x pos'] e pos) (dL m (gN i)):=iW (FD hN hi hx he hs hf) λE σ H h=>by
 obtain⟨r,mu,S,d,p,h1,h2,c,k⟩:=rm h;refine⟨r,mu,S,d,p,h1,h2,c,λv H' mu' g q j=>?_⟩;obtain⟨r2,a,w,u,s,t,b,o,n,l,f⟩:=k v H' mu' g q j;cases l;exact f _ H' a (.refl _ _) (b.set n) o
def Mr(i:Nat)(f:FN)(m:FE):FS:=λr S=>match r[i]? with
 |some (Z d)=>(m r S).bind λp=>(f [d,p.1] p.2).bind λq=>Z (.nx,r.set i (Z q.1),q.2)
 |_=>Y
end
noncomputable def ux (c:FT)(b:FS):Nat->FS
 |0=>λ_ _=>none
 | n+1=>fun r S=>(c r S).bind fun p=>if p.1=true then (b r p.2).bind fun q=>match q.1 with
   | .nx=>ux c b n q.2.1 q.2.2
   | .ct=>ux c b n q.2.1 q.2.2
   | .bk=>some (.nx,q.2.1,q.2.2)
   | .rt d=>some (.rt d,q.2.1,q.2.2)
  else some (.nx,r,p.2)
theorem E6{K:Fg1}{c:FT}{b:FS}{n:Nat}{E:jR}{σ:L2.St}{H:Hp}(h:vV K (ux c b n) E σ H):zh (B8 K c) (vV K b) E σ H:=by
 refine⟨λm a H'=>vV K (ux c b m) E a H',⟨n,h⟩,λm s H1 q=>?_⟩;obtain⟨r,mu,S,f,u,B,t,G,i,hc⟩:=q;cases m with
 |zero=>cases i
 |succ m=>
  obtain⟨⟨k,w⟩,D,i⟩:=oB1.mp i;refine⟨r,mu,S,k,w,t,G,D,λH2 e x2 A=>?_⟩;cases k with
  |false=>
   cases i;exact hc s H2 e x2 (t.ext x2) A
  |true=>
   obtain⟨⟨z,o,p⟩,F,i⟩:=oB1.mp i;have C:∀{a H' mu'},Ext e mu' H2 H'->fJ K H' mu' o a->Sim K H' mu' p->ux c b m o p=Z (f,u,B)->vV K (ux c b m) E a H':=λ{a H' mu'} x g l i=>by
    refine⟨o,mu',p,f,u,B,g,l,i,?_⟩;cases f with
    |nx=>exact λj H2 e y=>hc j H2 e ((x2.trans x).trans y)
    |bk=>exact λj H2 e y=>hc j H2 e ((x2.trans x).trans y)
    |ct=>exact λj H2 e y=>hc j H2 e ((x2.trans x).trans y)
    |rt d=>exact λv H2 e y=>hc v H2 e ((x2.trans x).trans y)
   refine⟨λa H'=>vV K (ux c b m) E a H',λa H' q=>⟨m,bB _,q⟩,r,e,w,z,o,p,t.ext x2,A,F,?_⟩;cases z with
   |nx=>exact λa H' mu' x g l=>C x g l i
   |ct=>exact λa H' mu' x g l=>C x g l i
   |bk=>cases i;exact λa H' mu' x g l=>hc a H' mu' (x2.trans x) g l
   |rt d=>cases i;exact λv H' mu' x o l=>hc v H' mu' (x2.trans x) o l
theorem Aq{X:Cx}{pos:Pos}(n:Nat){c:Expr}{a:List dn}{t:FT}{b:FS}(hp:PassesOwn (model X.prog X.w) X.A X.env X.xe)(hc:MT X c t)(hb:yv X a b):MS X (.While c a [] pos) (ux t b n):=
 iW (zK hp hc hb) λ_ _ _=>E6
structure yx where
 items:List D
 chk:List (Nat×List D)
noncomputable def pc (S:Sto):List (Nat×List D)->Bool
 |[]=>true
 | (n,xs)::c=>(match S[n]? with
   |some (.lst ys)=>D.sames ys xs
   |_=>false)&&pc S c
def Ly(K:Fg1)(j:It)(ao:yx)(mu:List da)(H:Hp):Prop:=∀i H1 mu1 S1,sD mu mu1 H H1->Sim K H1 mu1 S1->pc S1 ao.chk=M ->
 (∀d,ao.items[i]?=Z d->j.go i H1 /\ ∀x H2,j.yld i H1 x H2->Ext mu1 mu1 H1 H2/\Sim K H2 mu1 S1/\eX K H2 mu1 d x)/\(ao.items.length<=i->j.stop i H1)
abbrev FI:=Ev->Sto->Option (yx×Sto)
inductive KF (K:Fg1)(m:FI)(σ:L2.St)(H:Hp)(R:It->Hp->Prop):Prop
 |mk (r:Ev) (mu:List da) (S:Sto) (ao:yx) (S':Sto) (he:fJ K H mu r σ) (hs:Sim K H mu S) (hm:m r S=some (ao,S')) (hc:∀j H' mu',Ext mu mu' H H'->Ly K j ao mu' H'->Sim K H' mu' S'->R j H')
abbrev MI(X:Cx)(tg iter:Expr)(m:FI):Prop:=PI X tg iter (KF X.K m)
theorem nU{X:Cx}{tg e:Expr}{t t':TI}(h:PI X tg e t)(i:∀ σ H R,t' σ H R->t σ H R):PI X tg e t':=λag s σ H R I q=>h ag s σ H R I (i σ H R q)
theorem IK{X:Cx}{tg e:Expr}{t t':TI}(h:PI X tg e t)(h':PI X tg e t'):PI X tg e (fun σ H R=>t σ H R\/t' σ H R):=λag s σ H R I q=>q.elim (h ag s σ H R I) (h' ag s σ H R I)
noncomputable def jf (c:List (Nat×List D))(g:FG)(b:FS):List D->FS
 |[]=>λr S=>if pc S c=true then some (.nx,r,S)else none
 | d::ds=>fun r S=>if pc S c=true then (g d r S).bind fun p=>(b p.1 p.2).bind fun q=>match q.1 with
   | .nx=>jf c g b ds q.2.1 q.2.2
   | .ct=>jf c g b ds q.2.1 q.2.2
   | .bk=>some (.nx,q.2.1,q.2.2)
   | .rt v=>some (.rt v,q.2.1,q.2.2)
  else none
noncomputable def eZ (m:FI)(g:FG)(b:FS):FS:=λr S=>(m r S).bind λp=>jf p.1.chk g b p.1.items r p.2
theorem mM{α:Type}{l:List α}{i:Nat}{d:α}{ds:List α}(h:l.drop i=d::ds):l[i]?=Z d/\l.drop (i+1)=ds:=by
 have h1:l[i]?=Z d:=by
  have:=congrArg (·[0]?) h;simpa using this
 refine⟨h1,?_⟩;rw[<- List.drop_drop,h];rfl
inductive Lv (K:Fg1)(mu1:List da)(H1:Hp)(c:List (Nat×List D))(g:FG)(b:FS)(f:Fl)(r':Ev)(S':Sto)(L:List D)(σ':L2.St)(H':Hp):Prop
 |mk (r2:Ev) (mu2:List da) (S2:Sto):Ext mu1 mu2 H1 H'->fJ K H' mu2 r2 σ'->Sim K H' mu2 S2->jf c g b L r2 S2=some (f,r',S')->Lv K mu1 H1 c g b f r' S' L σ' H'
theorem Dg{K:Fg1}{m:FI}{g:FG}{b:FS}{E:jR}{σ:L2.St}{H:Hp}(h:vV K (eZ m g b) E σ H):Il (KF K m) (Ik K g) (vV K b) E σ H:=by
 obtain⟨r,mu,S,f,L,R,U,wq,C,hc⟩:=h;obtain⟨⟨ao,N⟩,V,C⟩:=oB1.mp C;refine⟨r,mu,S,ao,N,U,wq,V,λj H1 mu1 z Q s1=>?_⟩;refine⟨λi k q H'=>k=(ao.items.drop i).length/\Lv K mu1 H1 ao.chk g b f L R (ao.items.drop i) q H',⟨_,O,r,mu1,N,.refl _ _,U.ext z,s1,C⟩,?_⟩;rintro i k F H2 ⟨rfl,r2,l,S2,x2,t,B,a⟩;cases hl:ao.items.drop i with
 |nil=>
  left;rw[hl]at a;rw[jf]at a;dsimp only at a;split at a
  ·rename_i ok;cases a;refine⟨(Q i H2 l _ x2.w B ok).2 (List.drop_eq_nil_iff.mp hl),?_⟩;exact hc F H2 l (z.trans x2) t B
  ·cases a
 |cons d ds=>
  right;rw[hl]at a;obtain⟨hi,T⟩:=mM hl;rw[jf]at a;dsimp only at a;split at a
  ·rename_i ok;obtain⟨⟨aq,au⟩,X,a⟩:=oB1.mp a;obtain⟨⟨P,D,A⟩,e4,a⟩:=oB1.mp a;obtain⟨go,yl⟩:=(Q i H2 l _ x2.w B ok).1 d hi;refine⟨go,Lv K mu1 H1 ao.chk g b f L R ds,?_,λx H3 y=>?_⟩
   ·intro q H' h5;exact⟨ds.length,bB _,(congrArg List.length T).symm,T.symm ▸ h5⟩
   ·obtain⟨s,s3,q3⟩:=yl x H3 y;refine⟨r2,l,S2,d,aq,au,t.ext s,s3,q3,X,fun σ4 H4 G w I s4=>?_⟩;refine⟨aq,G,au,P,D,A,I,s4,e4,?_⟩;cases P with
    |nx=>exact λp u c n e o=>⟨D,c,A,(x2.trans s).trans (w.trans n),e,o,a⟩
    |ct=>exact λp u c n e o=>⟨D,c,A,(x2.trans s).trans (w.trans n),e,o,a⟩
    |bk=>cases a;exact λp u c n e o=>hc p u c ((z.trans x2).trans (s.trans (w.trans n))) e o
    |rt v=>cases a;exact λar u c n W o=>hc ar u c ((z.trans x2).trans (s.trans (w.trans n))) W o
  ·cases a
theorem Gu{X:Cx}{pos:Pos}{tg iter:Expr}{a:List dn}{m:FI}{g:FG}{b:FS}(hp:PassesOwn (model X.prog X.w) X.A X.env X.xe)(hc:X.calm=M)(hi:MI X tg iter m)(hg:MG X tg g)(hb:yv X a b)(hs:∀x,foldedSetIterable iter X.env x=pure x):MS X (.For tg iter a [] pos) (eZ m g b):=iW (FK hp hc hi hg hb hs) λ_ _ _=>Dg
def fh(n:Nat)(ds:List D):Ev:=ds.map Z++aP (n-ds.length) Y
noncomputable def ig (n:Nat)(b:FS):FN:=λds S=>(b (fh n ds) S).bind λp=>match p.1 with
 | .rt d=>some (d,p.2.2)
 | .nx=>some (.non,p.2.2)
 |_=>none
theorem xy{K:Fg1}{H:Hp}{mu:List da}{ds:List D}{vs:List V}(N:List Str)(h:dJ K H mu ds vs):fJ K H mu (fh N.length ds) (L2.jr N vs):=by
 refine⟨?_,λi d e=>?_⟩
 ·unfold fh L2.jr;rw[lA1,lA1,lM1,lM1,lR1,lR1,h.length]
 ·unfold fh at e;unfold L2.jr;by_cases hi:i<ds.length
  ·rw[gL1 (by rw[lM1];exact hi),gP1]at e;obtain⟨f,c,b⟩:=oM1.mp e;cases b;obtain⟨v,a,r⟩:=h.get c;refine⟨v,?_,r⟩;rw[gL1 (by rw[lM1,<- h.length];exact hi),gP1,a];rfl
  ·rw[gR1 (by rw[lM1];lia)]at e;have:=gM1 e;rw[bC]at this;cases this.2
theorem JH{P:db}{w:df}{K:Fg1}{mg:Str->Option c8}{base:dk}{x c:Str}{st:dn}{f:da}{fd:dm}{N ps:List Str}{k:Nat}{b:FS}(F:xi K x c st f fd)(S:gD N ps (dQ st))(i:∀(e:c8) (A:de) (a:List Env) (s:c9) (H:Hp) (E:XK),fI k (A.deeper (envOfC c (dQ st) s.heap.objs.size f e)) ->
   yv (m5 uw P w K mg base N c (dQ st) f e A a s H E).nox (ft st) b):jQ P w K mg base uw (k+1) f fd ps (spM K ps.length (ig N.length b)):=by
 refine xi.ok F S (λvs H Q E h=>h.1) λe A a s H vs Q E o j=>⟨_,i e A a s H E o,?_⟩;obtain⟨_,mu,St,ds,d,u,h1,h2,g,l⟩:=j;unfold ig at g;obtain⟨⟨m,n,q⟩,p,g⟩:=oB1.mp g;refine⟨_,mu,St,m,n,q,xy N h1,h2,p,?_⟩;cases m with
 |nx=>cases g;exact λr H' mu' x t s=>l .non H' mu' x .non s
 |rt d=>cases g;exact l
 |bk=>cases g
 |ct=>cases g
def ka(cells:List (Str×da)):List (Str×NameKind)->List (Str×da)->Option (List (Str×da))
 |[],acc=>Z acc
 |(n,k)::r,acc=>if k == .free then(cells.lookup n).bind λc=>ka cells r ((n,c)::acc)else ka cells r acc
theorem vo{env:Env}(f:Str×NameKind->List (Str×da)->Sem (ForInStep (List (Str×da))))(hf:∀n k cs,f (n,k) cs=if k == .free then(do let c<-cellOf env n;pure (.yield ((n,c)::cs)))else pure (.yield cs)):
  ∀(a:List (Str×NameKind)) (b d:List (Str×da)),ka env.cells a b=Z d->forIn a b f=(pure d:Sem (List (Str×da)))
 |[],b,d,h=>by cases h;rfl
 |(n,k)::r,b,d,h=>by
  rw[bD,hf];unfold ka at h;split at h
  ·rename_i g;rw[ak g];obtain⟨c,e,h⟩:=oB1.mp h;have:cellOf env n=pure c:=by unfold cellOf;rw[e]
   rw[this,pure_bind,pure_bind];exact vo f hf r _ d h
  ·rename_i g;rw[aj g,pure_bind];exact vo f hf r _ d h
theorem Bo{scope:dq}{env:Env}{cl:List (Str×da)}(h:ka env.cells scope.names []=Z cl):closureFor scope env=pure cl:=by
 simp only[closureFor];rw[vo (env:=env) _ (λn k cs=>by cases hk:k == NameKind.free<;>simp[hk]) scope.names [] cl h];rfl
theorem vn{a:List (Str×da)}:∀{d:List (Str×NameKind)} {b f:List (Str×da)},ka a d b=Z f->(∀x c,b.lookup x=Z c->a.lookup x=Z c) -> ∀x c,f.lookup x=Z c->a.lookup x=Z c
 |[],b,f,h,ha=>by cases h;exact ha
 |(n,k)::r,b,f,h,ha=>by
  unfold ka at h;split at h
  ·obtain⟨c,e,h⟩:=oB1.mp h;refine vn h λx i q=>?_;rw[bE]at q;split at q
   ·rename_i g;cases q;rw[beq_iff_eq.mp g];exact e
   ·exact ha x i q
  ·exact vn h ha
theorem np{d:List (Str×da)}{x:Str}:∀{a:List (Str×NameKind)} {b f:List (Str×da)},ka d a b=Z f->(a.lookup x=Z .free\/(b.lookup x).isSome=M)->(f.lookup x).isSome=M
 |[],b,f,h,ha=>by
  cases h;rcases ha with q|q
  ·cases q
  ·exact q
 |(n,k)::r,b,f,h,ha=>by
  unfold ka at h;split at h
  ·obtain⟨c,e,h⟩:=oB1.mp h;refine np h ?_;rcases ha with q|q
   ·rw[bE]at q;split at q
    ·rename_i g;right;rw[bE,g];rfl
    ·exact .inl q
   ·right;rw[bE];split
    ·rfl
    ·exact q
  ·rename_i i;refine np h ?_;rcases ha with q|q
   ·rw[bE]at q;split at q
    ·cases q;exact absurd O i
    ·exact .inl q
   ·exact .inr q
theorem gC{x:Str}{c:da}:∀{a:List (Str×NameKind)} {n:Nat} {acc:List (Str×da)},(cellsFrom n a acc).lookup x=Z c->(n<=c/\(x,c)∈cellsFrom n a [])\/acc.lookup x=Z c
 |[],_,_,h=>.inr h
 |(y,k)::r,n,acc,h=>by
  unfold cellsFrom at h ⊢;split at h
  ·rename_i b;rw [if_pos b];have app:∀ (a:List (Str×NameKind)) (m:Nat) (acc:List (Str×da)),cellsFrom m a acc=cellsFrom m a []++acc:=by
    intro a
    induction a with
    |nil=>intro m acc;rfl
    |cons p r ih=>
     obtain⟨z,q⟩:=p;intro m acc;unfold cellsFrom;split
     ·rw[ih _ ((z,m)::acc),ih _ [(z,m)],bF];rfl
     ·exact ih m acc
   rcases gC h with⟨h1,h2⟩|h1
   ·refine .inl ⟨by lia,?_⟩;rw[app];exact aG _ h2
   ·rw[bE]at h1;split at h1
    ·rename_i d;cases h1;refine .inl ⟨nR1 _,?_⟩;rw[app,beq_iff_eq.mp d];exact mA1 _ mS1
    ·exact .inr h1
  ·rename_i b;rw[aj b];exact gC h
theorem pf{x:Str}{c:da}{n:Nat}{acc:List (Str×da)}{a:List (Str×NameKind)}(hx:a.lookup x=Z .cell)(h:(cellsFrom n a acc).lookup x=Z c):n<=c:=by
 have app:∀(a:List (Str×NameKind)) (m:Nat) (acc:List (Str×da)),cellsFrom m a acc=cellsFrom m a []++acc:=by
  intro a
  induction a with
  |nil=>intro m acc;rfl
  |cons p r ih=>
   obtain⟨z,q⟩:=p;intro m acc;unfold cellsFrom;split
   ·rw[ih _ ((z,m)::acc),ih _ [(z,m)],bF];rfl
   ·exact ih m acc
 rw[app,List.lookup_append]at h;have q:=PySem.W.cellsFrom_some a n [] (.inl hx);obtain⟨b,e⟩:=aQ.mp q;rw[e]at h;cases h;rcases gC e with⟨h1,_⟩|h1
 ·exact h1
 ·cases h1
theorem kj {aq:Model}{A:de}{E:c8->c9->Prop}{s:c9}{scope:dq}{globals:da}{c:List (Str×da)}{qual:Str}{func:Option da}{code:c8}{env:Env}{b:da}{Q:Env->c9->Prop}
  (d:Q {scope,locals:=s.heap.objs.size,globals,cells:=cellsFrom (s.heap.objs.size+1) scope.names c,qual,func,code:=env.code,frame:=env.frame,builtins:=env.builtins}
   {s with heap:=pushCells (s.heap.push {cls:=.type "dict",data:=.dict #[]}) scope.names}):
  dj aq A (newFunctionEnv scope globals c [] qual func code (Z env) b) Q E s:=by
 simp only[newFunctionEnv,Option.isSome_some,if_true];refine wB1 (wpAny_alloc ?_);refine wB1 (wpAny_layCells _ (λname a cells=>by cases hkc:a == NameKind.cell<;>simp[hkc]) _ _ _ _ ?_);rw[show({s with heap:=s.heap.push {cls:=.type "dict",data:=.dict #[]}}:c9).heap.objs.size=s.heap.objs.size+1 from hZ1 ..];refine wB1 ?_;rw[List.forIn_nil];exact wP1 (wP1 d)
def cxC(X:Cx)(scope:dq)(cl:List (Str×da))(T:List Str)(keep:List Nat)(s:c9)(H:Hp)(fp:List da):Cx where
 prog:=X.prog
 w:=X.w
 K:=X.K
 mg:=X.mg
 base:=X.base
 A:=X.A
 N:=T++keep.map λi=>X.N.getD i (Str.ofString "")
 s₀:=s
 H₀:=H
 env:=compEnvC scope (cellsFrom (s.heap.objs.size+1) scope.names cl) s.heap.objs.size X.env
 outer:=X.stack
 stack:=X.stack
 ex:=fp
 fn:=λx=>scope.names.lookup x == Z .cell
 calm:=X.calm
 pn:=[]
 xe:=λ_ _=>False
def rE(k:Nat)(keep:List Nat)(σ:L2.St):L2.St:=aP k Y++keep.map λi=>(σ[i]?).join
theorem jA{env:Env}{x:Str}:∀ {a:List (Str×NameKind)},
  (a.map λ(n,k)=>if(k == NameKind.free&&env.scope.kind == .function&&env.kindOf n == Z .cell)then(n,NameKind.cell)else(n,k)).lookup x =
   (a.lookup x).map λk=>if(k == NameKind.free&&env.scope.kind == .function&&env.kindOf x == Z .cell)then NameKind.cell else k
 |[]=>rfl
 |(n,k)::r=>by
  show List.lookup x ((if(k == NameKind.free&&env.scope.kind == .function&&env.kindOf n == Z .cell)=M then(n,NameKind.cell)else(n,k))::_)=_;cases hx:x == n with
  |true=>
   have e:=beq_iff_eq.mp hx;subst e;by_cases hc:(k == NameKind.free&&env.scope.kind == .function&&env.kindOf x == Z .cell)=M
   ·rw[ak hc,bE,hx,bE,hx];simp only[oP1,ak hc]
   ·rw[aj hc,bE,hx,bE,hx];simp only[oP1,aj hc]
  |false=>
   have ih:=@jA env x r;by_cases hc:(k == NameKind.free&&env.scope.kind == .function&&env.kindOf n == Z .cell)=M
   ·rw[ak hc,bE,hx,bE,hx];exact ih
   ·rw[aj hc,bE,hx,bE,hx];exact ih
structure Ke (X:Cx)(scope:dq)(T:List Str)(keep:List Nat):Prop where
 kind:scope.kind = .function
 names:∀x∈scope.names,x.2 = .local->scope.names.lookup x.1=some .local
 free:∀i∈keep,∃x,X.N[i]?=some x/\scope.names.lookup x=some .free/\(X.env.kindOf x=some .cell\/X.env.kindOf x=some .free)/\(x,NameKind.cell)∉scope.names
theorem tU{X:Cx}{ag:List (da×Obj)}{σ:L2.St}{H:Hp}{s:c9}{scope:dq}{t:List (Str×da)}{T:List Str}{keep:List Nat}{D:List da}(I:Inv X ag σ H s)(C:Ke X scope T keep)(A:ka X.env.cells scope.names []=some t)(hf:∀b∈D,kb X ag H b)(L:∀b∈D,∃o,s.heap.get? b=some o):
  Inv (cxC X scope t T keep s H D) [] (rE T.length keep σ) H {s with heap:=pushCells (s.heap.push {cls:=.type "dict",data:=.dict #[]}) scope.names}:=by
 have kept:∀b o,s.heap.get? b=Z o->(pushCells (s.heap.push {cls:=.type "dict",data:=.dict #[]}) scope.names).get? b=Z o:=λb o e=>pushCells_keeps _ _ b o (hP1 _ e);have B:=cellsFrom_ok scope.names (s.heap.push {cls:=.type "dict",data:=.dict #[]}) (s.heap.objs.size+1) [] ⟨λ_ _ hm=>(nomatch hm),List.Pairwise.nil⟩ (by rw[hZ1];exact nR1 _);rw[hZ1]at B;have aq:=vn A (λx c q=>by cases q)
 -- a cell of the block: its own or an elder one
 have d:∀x c,(cellsFrom (s.heap.objs.size+1) scope.names t).lookup x=Z c->(s.heap.objs.size+1<=c/\(x,c)∈cellsFrom (s.heap.objs.size+1) scope.names [])\/X.env.cells.lookup x=Z c:=λx c h=>by
  rcases gC h with h1|h1
  ·exact .inl h1
  ·exact .inr (aq x c h1)
 have g:∀x c,X.env.cells.lookup x=Z c->c<s.heap.objs.size:=λx c e=>by
  obtain⟨v,z⟩:=I.cell x c e;exact z.lt
 have w:∀b∈D,b<s.heap.objs.size:=λb l=>by
  obtain⟨o,e⟩:=L b l;exact hL1 e
 have fst:∀b∈D,b∉frs X.stack:=λb l z=>by
  rcases aE.mp (I.stkSub b z)with q|q
  ·exact(hf b l).2.1 q
  ·exact(hf b l).2.2.1 q
 have kindOf:∀x,(cxC X scope t T keep s H D).env.kindOf x=(scope.names.lookup x).map λk=>if(k == NameKind.free&&X.env.scope.kind == .function&&X.env.kindOf x == Z .cell)then NameKind.cell else k:=λx=>jA
 refine⟨⟨I.ok.mod,C.kind,I.ok.glob,I.ok.blt,nR1 _,λx y c h1 h2=>?_,λx E=>?_,λx c h1 h2=>?_,I.ok.hd,I.ok.frames,.inl O,λb l=>⟨nN1 (w b l),λx c h z=>?_⟩,λb o e=>I.bs b o e,aC I.ok.bsz I.sz,λb o e l=>?_,fst,I.stack,I.stkFree⟩,
  rfl,I.bare,Un.kept kept,⟨λ_=>Y,(Heap.Ns.new s.heap (.type "dict")).keeps (pushCells_keeps _ _),λi x v h1 h2 h3=>?_⟩,λx c h=>?_,I.hok.fresh (nR1 _),λx c h=>?_,λp V=>absurd (show p∈([]:List (da×Obj))from V) (by simp),I.hok.kept kept,?_⟩
 ·rcases d x c h1 with⟨a1,a2⟩|a1<;>rcases d y c h2 with⟨b1,b2⟩|b1
  ·exact name_of_addr B.apart a2 b2
  ·exact absurd (bG (bH a1) (g y c b1)) (az _)
  ·exact absurd (bG (bH b1) (g x c a1)) (az _)
  ·exact I.ok.inj x y c a1 b1
 ·have F:scope.names.lookup x=some .cell\/scope.names.lookup x=some .free:=by
   rw[kindOf x]at E;cases e:scope.names.lookup x with
   |none=>rw[e]at E;rcases E with z|z<;>cases z
   |some k=>
    rw[e]at E;simp only[oP1]at E;cases k<;>simp_all
  have:((cellsFrom (s.heap.objs.size+1) scope.names t).lookup x).isSome=M:=by
   rcases F with z|z
   ·exact PySem.W.cellsFrom_some _ _ _ (.inl z)
   ·exact PySem.W.cellsFrom_some _ _ _ (.inr (np A (.inl z)))
  exact aQ.mp this
 ·have f:scope.names.lookup x=Z .cell:=by simpa[cxC]using h1
  have:=pf f h2;exact aC (aX _) this
 ·subst z;rcases d x c h with⟨a1,_⟩|a1
  ·exact absurd (bG (bH a1) (w c l)) (az _)
  ·exact(hf c l).2.2.2.2.1 x c a1 O
 ·rcases(hf b l).2.2.2.1 with z|z
  ·exact I.ok.noex b o e z
  ·exact absurd (nL1 (hL1 e) (aC I.ok.bsz z)) (az _)
 ·-- a name of the block that has a value:one of the outer text's
  have hi:T.length<=i:=by
   refine Nat.le_of_not_lt λhi=>?_;unfold rE at h2;rw[gL1 (by rw[lR1];exact hi),aS]at h2;split at h2<;>cases h2
  unfold rE at h2;rw[gR1 (by rw[lR1];exact hi),lR1,gP1]at h2;obtain⟨j,au,h2⟩:=oM1.mp h2;have f:X.N.getD j (Str.ofString "")=x:=by
   have f:(T++keep.map λi=>X.N.getD i (Str.ofString ""))[i]?=Z x:=h1;rw[gR1 hi,gP1,au]at f;exact Option.some.inj f
  obtain⟨y,N,P,Q,ny⟩:=C.free j (gM1 au);have ao:y=x:=by rw[<- f,bI,N];rfl
  subst ao;have K:σ[j]?=Z (Z v):=by
   cases e:σ[j]? with
   |none=>rw[e]at h2;cases h2
   |some o=>rw[e]at h2;cases h2;rfl
  obtain⟨m,hn,ar⟩:=I.loc;obtain⟨u,S,U⟩:=ar j y v N K (by
   rcases Q with z|z
   ·exact .inr (.inl z)
   ·exact .inr (.inr z))
  refine⟨u,S,?_⟩;rcases U with⟨z,_⟩|⟨_,c,wq,W⟩
  ·rcases Q with q|q<;>(rw[z]at q;cases q)
  ·right;refine⟨?_,c,?_,W.keeps kept⟩
   ·rw[kindOf,P];simp only[oP1];split
    ·exact .inl O
    ·exact .inr O
   ·obtain⟨c',e'⟩:=aQ.mp (PySem.W.cellsFrom_some scope.names (s.heap.objs.size+1) t (.inr (np A (.inl P))):((cellsFrom (s.heap.objs.size+1) scope.names t).lookup y).isSome=M);have R:(cellsFrom (s.heap.objs.size+1) scope.names t).lookup y=Z c':=e';rcases d y c' R with⟨a1,a2⟩|a1
    ·-- an own cell of that name:its kind would be cell
     exfalso;have:∀(names:List (Str×NameKind)) (n:Nat),(y,c')∈cellsFrom n names []->(y,NameKind.cell)∈names:=by
      have app:∀(names:List (Str×NameKind)) (m:Nat) (acc:List (Str×da)),cellsFrom m names acc=cellsFrom m names []++acc:=by
       intro names
       induction names with
       |nil=>intro m acc;rfl
       |cons p r ih=>
        obtain⟨z,q⟩:=p;intro m acc;unfold cellsFrom;split
        ·rw[ih _ ((z,m)::acc),ih _ [(z,m)],bF];rfl
        ·exact ih m acc
      intro names
      induction names with
      |nil=>intro n h;cases h
      |cons p r ih=>
       obtain⟨z,q⟩:=p;intro n h;unfold cellsFrom at h;split at h
       ·rename_i hq;rw[app]at h;rcases aF.mp h with h|h
        ·exact mC1 _ (ih _ h)
        ·have:(y,c')=(z,n):=by simpa using h
         cases this;have G:q=NameKind.cell:=by simpa using hq
         subst G;exact mS1
       ·exact mC1 _ (ih _ h)
     exact ny (this _ _ a2)
    ·rw[wq]at a1;cases a1;exact R
 ·rcases d x c h with⟨a1,a2⟩|a1
  ·exact⟨_,(B.empty x c a2).1⟩
  ·obtain⟨v,z⟩:=I.cell x c a1;exact⟨v,z.keeps kept⟩
 ·rcases d x c h with⟨a1,a2⟩|a1
  ·exact I.hok.fresh (bH a1)
  ·exact I.freeC x c a1
 ·show(rE T.length keep σ).length=(T++keep.map λi=>X.N.getD i (Str.ofString "")).length;unfold rE;rw[lA1,lA1,lR1,lM1,lM1]
def sL(p:Pos)(tg:Expr)(ifs:List Expr)(it:c8)(env:Env)(emit:Sem Unit)(c:Code):Sem PySem.Fin:=do
 standAt p
 match<-pyNext it with
 |none=>pure (.done .next)
 |some v=>
  letOwnedTupleGo tg it v
  assign tg env v
  let mut ok:=M
  for c in ifs do
   if ok then ok<-isTrue c env (eval c env)
  if ok then emit
  again c
def t7(elt:Expr)(acc:c8)(env:Env):Sem Unit:=do let _<-call (.builtin "list.append") [acc,<- eval elt env]
theorem y8(elt tg iter:Expr)(ifs:List Expr)(scope:dq)(pos:Pos)(it a:c8)(env:Env):
  compTurn (.ListComp elt [⟨tg,iter,ifs,0⟩] scope pos) 0 it a env=sL iter.pos tg ifs it env (t7 elt a env) (.compLoop (.ListComp elt [⟨tg,iter,ifs,0⟩] scope pos) 0 it a env):=by rfl
def pj(X:Cx)(ifs:List Expr)(t:TT):Prop:=
 ∀(ag:List (da×Obj)) (s:c9) (σ:L2.St) (H:Hp) (Q:Bool->Hp->Prop),Inv X ag σ H s->t σ H Q ->
  dj (model X.prog X.w) X.A (forIn ifs M λc r=>if r=M then do let ok<-isTrue c X.env (eval c X.env);pure (ForInStep.yield ok)else pure (ForInStep.yield r)) (TP X ag σ Q) X.xe s
theorem zN{X:Cx}:pj X [] (fun σ H Q=>Q M H):=λag s σ H Q I h=>wpAny_tests_nil ⟨H,I,h⟩
theorem zM{X:Cx}{c:Expr}{t:TT}(h:PT X c t):pj X [c] t:=λag s σ H Q I q=>wpAny_tests_one (h ag s σ H Q I q)
def PU(X:Cx)(m:Sem Unit)(t:TS):Prop:=
 ∀(ag:List (da×Obj)) (s:c9) (σ:L2.St) (H:Hp) (E:jR),Inv X ag σ H s->t E σ H->dj (model X.prog X.w) X.A m (λ_ s'=>∃ σ' H',Inv X ag σ' H' s'/\E.nx σ' H') X.xe s
theorem pX{X:Cx}(hx:X.xe=fun _ _=>False)(hc:X.calm=true){elt:Expr}{c:List Comprehension}{scope:dq}{pos p:Pos}{d:Nat}{tg:Expr}{ifs:List Expr}{l:c8}{emit:Sem Unit}{ao:It}{z:List da}{it:da}{P:Nat->dk->Prop}{g:TG}{ti:TT}{tb:TS}(eq:compTurn (.ListComp elt c scope pos) d (.ref it) l X.env=sL p tg ifs (.ref it) X.env emit (.compLoop (.ListComp elt c scope pos) d (.ref it) l X.env))(T:vD X.prog X.w X.K tg ao z it P)(hg:PG X tg g)(hi:pj X ifs ti)(he:PU X emit tb){ag:List (da×Obj)}{s:c9}{σ:L2.St}{H:Hp}{D:jR}(I:Inv X ag σ H s)(st:P 0 s.heap)(f2:∀b∈z,kb X ag H b)(h:∃W:Nat->Nat->L2.St->Hp->Prop,(∃m,W 0 m σ H) /\ ∀i m σ H,W i m σ H ->
   (ao.stop i H/\D.nx σ H)\/(ao.go i H /\ ∃N:L2.St->Hp->Prop,(∀a H',N a H' -> ∃au,au<m/\W (i+1) au a H') /\ ∀x H',ao.yld i H x H'->g x σ H' λy H2=>ti y H2 λb v=>if b=M then tb {D with nx:=N} y v else N y v)):
  codeAny (model X.prog X.w) X.A (.compLoop (.ListComp elt c scope pos) d (.ref it) l X.env) (λr s'=>match r with | .ok _=>∃a H',Inv X ag a H' s'/\D.nx a H' | .error _=>False) s:=by
 obtain⟨W,⟨m0,w0⟩,aq⟩:=h;have k:∀{H':Hp},(∀b∈z,H' b=Y) -> ∀b∈z,kb X ag H' b:=λhn b t=>⟨hn b t,(f2 b t).2⟩;refine codeAny_loop O (λn s'=>∃i a H',Inv X ag a H' s'/\P i s'.heap/\(∀b∈z,H' b=Y)/\W i n a H') ?_ m0 ⟨0,σ,H,I,st,λb t=>(f2 b t).1,w0⟩;rintro n S ⟨i,j,v,I3,K,F,w3⟩;show dj _ _ ((compTurn (.ListComp elt c scope pos) d (.ref it) l X.env).onRaise (λx=>do noteFrame x X.env;theTreesLotGoes x)) _ _ S;refine wpAny_noted ?_;rw[eq];have no:∀{α:Type} {m:Sem α} {Q:α->c9->Prop} {s:c9} {E:c8->c9->Prop},dj (model X.prog X.w) X.A m Q X.xe s->dj (model X.prog X.w) X.A m Q E s:=λh=>by
  rw[hx]at h;exact wpAny_mono h (λ_ _ q=>q) λ_ _ q=>q.elim
 unfold sL;refine wB1 (wpAny_standAt (wB1 ?_));rcases aq i n j v w3 with⟨L,qn⟩|⟨go,N,hN,step⟩
 ·refine no (eY (T.done X O O O hc i ag S j v X.xe I3 (k F) K L) λr s4 ⟨U,I4⟩=>?_);subst U;exact wP1 ⟨j,v,I4,qn⟩
 ·refine no (eY (T.item X rfl rfl rfl hc i ag S j v X.xe I3 (k F) K go) fun r s4 ⟨u,U,h4⟩=>?_);subst U;refine wB1 (no (eY h4 fun _ ar ⟨x,H5,I5,r5,y5,w,R⟩=>?_));have V:=I5.pinned (k R) (T.obj _ _ w);refine wB1 (no (eY (hg _ ar j H5 x u _ V r5 (step x H5 y5)) fun _ s6 ⟨G,H6,I6,q6⟩=>?_));refine wB1 (no (eY (hi _ s6 G H6 _ I6 q6) fun ok C ⟨A,B,wq⟩=>?_));have again':∀ {f:L2.St} {A:Hp} {C:c9},Inv X (ag++nT z ar.heap) f A C->N f A -> ∃ m,m<n /\ ∃ i a H',Inv X ag a H' C/\P i C.heap/\(∀ b∈z,H' b=none)/\W i m a H':=fun {f A C} B n7=>by
   obtain⟨au,hm,w7⟩:=hN f A n7;refine⟨au,hm,i+1,f,A,B.unpinned,T.keep _ _ _ w λb t o e=>(B.pin (b,o) (mA1 _ (mA1 _ (iZ t e)))).1,λb t=>?_,w7⟩;obtain⟨o,e,d⟩:=T.obj _ _ w b t;exact(B.pin (b,o) (mA1 _ (mA1 _ (iZ t e)))).2.1
  cases ok with
  |false=>exact wP1 ⟨O,again' B wq⟩
  |true=>exact wB1 (no (eY (he _ C G A _ B wq) λ_ s8 ⟨σ8,H8,I8,q8⟩=>wP1 ⟨O,again' I8 q8⟩))
def vW(p:da)(te:TE):TS:=λD σ H=>te σ H λx H1=>∃xs,H1 p=Z (.lst xs)/\xs.length<di/\D.nx σ (upd H1 p (.lst (xs++[x])))
theorem we{X:Cx}{elt:Expr}{te:TE}(h:PE X elt te)(p:da):PU X (t7 elt (.ref p) X.env) (vW p te):=by
 intro ag s σ H E I q;unfold t7;refine wB1 (eY (h ag s σ H _ I q) λu c ⟨x,H1,e,i,xs,b,d,a⟩=>?_);refine wB1 (eY (pC ag c σ H1 (.ref p) [x] (.ref p) [u] (λ_ H'=>E.nx σ H') e O (.cons i .nil) ⟨p,xs,x,O,O,b,d,a⟩) λ_ j ⟨_,H2,g,_,f⟩=>?_);exact wP1 ⟨σ,H2,g,f⟩
def En(ao:It)(g:TG)(ti:TT)(tb:TS):TS:=λD σ H=>∃W:Nat->Nat->L2.St->Hp->Prop,(∃m,W 0 m σ H) /\ ∀i m σ H,W i m σ H ->
 (ao.stop i H/\D.nx σ H)\/(ao.go i H /\ ∃N:L2.St->Hp->Prop,(∀ σ' H',N σ' H' -> ∃m',m'<m/\W (i+1) m' σ' H') /\ ∀x H',ao.yld i H x H'->g x σ H' fun σ2 H2=>ti σ2 H2 λb H3=>if b=M then tb {D with nx:=N} σ2 H3 else N σ2 H3)
theorem Un.sameBut{fs ex:List da}{H H':Hp}{h h1 h2:dk}{c:da}(u:Un fs ex H H' h h1)(hs:Heap.SameBut c h1 h2)(hc:h.get? c=Y):Un fs ex H H' h h2:=by
 have ne:∀{b o},h.get? b=Z o->b≠c:=λe z=>by rw[z,hc]at e;cases e
 refine⟨λb o e n d a=>(hs.2 b (ne e)).trans (u.keep b o e n d a),λb o e n d a=>?_,u.free,λb o e a=>?_,u.tups,u.frzs,u.tbls⟩
 ·obtain⟨f,q⟩:=u.slot b o e n d a;exact⟨f,(hs.2 b (ne e)).trans q⟩
 ·obtain⟨o',q⟩:=u.there b o e a;exact⟨o',(hs.2 b (ne e)).trans q⟩
def zj(k:Nat)(keep:List Nat)(wi:TI)(g:TG)(ti:TT)(tb:da->TS):TE:=fun σ H Q=>wi σ H λao H1=>∀p,H1 p=Y ->
 En ao g ti (tb p) {nx:=λ_ H'=>Q (.ref p) H',rt:=λ_ _=>False} (rE k keep σ) (upd H1 p (.lst []))
theorem CN{X:Cx}(hc:X.calm=true){elt tg iter:Expr}{ifs:List Expr}{rest:List Comprehension}{scope:dq}{pos:Pos}{T:List Str}{keep:List Nat}{k:List (Str×da)}{F:TI}{g:TG}{aq:TT}{tb:da->TS}{emit:c8->Env->Sem Unit}(eq:∀it l i,compTurn (.ListComp elt (⟨tg,iter,ifs,0⟩::rest) scope pos) 0 it l i=sL iter.pos tg ifs it i (emit l i) (.compLoop (.ListComp elt (⟨tg,iter,ifs,0⟩::rest) scope pos) 0 it l i))(C:Ke X scope T keep)(u:ka X.env.cells scope.names []=some k)(hi:PI X tg iter F)(hb:∀s H d p,PG (cxC X scope k T keep s H d) tg g/\pj (cxC X scope k T keep s H d) ifs aq/\PU (cxC X scope k T keep s H d) (emit (.ref p) (cxC X scope k T keep s H d).env) (tb p))(hs:∀x,foldedSetIterable iter X.env x=pure x):
  PE X (.ListComp elt (⟨tg,iter,ifs,0⟩::rest) scope pos) (zj T.length keep F g aq tb):=by
 intro ag s σ H Q I h;rw[eval_ListComp];refine wpAny_comprehension_free (use:=Y) O hs (Bo u) C.kind C.names ?_;refine eY (hi ag s σ H _ I h) λv s1 h1=>eY h1 λitv a h2=>?_;obtain⟨it,d,tn,ao,H2,rfl,K,TT,w,L,S⟩:=h2;refine wO1 ?_;have G:Inv X ag σ (upd H2 a.heap.objs.size (.lst [])) {a with heap:=a.heap.push {cls:=.type "list",data:=.seq ([]:List c8).toArray}}:=K.lnew (t':=a.toks) .nil (bh _);have old:∀b∈d,∃o,a.heap.get? b=Z o:=λb hb=>by
  obtain⟨o,e,_⟩:=TT.obj 0 a.heap w b hb;exact⟨o,e⟩
 have D:∀b∈d,b≠a.heap.objs.size:=λb hb z=>by
  obtain⟨o,e⟩:=old b hb;have:=hL1 e;rw[z]at this;exact az _ this
 have A:∀b∈d,kb X ag (upd H2 a.heap.objs.size (.lst [])) b:=λb hb=>⟨by rw[dU (D b hb)];exact(L b hb).1,(L b hb).2⟩;have wq:∀b∈d,∃o,({a with heap:=a.heap.push {cls:=.type "list",data:=.seq ([]:List c8).toArray}}:c9).heap.get? b=Z o:=λb hb=>by
  obtain⟨o,e⟩:=old b hb;exact⟨o,hP1 _ e⟩
 have B:=tU G C u A wq;obtain⟨W,ar,he⟩:=hb {a with heap:=a.heap.push {cls:=.type "list",data:=.seq ([]:List c8).toArray}} (upd H2 a.heap.objs.size (.lst [])) d a.heap.objs.size;refine kj ?_;have V:∀b∈d,kb (cxC X scope k T keep {a with heap:=a.heap.push {cls:=.type "list",data:=.seq ([]:List c8).toArray}} (upd H2 a.heap.objs.size (.lst [])) d) [] (upd H2 a.heap.objs.size (.lst [])) b:=λb hb=>
  ⟨(A b hb).1,(B.ok.exf b hb).1,B.ok.exfs b hb,.inl hb,(B.ok.exf b hb).2,λp R=>absurd (show p∈([]:List (da×Obj))from R) (by simp)⟩
 have y:tn 0 (pushCells ((a.heap.push {cls:=.type "list",data:=.seq ([]:List c8).toArray}).push {cls:=.type "dict",data:=.dict #[]}) scope.names):=
  TT.keep 0 a.heap _ w λb hb o e=>pushCells_keeps scope.names _ b o (hP1 _ (hP1 _ e))
 have j:=pX (X:=cxC X scope k T keep {a with heap:=a.heap.push {cls:=.type "list",data:=.seq ([]:List c8).toArray}} (upd H2 a.heap.objs.size (.lst [])) d) O hc (eq (.ref it) (.ref a.heap.objs.size) _) TT W ar he B y V
  (S a.heap.objs.size (K.hok.fresh (nR1 _)))
 refine codeAny_mono (codeAny_compStart_list j (TT.self X.A 0 _ _ _ y j)) λr s' N=>?_;cases r with
 |error e=>exact N.elim
 |ok f=>
  obtain⟨U,H',n,au⟩:=N;obtain⟨m,P,_⟩:=id n.loc;refine⟨m,P,λh' t=>⟨.ref a.heap.objs.size,H',?_,O,au⟩⟩;refine G.call' (s':={s' with heap:=h'}) (ch:=d) n.os (Un.sameBut n.base t (Heap.get?_none_of_le (nR1 _))) (λb ob e=>?_) n.bare λb hb=>(A b hb).2.2.2 |> λz=>⟨z.1,(A b hb).2.1,z.2.1,z.2.2⟩
  refine(n.hok b ob e).stay (λc w' hc q=>(t.2 c ?_).trans q) (λ_ q=>q) λ_ _ q=>q;rintro rfl;have E:=n.free;rcases hc with rfl|hc
  ·exact nomatch E.symm.trans e
  ·exact nomatch E.symm.trans hc
section
variable{K:Fg1}{H:Hp}{mu:List da}{S:Sto}{p:da}{u:HO}{o:Ob}{n:Nat}
theorem Rd.ne{a:da}{x:HO}(h:H p=Y)(q:Rd H a x):a≠p:=by
 rintro rfl;rcases q with q|⟨_,q⟩<;>(rw[h]at q;cases q)
theorem Ext.fresh(hp:H p=Y):Ext mu mu H (upd H p u) where
 pre:=bn
 old:=λa o h _=>by rw[dU (d8 h hp)];exact h
 tup:=λa xs h=>by
  have ne:=Rd.ne hp h;rcases h with h|⟨b,h⟩
  ·exact .inl (by rw[dU ne];exact h)
  ·exact .inr ⟨b,by rw[dU ne];exact h⟩
 frz:=λa o x h=>by rw[dU (d8 h hp)];exact h
 new:=λ_ h=>.inl h
theorem Ext.new_(hp:H p=Y):Ext mu (mu++[p]) H (upd H p u) where
 pre:=bu _ _
 old:=(Ext.fresh (mu:=mu) hp).old
 tup:=(Ext.fresh (mu:=mu) hp).tup
 frz:=(Ext.fresh (mu:=mu) hp).frz
 new:=λa h=>by
  rcases aF.mp h with h|h
  ·exact .inl h
  ·have:a=p:=by simpa using h
   subst this;exact .inr hp
theorem Sim.fresh(s:Sim K H mu S)(hp:H p=Y):Sim K (upd H p u) mu S:=
 ⟨s.len,s.nd,λk o a h1 h2=>(s.ob k o a h1 h2).keep (Ext.fresh hp) λb e=>by rw[dU (d8 e hp)];exact e⟩
theorem Sim.notin(s:Sim K H mu S)(hp:H p=Y):p∉mu:=λh=>by
 obtain⟨o,e⟩:=s.here h;rw[hp]at e;cases e
theorem oU.more{a:da}{mu':List da}{H':Hp}(e:Ext mu mu' H H')(h:∀o,H a=Z o->H' a=Z o):∀{o:Ob},oU K H mu a o->oU K H' mu' a o
 | .lst _,⟨vs,q,r⟩=>⟨vs,h _ q,r.ext e⟩
 | .dct _,⟨ws,q,r⟩=>⟨ws,h _ q,KR.ext e r⟩
 | .dcT _,⟨ws,q,r,l⟩=>⟨ws,h _ q,KT.ext e r,l⟩
 | .iset _,q=>⟨h _ q.1,q.2⟩
 | .dcF _,⟨ws,⟨o,u,c,b⟩,r,l⟩=>⟨ws,⟨o,u,h _ c,b⟩,KT.ext e r,l⟩
 | .tst _,⟨ws,q,r⟩=>⟨ws,h _ q,KT.ext e r⟩
theorem Sim.new(s:Sim K H mu S)(hp:H p=Y)(ho:oU K (upd H p u) (mu++[p]) p o):Sim K (upd H p u) (mu++[p]) (S++[o]):=by
 refine⟨by rw[lA1,lA1,s.len];rfl,?_,λk o' a h1 h2=>?_⟩
 ·rw[bw];refine⟨s.nd,by simp,λa f b g e=>?_⟩;have:b=p:=by simpa using g
  subst this;subst e;exact s.notin hp f
 ·by_cases d:k<S.length
  ·rw[gL1 d]at h1;rw[gL1 (by rw[s.len];exact d)]at h2;exact(s.ob k o' a h1 h2).more (Ext.new_ hp) λh e=>by rw[dU (d8 e hp)];exact e
  ·have c:k=S.length:=by
    have:=(gE1.mp h1).1;rw[lA1]at this;simp at this;lia
   subst c;rw[gR1 (nR1 _)]at h1;rw[<- s.len,gR1 (nR1 _)]at h2;simp at h1 h2;subst h1;subst h2;exact ho
theorem Ext.put{x:HO}(hp:H p=Z x)(hm:HN (Z x))(b:p∈mu):Ext mu mu H (upd H p u) where
 pre:=bn
 old:=λa o h n=>by rw[dU (λe=>n (by rw[e];exact b))];exact h
 tup:=λa xs h=>by
  have ne:a≠p:=by
   rintro rfl;rcases h with h|⟨_,h⟩<;>(rw[hp]at h;cases h;exact hm)
  rcases h with h|⟨c,h⟩
  ·exact .inl (by rw[dU ne];exact h)
  ·exact .inr ⟨c,by rw[dU ne];exact h⟩
 frz:=λa o y h=>by
  rw[dU (λe=>?_)]
  ·exact h
  ·subst e;rw[hp]at h;cases h;exact hm
 new:=λ_ h=>.inl h
theorem Sim.put(s:Sim K H mu S){x:HO}(hn:mu[n]?=Z p)(hp:H p=Z x)(hm:HN (Z x))(ho:oU K (upd H p u) mu p o):Sim K (upd H p u) mu (S.set n o):=by
 refine⟨by rw[aW];exact s.len,s.nd,λk o' a h1 h2=>?_⟩;by_cases b:n=k
 ·subst b;have d:n<S.length:=by
   have:=(gE1.mp h1).1
   rwa [aW]at this
  rw[aH d]at h1;cases h1;rw[hn]at h2;cases h2;exact ho
 ·rw [gS1 b] at h1;have ne:a≠p:=fun e=>by
   subst e;obtain⟨g,c⟩:=gE1.mp hn;obtain⟨h,f⟩:=gE1.mp h2;exact b ((List.getElem_inj s.nd).mp (c.trans f.symm))
  exact(s.ob k o' a h1 h2).keep (Ext.put hp hm (gM1 hn)) λi e=>by rw[dU ne];exact e
theorem Sim.lst(s:Sim K H mu S){ds:List D}{a:da}(h:S[n]?=Z (.lst ds))(hn:mu[n]?=Z a):∃vs,H a=Z (.lst vs)/\dJ K H mu ds vs:=s.ob n _ a h hn
theorem Sim.dcT(s:Sim K H mu S){ks:List (TK×D)}{a:da}(h:S[n]?=Z (.dcT ks))(hn:mu[n]?=Z a):∃ws,H a=Z (.ext (jS a ws))/\KT K H mu ks ws/\ws.length<=di:=s.ob n _ a h hn
theorem Sim.iset(s:Sim K H mu S){xs:List Int}{a:da}(h:S[n]?=Z (.iset xs))(hn:mu[n]?=Z a):H a=Z (.set (λk=>xs.contains k) xs.length)/\xs.Nodup:=s.ob n _ a h hn
theorem Sim.dct(s:Sim K H mu S){ks:List (Key×D)}{a:da}(h:S[n]?=Z (.dct ks))(hn:mu[n]?=Z a):∃ws,H a=Z (.dK ws)/\KR K H mu ks ws:=s.ob n _ a h hn
theorem Sim.newL(s:Sim K H mu S){ds:List D}{vs:List V}(r:dJ K H mu ds vs)(hp:H p=Y):Sim K (upd H p (.lst vs)) (mu++[p]) (S++[.lst ds]):=s.new hp ⟨vs,dX,r.ext (Ext.new_ hp)⟩
theorem Sim.putL(s:Sim K H mu S){ds:List D}{vs ws:List V}(r:dJ K H mu ds vs)(hn:mu[n]?=Z p)(hp:H p=Z (.lst ws)):Sim K (upd H p (.lst vs)) mu (S.set n (.lst ds)):=
 s.put hn hp trivial ⟨vs,dX,r.ext (Ext.put hp trivial (gM1 hn))⟩
end
theorem gx{mu:List da}{S:Sto}(h:mu.length=S.length)(p:da):(mu++[p])[S.length]?=Z p:=by
 rw[<- h,gR1 (nR1 _)];simp
noncomputable def dR (a:FA):FE:=λr S=>(a r S).bind λp=>if p.1.length<=di then some (.tup p.1,p.2)else none
noncomputable def eP (a:FA):FE:=λr S=>(a r S).bind λp=>if p.1.length<=di then some (.ref p.2.length,p.2++[.lst p.1])else none
section
variable{X:Cx}{es:List Expr}{pos:Pos}{a:FA}
theorem GE{x1}(h:MA X es a):ME X (.Tuple es x1 pos) (dR a):=ez (FY h) <| by
 rintro σ H Q ⟨r,mu,S,d,m,j,k,b,hc⟩;obtain⟨⟨ds,l⟩,f,b⟩:=oB1.mp b;dsimp only at b;split at b
 ·rename_i i;cases b;refine⟨r,mu,S,ds,_,j,k,f,λvs H1 mu1 x1 e g=>⟨by rw[<- e.length];exact i,λp c=>?_⟩⟩;exact hc _ _ mu1 (x1.trans (Ext.fresh c)) (.tup (jP.of dX) (e.ext (Ext.fresh c))) (g.fresh c)
 ·cases b
theorem GK(h:MA X es a):ME X (.List es pos) (eP a):=ez (F4 h) <| by
 rintro σ H Q ⟨r,mu,S,d,n,k,l,b,hc⟩;obtain⟨⟨ds,m⟩,i,b⟩:=oB1.mp b;dsimp only at b;split at b
 ·rename_i j;cases b;refine⟨r,mu,S,ds,_,k,l,i,λvs H1 mu1 g f c=>⟨by rw[<- f.length];exact j,λp e=>?_⟩⟩;exact hc _ _ (mu1++[p]) (g.trans (Ext.new_ e)) (.ref (gx c.len p)) (c.newL f e)
 ·cases b
end
def l9(k:Nat)(keep:List Nat)(r:Ev):Ev:=aP k Y++keep.map λi=>(r[i]?).join
def fx:FT:=λ_ S=>Z (M,S)
theorem Jy{K:Fg1}{H:Hp}{mu:List da}{r:Ev}{σ:L2.St}(k:Nat)(keep:List Nat)(h:fJ K H mu r σ):fJ K H mu (l9 k keep r) (rE k keep σ):=by
 refine⟨by unfold l9 rE;rw[lA1,lA1,lM1,lM1,lR1,lR1],λi d e=>?_⟩;unfold l9 at e;unfold rE;by_cases hi:i<k
 ·rw[gL1 (by rw[lR1];exact hi),aS]at e;split at e<;>cases e
 ·rw [gR1 (by rw [lR1];lia),lR1,gP1] at e;rw [gR1 (by rw [lR1];lia),lR1,gP1];obtain ⟨j,c,e⟩:=oM1.mp e;rw [c];have f:r[j]? = some (some d):=by
   cases q:r[j]? with
   |none=>rw[q]at e;cases e
   |some o=>rw[q]at e;cases e;rfl
  obtain⟨v,b,a⟩:=h.val j d f;exact⟨v,by rw[oP1,b];rfl,a⟩
section
variable{X:Cx}
theorem zO{ifs:List Expr}{t t':L2.TT}(h:pj X ifs t)(i:∀ σ H Q,t' σ H Q->t σ H Q):pj X ifs t':=λag s σ H Q I q=>h ag s σ H Q I (i σ H Q q)
theorem C9:pj X [] (B8 X.K fx):=zO zN fun σ H Q ⟨r,mu,S,b,e,d,a,c,hc⟩=>by cases c;exact hc H mu (.refl _ _) a
theorem C8{c:Expr}{t:FT}(h:MT X c t):pj X [c] (B8 X.K t):=zM h
end
open PySem.AutoSeq1 (wpAny_loadPart')
def SIt(b:Bool)(h:dk)(it a:da)(i:Nat):Prop:=match b with
 |true=>h.IsListIter it a i
 |false=>h.IsTupleIter it a i
def SCo(b:Bool)(h:dk)(a:da)(xs:Array c8):Prop:=match b with
 |true=>h.IsList a xs
 |false=>h.IsTuple a xs
theorem SIt.to{b:Bool}{h h':dk}{it a:da}{i:Nat}(x:SIt b h it a i)(k:∀o,h.get? it=Z o->h'.get? it=Z o):SIt b h' it a i:=by
 cases b<;>(obtain⟨o,e,r⟩:=x;exact⟨o,k o e,r⟩)
theorem SIt.rec_{b:Bool}{h:dk}{it a:da}{i:Nat}(x:SIt b h it a i):∃o,h.get? it=Z o /\ ∀v,o.data ≠ .cell v:=by
 cases b<;>(obtain⟨o,e,c,d⟩:=x;exact⟨o,e,λv z=>by rw[d]at z;cases z⟩)
theorem SCo.to{b:Bool}{h h':dk}{a:da}{xs:Array c8}(x:SCo b h a xs)(k:∀o,h.get? a=Z o->h'.get? a=Z o):SCo b h' a xs:=by
 cases b<;>(obtain⟨o,e,r⟩:=x;exact⟨o,k o e,r⟩)
def fG(b:Bool)(a:da):Obj:=match b with
 |true=>{cls:=.type "list_iterator",data:=.fields #[.ref a,.int 0 0]}
 |false=>{cls:=.type "tuple_iterator",data:=.fields #[.ref a,.int 0 0]}
section
variable{prog:db}{w:df}{A:de}{E:c8->c9->Prop}{s:c9}
theorem qu{b:Bool}{h:dk}{it a:da}(e:h.get? it=Z (fG b a)):SIt b h it a 0:=by
 cases b<;>exact⟨_,e,O,O⟩
theorem iF{b:Bool}{a:da}{xs:Array c8}{Q:c8->c9->Prop}(x:SCo b s.heap a xs)(h:Q (.ref s.heap.objs.size) {s with heap:=s.heap.push (fG b a)}):dj (model prog w) A (pyIter (.ref a)) Q E s:=by
 cases b
 ·exact wpAny_pyIter_tuple x h
 ·exact wpAny_pyIter_list x h
theorem Aj{it l:da}{i:Nat}{xs:Array c8}{x:c8}{Q:c8->c9->Prop}(c:s.heap.IsTupleIter it l i)(tl:s.heap.IsTuple l xs)(hx:xs[i]? = Z x)(f:∀h',h'.IsTupleIter it l (i+1)->Heap.SameBut it s.heap h'->Q x {s with heap:=h'}):dj (model prog w) A (Builtin.SmallTypes.nextOf (.ref it)) Q E s:=by
 obtain⟨o,b,hc,a⟩:=id c;obtain⟨g,e,_,h,d⟩:=tl;unfold Builtin.SmallTypes.nextOf;refine wB1 (wpAny_callSpecial?_slot (name:=Str.ofString "__next__") c.typeIs F.slot_tuple_iterator_next (wE1 F.slot_tuple_iterator_next c.typeIs F.entry_tuple_iterator_next ?_ (F.args_tuple_iterator_next_1 _)));show dj _ _ (field (.ref it) 0 >>= _) _ _ s;refine wB1 (wpAny_field b a (x:=.ref l) O ?_);show dj _ _ (if(Value.ref l == Value.none)=M then _ else _) _ _ s;rw[aj (show¬ ((Value.ref l == Value.none)=M)from aJ)];show dj _ _ (field (.ref it) 1 >>= _) _ _ s;refine wB1 (wpAny_field b a (x:=.int i 0) O ?_);show dj _ _ (seqItems? (.ref l) >>= _) _ _ s;refine wB1 (wpAny_seqItems e d ?_);simp only[Int.toNat_natCast,hx];refine wB1 (wpAny_setField b a (by simp) (wP1 ⟨x,O,wP1 (f _ ⟨_,hW1 _ b (Obj.isFreed_of_fields (Obj.data_mapFields a _)),(Obj.cls_mapFields ..).trans hc,by rw[Obj.data_mapFields a];simp[rawInt]⟩ (Heap.SameBut.update ..))⟩))
theorem rh {it l:da}{i:Nat}{xs:Array c8}{Q:c8->c9->Prop}(h:A.handled=none)(b:s.heap.IsTupleIter it l i)(tl:s.heap.IsTuple l xs)(hx:xs[i]? = none)
  (j:∀h' e,Heap.ExtBut it s.heap h'->(∃o,h'.get? e=Z o/\o.cls = .type "StopIteration")->E (.ref e) {s with heap:=h'}):dj (model prog w) A (Builtin.SmallTypes.nextOf (.ref it)) Q E s:=by
 obtain⟨o,f,hc,c⟩:=id b;obtain⟨k,g,_,n,d⟩:=tl;unfold Builtin.SmallTypes.nextOf;refine wB1 (wpAny_callSpecial?_slot (name:=Str.ofString "__next__") b.typeIs F.slot_tuple_iterator_next (wE1 F.slot_tuple_iterator_next b.typeIs F.entry_tuple_iterator_next ?_ (F.args_tuple_iterator_next_1 _)));show dj _ _ (field (.ref it) 0 >>= _) _ _ s;refine wB1 (wpAny_field f c (x:=.ref l) O ?_);show dj _ _ (if(Value.ref l == Value.none)=M then _ else _) _ _ s;rw[aj (show¬ ((Value.ref l == Value.none)=M)from aJ)];show dj _ _ (field (.ref it) 1 >>= _) _ _ s;refine wB1 (wpAny_field f c (x:=.int i 0) O ?_);show dj _ _ (seqItems? (.ref l) >>= _) _ _ s;refine wB1 (wpAny_seqItems g d ?_);simp only[Int.toNat_natCast,hx];refine wB1 (wpAny_rule (wB1 (wpAny_setField f c (by simp) ?_)));show dj _ _ (newExc (.type "StopIteration") [] >>= _) _ _ _;refine wB1 ?_;simp only[newExc,newTuple];refine wB1 (wO1 ?_ (by size_fits));refine wB1 (m:=firstArgMember _ _) (wpAny_of_eq (a:=Value.none) (by first|rfl|(simp only[firstArgMember];rfl)) ?_);refine wO1 ?_ (by size_fits);simp only[raiseNew];refine wB1 (wpAny_handled ?_)
 first|rw[show A.in1.handled=Y from h] | rw[h]
 refine wB1 (wP1 (wpAny_throw ?_));exact j _ _ (((Heap.SameBut.update ..).extBut.push _).push _) ⟨_,hS1 _ O,O⟩
theorem lm{b:Bool}{it l:da}{i:Nat}{xs:Array c8}{x:c8}{Q:c8->c9->Prop}(a:SIt b s.heap it l i)(tl:SCo b s.heap l xs)(hx:xs[i]? = Z x)(c:∀h',SIt b h' it l (i+1)->Heap.SameBut it s.heap h'->Q x {s with heap:=h'}):dj (model prog w) A (Builtin.SmallTypes.nextOf (.ref it)) Q E s:=by
 cases b
 ·exact Aj a tl hx c
 ·exact wpAny_nextOf_list_item a tl hx c
theorem iY {b:Bool}{it l:da}{i:Nat}{xs:Array c8}{Q:c8->c9->Prop}(a:A.handled=none)(c:SIt b s.heap it l i)(tl:SCo b s.heap l xs)(hx:xs[i]? = none)
  (d:∀h' e,Heap.ExtBut it s.heap h'->(∃o,h'.get? e=Z o/\o.cls = .type "StopIteration")->E (.ref e) {s with heap:=h'}):dj (model prog w) A (Builtin.SmallTypes.nextOf (.ref it)) Q E s:=by
 cases b
 ·exact rh a c tl hx d
 ·exact wpAny_nextOf_list_end a c tl hx d
theorem Ba{b:Bool}(l:da)(xs:Array c8):
  Meets (Builtin.«enumerate.__new__» ⟨[.type "enumerate",.ref l],[]⟩) (λ_ R s=>SCo b s.heap l xs /\
   R (.ok (.ret (.ref (s.heap.push (fG b l)).objs.size))) {s with heap:=(s.heap.push (fG b l)).push {cls:=.type "enumerate",data:=.fields #[.none,.bool J,.ref s.heap.objs.size,rawInt 0,.none,.none]}}):=
 .of_wp λprog w A R s h=>by
  obtain⟨f,g,d,tk,k⟩:=s;obtain⟨a,h⟩:=h;have i:=sub_enumerate
  have j:SCo b (Shared.heap ⟨f,g,d,tk,k⟩) l xs:=a;obtain⟨m,el⟩:∃o,f.get? l=some o:=by cases b<;>(obtain⟨o,e,_⟩:=a;exact⟨o,e⟩)
  wp_walk using wpAny_loadPart' el
  refine wpAny_stack_any λst=>wP1 ?_;split
  ·rename_i c _ _ _ _ _;cases(c == Value.type "enumerate")<;>(wp_walk using wpAny_loadPart' el,iF j;exact⟨_,O,h⟩)
  ·wp_walk using wpAny_loadPart' el,iF j
   exact⟨_,O,h⟩
theorem yg{b:Bool}{l:da}{xs:Array c8}{Q:c8->c9->Prop}(f:SCo b s.heap l xs)(h:∀h',IsEnum h' (s.heap.objs.size+1) s.heap.objs.size 0 .none->SIt b h' s.heap.objs.size l 0->h'.objs.size=s.heap.objs.size+2->(∀b o,s.heap.get? b=some o->h'.get? b=some o)->Q (.ref (s.heap.objs.size+1)) {s with heap:=h'}):
  dj (model prog w) A (call (.type "enumerate") [.ref l]) Q E s:=by
 refine callType_new F.called_enumerate (by decide) (F.typeCall_enumerate_1 _) (F.newCall_enumerate_1 _) (λd=>F.args_object_init_2 d _) F.entry_enumerate_new (Ba (b:=b) l xs) ⟨f,?_⟩;have a:(s.heap.push (fG b l)).objs.size=s.heap.objs.size+1:=hZ1 ..
 show _/\_;rw[a];have e:IsEnum ((s.heap.push (fG b l)).push {cls:=.type "enumerate",data:=.fields #[.none,.bool J,.ref s.heap.objs.size,rawInt 0,.none,.none]}) (s.heap.objs.size+1) s.heap.objs.size 0 .none:=by
  have q:=hS1 (s.heap.push (fG b l)) (o:={cls:=.type "enumerate",data:=.fields #[.none,.bool J,.ref s.heap.objs.size,rawInt 0,.none,.none]}) O;rw[a]at q;exact q
 have hi:(s.heap.push (fG b l)).get? s.heap.objs.size=Z (fG b l):=hS1 _ (by cases b<;>rfl);refine⟨⟨_,e,O⟩,h _ e (qu (hP1 _ hi)) (by rw[hZ1,a]) λc o x=>hP1 _ (hP1 _ x)⟩
theorem yf {b:Bool}{e it l:da}{i:Nat}{xs:Array c8}{x old:c8}{Q:Option c8->c9->Prop}(he:IsEnum s.heap e it i old)(U:SIt b s.heap it l i)(tl:SCo b s.heap l xs)(hx:xs[i]? = some x)(j:e≠it)
  (T:∀h',IsEnumOut h' e it ((i:Int)+1) x s.heap.objs.size->SIt b h' it l (i+1)->h'.get? s.heap.objs.size=Z {cls:=.type "tuple",data:=.seq #[.int i s.toks,x]}->h'.objs.size=s.heap.objs.size+1 ->
   (∀b o,b≠e->b≠it->s.heap.get? b=Z o->h'.get? b=Z o)->Q (Z (.ref s.heap.objs.size)) {s with heap:=h',toks:=s.toks+1}):dj (model prog w) A (pyNext (.ref e)) Q E s:=by
 have S:s.TypeIs (.ref e) "enumerate":=⟨_,he,O⟩;unfold pyNext;refine wB1 (wpAny_attempt (wpAny_callSpecial?_slot (name:=Str.ofString "__next__") S F.slot_enumerate_next (wE1 F.slot_enumerate_next S F.entry_enumerate_next ?_ (F.args_enumerate_next_1 _))));obtain⟨k,g,d,tk,t⟩:=s;show dj _ _ (field (.ref e) 2 >>= _) _ _ _;refine wB1 (wpAny_field he O (x:=.ref it) O ?_);refine wB1 (lm U tl hx λh1 H D=>?_);replace D:Heap.SameBut it k h1:=D;have h:IsEnum h1 e it i old:=(D.2 e j).trans he;show dj _ _ (field (.ref e) 3 >>= _) _ _ ⟨h1,g,d,tk,t⟩;refine wB1 (wpAny_field h O (x:=rawInt i) O ?_);show dj _ _ (field (.ref e) 4 >>= _) _ _ ⟨h1,g,d,tk,t⟩;refine wB1 (wpAny_field h O (x:=.none) O ?_);show dj _ _ (mkInt i >>= _) _ _ ⟨h1,g,d,tk,t⟩;refine wB1 (wpAny_mkInt ?_);show dj _ _ (setField (.ref e) 3 (rawInt ((i:Int)+1)) >>= _) _ _ ⟨h1,g,d,tk+1,t⟩;refine wB1 (wS1 h (by simp) λh2 m C=>?_);replace C:Heap.SameBut e h1 h2:=C;replace m:IsEnum h2 e it ((i:Int)+1) old:=m;show dj _ _ (setField (.ref e) 4 .none >>= _) _ _ ⟨h2,g,d,tk+1,t⟩;refine wB1 (wS1 m (by simp) λh3 p G=>?_);replace G:Heap.SameBut e h2 h3:=G;replace p:IsEnum h3 e it ((i:Int)+1) old:=p;show dj _ _ (newTuple [.int i tk,x] >>= _) _ _ ⟨h3,g,d,tk+1,t⟩;refine wB1 (wpAny_newTuple ?_);have r:IsEnum (h3.push {cls:=.type "tuple",data:=.seq #[.int i tk,x]}) e it ((i:Int)+1) old:=hP1 _ p;generalize a:h3.push {cls:=.type "tuple",data:=.seq #[.int i tk,x]}=h4 at r;have n:h3.objs.size=k.objs.size:=by rw[G.1,C.1,D.1]
 have L:e<k.objs.size:=hL1 he;have au:h4.get? k.objs.size=Z {cls:=.type "tuple",data:=.seq #[.int i tk,x]}:=by rw[<- a,<- n];exact hS1 _ O
 have R:h4.objs.size=k.objs.size+1:=by rw[<- a,hZ1,n]
 have N:∀b o,b≠e->b≠it->k.get? b=Z o->h4.get? b=Z o:=λb o f y aq=>by
  rw[<- a];exact hP1 _ (G.extBut b o f (C.extBut b o f (D.extBut b o y aq)))
 have P:SIt b h4 it l (i+1):=H.to λo q=>by rw[<- a];exact hP1 _ (G.extBut _ _ (Ne.symm j) (C.extBut _ _ (Ne.symm j) q))
 show dj _ _ (Builtin.SmallTypes.ownedTupleIsFree (.ref e) >>= _) _ _ ⟨h4,g,d,tk+1,t⟩;rw[n];clear a p G m C h D H n h3 h2 h1;refine wB1 ?_;unfold Builtin.SmallTypes.ownedTupleIsFree;refine wB1 (wpAny_field r O (x:=.none) O (wP1 ?_));simp only[if_true];refine wB1 (wpAny_rule ?_);refine wB1 (wpAny_field r O (x:=old) O ?_);refine wB1 (wS1 r (by simp) λh5 v I=>?_);replace I:Heap.SameBut e h4 h5:=I;replace v:IsEnum h5 e it ((i:Int)+1) x:=v;show dj _ _ (Builtin.SmallTypes.ownedTupleHandOut (.ref e) (.ref k.objs.size) >>= _) _ _ ⟨h5,g,d,tk+1,t⟩;refine wB1 ?_;unfold Builtin.SmallTypes.ownedTupleHandOut;refine wB1 (wS1 v (by simp) λh6 u ao=>?_);replace ao:Heap.SameBut e h5 h6:=ao;replace u:IsEnumOut h6 e it ((i:Int)+1) x k.objs.size:=u;refine wS1 u (by simp) λh7 B K=>?_;replace K:Heap.SameBut e h6 h7:=K;replace B:IsEnumOut h7 e it ((i:Int)+1) x k.objs.size:=B;have up:∀c o,c≠e->h4.get? c=Z o->h7.get? c=Z o:=λc o z q=>K.extBut _ _ z (ao.extBut _ _ z (I.extBut _ _ z q));refine wB1 (wpAny_letGo (wP1 ⟨_,O,wP1 (T h7 B (P.to λo q=>up _ o (Ne.symm j) q) (up _ _ (nG1 L) au) (by rw[K.1,ao.1,I.1,R]) λc o f y aq=>up c o f (N c o f y aq))⟩))
theorem Bb{b:Bool}{e it l:da}{i:Nat}{xs:Array c8}{old:c8}{Q:Option c8->c9->Prop}(h:A.handled=Y)(he:IsEnum s.heap e it i old)(f:SIt b s.heap it l i)(tl:SCo b s.heap l xs)(hx:xs[i]? = Y)(j:∀h',Heap.ExtBut it s.heap h'->Q Y {s with heap:=h'}):dj (model prog w) A (pyNext (.ref e)) Q E s:=by
 have d:s.TypeIs (.ref e) "enumerate":=⟨_,he,O⟩;unfold pyNext;refine wB1 (wpAny_attempt (wpAny_callSpecial?_slot (name:=Str.ofString "__next__") d F.slot_enumerate_next (wE1 F.slot_enumerate_next d F.entry_enumerate_next ?_ (F.args_enumerate_next_1 _))));show dj _ _ (field (.ref e) 2 >>= _) _ _ _;refine wB1 (wpAny_field he O (x:=.ref it) O ?_);refine wB1 (iY h f tl hx λh' x c a=>?_);obtain⟨o,g,hc⟩:=a;refine wB1 (wpAny_isInstance (T:="StopIteration") (b:=M) ⟨o,g,hc⟩ isSubtype_stop ?_);exact wP1 (j _ c)
theorem pU{e it:da}{i:Int}{old:c8}{Q:c8->c9->Prop}(he:IsEnum s.heap e it i old)(h:Q (.ref e) s):dj (model prog w) A (pyIter (.ref e)) Q E s:=by
 have a:s.TypeIs (.ref e) "enumerate":=⟨_,he,O⟩;refine wpAny_pyIter_slot a F.slot_enumerate_iter (wE1 F.slot_enumerate_iter a F.entry_enumerate_iter ?_ (F.args_enumerate_iter_1 _));show dj _ _ (ret (.ref e)) _ _ s;exact wP1 ⟨_,O,"enumerate",_,a,F.slot_enumerate_next.lookup,h⟩
end
open PySem.AutoSeq1 (wpAny_loadPart')
structure Lr (z ti to i1 i2:da):Prop where
 a1:ti≠z
 a2:to≠z
 a3:i1≠z
 a4:i2≠z
 a5:ti≠to
 a6:ti≠i1
 a7:ti≠i2
 a8:to≠i1
 a9:to≠i2
 a10:i1≠i2
section
variable{prog:db}{w:df}{A:de}{E:c8->c9->Prop}{s:c9}{b1 b2:Bool}
theorem SCo.ne{b:Bool}{h:dk}{a c:da}{xs:Array c8}{o:Obj}(x:SCo b h a xs)(e:h.get? c=Z o)(n:∀ys k,o.data ≠ .seq ys k):a≠c:=by
 rintro rfl;cases b<;>(obtain⟨o',f,g,k,d⟩:=x;rw[e]at f;cases f;exact n _ _ d)
theorem SCo.ne_it{b f:Bool}{h:dk}{a it l:da}{xs:Array c8}{i:Nat}(x:SCo b h a xs)(y:SIt f h it l i):a≠it:=by
 cases f<;>(obtain⟨o,e,c,d⟩:=y;exact x.ne e λys k z=>by rw[d]at z;cases z)
theorem yE{z g to i1 i v m:da}{k1 au:Nat}{xs ys:Array c8}{x y a b:c8}{Q:Option c8->c9->Prop}(D:Lr z g to i1 i)(hz:IsZip s.heap z g to .none)(wq:IsPair s.heap g (.ref i1) (.ref i))(X:IsPair s.heap to a b)(n1:v≠to)(n2:m≠to)(h1:SIt b1 s.heap i1 v k1)(h2:SIt b2 s.heap i m au)(c1:SCo b1 s.heap v xs)(V:SCo b2 s.heap m ys)(hx:xs[k1]?=some x)(hy:ys[au]?=some y)(hQ:∀h',IsZip h' z g to (rawInt s.heap.objs.size)->IsPair h' to x y->SIt b1 h' i1 v (k1+1)->SIt b2 h' i m (au+1)->IsPair h' s.heap.objs.size x y->h'.objs.size=s.heap.objs.size+1 ->
   (∀c o,c≠z->c≠to->c≠i1->c≠i->s.heap.get? c=Z o->h'.get? c=Z o)->Q (Z (.ref s.heap.objs.size)) {s with heap:=h'}):dj (model prog w) A (pyNext (.ref z)) Q E s:=by
 have hT:s.TypeIs (.ref z) "zip":=⟨_,hz,O⟩;have R:v≠z:=c1.ne hz λ_ _ q=>by cases q
 have S:m≠z:=V.ne hz λ_ _ q=>by cases q
 have aq:m≠i1:=V.ne_it h1;unfold pyNext;refine wB1 (wpAny_attempt (wpAny_callSpecial?_slot (name:=Str.ofString "__next__") hT F.slot_zip_next (wE1 F.slot_zip_next hT F.entry_zip_next ?_ (F.args_zip_next_1 _))));show dj _ _ (field (.ref z) 2 >>= _) _ _ _;refine wB1 (wpAny_field hz O (x:=.bool J) O ?_);show dj _ _ (field (.ref z) 3 >>= _) _ _ _;refine wB1 (wpAny_field hz O (x:=.ref g) O ?_);refine wB1 (wpAny_seqItems wq O ?_);show dj _ _ (Builtin.SmallTypes.ownedTupleIsFree (.ref z) >>= _) _ _ _;refine wB1 ?_;unfold Builtin.SmallTypes.ownedTupleIsFree;refine wB1 (wpAny_field hz O (x:=.none) O (wP1 ?_));simp only[if_true];refine wB1 (wpAny_rule ?_);refine wB1 (wpAny_field hz O (x:=.ref to) O ?_);refine wB1 (wS1 hz (by simp) λg1 r p=>?_);replace r:IsZip g1 z g to .ellipsis:=r;refine wB1 ?_;simp only[bJ,List.zipIdx_nil,bD,List.forIn_nil];refine wB1 (wB1 (wpAny_onRaise ?_));show dj _ _ (Builtin.SmallTypes.nextOf (.ref i1) >>= _) _ _ _
 refine wB1 (lm (h1.to λo q=>p.extBut _ _ D.a3 q) (c1.to λo q=>p.extBut _ _ R q) hx λg2 P u=>wP1 ?_);have k:IsPair g2 to a b:=u.extBut _ _ D.a8 (p.extBut _ _ D.a2 X);refine wB1 (wpAny_seqItems k O ?_);refine wB1 (wpAny_updateSeq_pair k λg3 f B=>?_);replace f:IsPair g3 to x b:=f;refine wB1 (wpAny_letGo (wP1 ?_));refine wB1 (wB1 (wpAny_onRaise ?_));show dj _ _ (Builtin.SmallTypes.nextOf (.ref i) >>= _) _ _ _
 refine wB1 (lm (h2.to λo q=>B.extBut _ _ D.a9.symm (u.extBut _ _ D.a10.symm (p.extBut _ _ D.a4 q))) (V.to λo q=>B.extBut _ _ n2 (u.extBut _ _ aq (p.extBut _ _ S q))) hy λg4 U ao=>wP1 ?_);have j:IsPair g4 to x b:=ao.extBut _ _ D.a9 f;refine wB1 (wpAny_seqItems j O ?_);refine wB1 (wpAny_updateSeq_pair j λd e C=>?_);replace e:IsPair d to x y:=e;refine wB1 (wpAny_letGo (wP1 (wP1 ?_)));refine wB1 (wpAny_seqItems e O ?_);refine wB1 (wpAny_newTuple ?_);have G:d.objs.size=s.heap.objs.size:=by rw[C.1,ao.1,B.1,u.1,p.1]
 have I:IsZip d z g to .ellipsis:=C.extBut _ _ D.a2.symm (ao.extBut _ _ D.a4.symm (B.extBut _ _ D.a2.symm (u.extBut _ _ D.a3.symm r)));have ar:∀c o,c≠z->c≠to->c≠i1->c≠i->s.heap.get? c=Z o->d.get? c=Z o:=λc o n N q3 T q=>C.extBut _ _ N (ao.extBut _ _ T (B.extBut _ _ N (u.extBut _ _ q3 (p.extBut _ _ n q))));have h15:SIt b1 d i1 v (k1+1):=P.to λo q=>C.extBut _ _ D.a8.symm (ao.extBut _ _ D.a10 (B.extBut _ _ D.a8.symm q));have h25:SIt b2 d i m (au+1):=U.to λo q=>C.extBut _ _ D.a9.symm q;have l:z<d.objs.size:=hL1 I;show dj _ _ (Builtin.SmallTypes.ownedTupleHandOut (.ref z) (.ref d.objs.size) >>= _) _ _ _;refine wB1 ?_;unfold Builtin.SmallTypes.ownedTupleHandOut;have hz6:IsZip (d.push {cls:=.type "tuple",data:=.seq #[x,y]}) z g to .ellipsis:=hP1 _ I;refine wB1 (wS1 hz6 (by simp) λg7 t s7=>?_);replace t:IsZip g7 z g to (rawInt d.objs.size):=t;refine wS1 t (by simp) λL h W=>?_;replace h:IsZip L z g to (rawInt d.objs.size):=h;have up:∀c o,c≠z->d.get? c=Z o->L.get? c=Z o:=λc o n q=>W.extBut _ _ n (s7.extBut _ _ n (hP1 _ q));have H:IsPair L d.objs.size x y:=W.extBut _ _ (nG1 l) (s7.extBut _ _ (nG1 l) (hS1 _ O));have K:L.objs.size=d.objs.size+1:=by rw[W.1,s7.1,hZ1]
 rw[G]at h H K;refine wP1 ⟨_,O,wP1 ?_⟩;show Q (Z (.ref d.objs.size)) _;rw[G]
 exact hQ L h (up _ _ D.a2 e) (h15.to λo q=>up _ o D.a3 q) (h25.to λo q=>up _ o D.a4 q) H K λc o n N q3 T q=>up c o n (ar c o n N q3 T q)
theorem BY{z m to i1 p G t:da}{k1 ao:Nat}{xs ys:Array c8}{a b:c8}{Q:Option c8->c9->Prop}(U:A.handled=Y)(D:Lr z m to i1 p)(hz:IsZip s.heap z m to .none)(aq:IsPair s.heap m (.ref i1) (.ref p))(L:IsPair s.heap to a b)(n1:G≠to)(n2:t≠to)(h1:SIt b1 s.heap i1 G k1)(h2:SIt b2 s.heap p t ao)(I:SCo b1 s.heap G xs)(K:SCo b2 s.heap t ys)(v:xs[k1]?=Y\/ys[ao]?=Y)(wq:∀h',(∀c o,c≠z->c≠to->c≠i1->c≠p->s.heap.get? c=Z o->h'.get? c=Z o)->Q Y {s with heap:=h'}):dj (model prog w) A (pyNext (.ref z)) Q E s:=by
 have X:s.TypeIs (.ref z) "zip":=⟨_,hz,O⟩;have r:G≠z:=I.ne hz λ_ _ q=>by cases q
 have H:t≠z:=K.ne hz λ_ _ q=>by cases q
 have C:t≠i1:=K.ne_it h1;unfold pyNext;refine wB1 (wpAny_attempt (wpAny_callSpecial?_slot (name:=Str.ofString "__next__") X F.slot_zip_next (wE1 F.slot_zip_next X F.entry_zip_next ?_ (F.args_zip_next_1 _))));show dj _ _ (field (.ref z) 2 >>= _) _ _ _;refine wB1 (wpAny_field hz O (x:=.bool J) O ?_);show dj _ _ (field (.ref z) 3 >>= _) _ _ _;refine wB1 (wpAny_field hz O (x:=.ref m) O ?_);refine wB1 (wpAny_seqItems aq O ?_);show dj _ _ (Builtin.SmallTypes.ownedTupleIsFree (.ref z) >>= _) _ _ _;refine wB1 ?_;unfold Builtin.SmallTypes.ownedTupleIsFree;refine wB1 (wpAny_field hz O (x:=.none) O (wP1 ?_));simp only[if_true];refine wB1 (wpAny_rule ?_);refine wB1 (wpAny_field hz O (x:=.ref to) O ?_);refine wB1 (wS1 hz (by simp) λg1 i g=>?_);replace i:IsZip g1 z m to .ellipsis:=i;refine wB1 ?_;simp only[bJ,List.zipIdx_nil,bD,List.forIn_nil];refine wB1 (wB1 (wpAny_onRaise ?_));show dj _ _ (Builtin.SmallTypes.nextOf (.ref i1) >>= _) _ _ _
 cases hx:xs[k1]? with
 |none=>
  refine wB1 (iY U (h1.to λo q=>g.extBut _ _ D.a3 q) (I.to λo q=>g.extBut _ _ r q) hx λN e j au=>?_);obtain⟨P,d,f⟩:=au;have y:IsZip N z m to .ellipsis:=j _ _ D.a3.symm i;have n:e≠z:=λq=>by subst q;rw[y]at d;cases d;simp at f
  refine wS1 y (by simp) λW _ l=>?_;refine wB1 (wpAny_isInstance (T:="StopIteration") (b:=M) ⟨P,l.extBut _ _ n d,f⟩ isSubtype_stop ?_);exact wP1 (wq W λc o u _ R _ q=>l.extBut _ _ u (j _ _ R (g.extBut _ _ u q)))
 |some x=>
  have hy:ys[ao]?=Y:=by rcases v with h|h;rw[hx]at h;cases h;exact h
  refine wB1 (lm (h1.to λo q=>g.extBut _ _ D.a3 q) (I.to λo q=>g.extBut _ _ r q) hx λN h12 j=>wP1 ?_);have k:IsPair N to a b:=j.extBut _ _ D.a8 (g.extBut _ _ D.a2 L);refine wB1 (wpAny_seqItems k O ?_);refine wB1 (wpAny_updateSeq_pair k λW V l=>?_);refine wB1 (wpAny_letGo (wP1 ?_));refine wB1 (wB1 (wpAny_onRaise ?_));show dj _ _ (Builtin.SmallTypes.nextOf (.ref p) >>= _) _ _ _
  refine wB1 (iY U (h2.to λo q=>l.extBut _ _ D.a9.symm (j.extBut _ _ D.a10.symm (g.extBut _ _ D.a4 q))) (K.to λo q=>l.extBut _ _ n2 (j.extBut _ _ C (g.extBut _ _ H q))) hy λg4 e ar au=>?_);obtain⟨P,d,f⟩:=au;have B:IsZip g4 z m to .ellipsis:=ar _ _ D.a4.symm (l.extBut _ _ D.a2.symm (j.extBut _ _ D.a3.symm i));have n:e≠z:=λq=>by subst q;rw[B]at d;cases d;simp at f
  refine wS1 B (by simp) λg5 _ S=>?_;refine wB1 (wpAny_isInstance (T:="StopIteration") (b:=M) ⟨P,S.extBut _ _ n d,f⟩ isSubtype_stop ?_);exact wP1 (wq g5 λc o u q2 R q4 q=>S.extBut _ _ u (ar _ _ q4 (l.extBut _ _ q2 (j.extBut _ _ R (g.extBut _ _ u q)))))
def zH(b1 b2:Bool)(h:dk)(l1 l2:da):dk:=((((h.push (fG b1 l1)).push (fG b2 l2)).push {cls:=.type "tuple",data:=.seq #[.ref h.objs.size,.ref (h.objs.size+1)]}).push {cls:=.type "tuple",data:=.seq #[.none,.none]}).push
 {cls:=.type "zip",data:=.fields #[.none,.bool J,.bool J,.ref (h.objs.size+2),.ref (h.objs.size+3)]}
theorem BW(a b:da)(xs ys:Array c8):Meets (Builtin.«zip.__new__» ⟨[.type "zip",.ref a,.ref b],[]⟩) (λ_ R s=>SCo b1 s.heap a xs/\SCo b2 s.heap b ys/\R (.ok (.ret (.ref (s.heap.objs.size+4)))) {s with heap:=zH b1 b2 s.heap a b}):=
 .of_wp λprog w A R s h=>by
  obtain⟨c,g,d,tk,e⟩:=s;obtain⟨j,i,h⟩:=h;have f:=sub_zip
  have l:SCo b1 (Shared.heap ⟨c,g,d,tk,e⟩) a xs:=j;have k:SCo b2 (Shared.heap ⟨c.push (fG b1 a),g,d,tk,e⟩) b ys:=i.to λo q=>hP1 _ q
  wp_walk using iF l,iF k
  refine⟨_,O,?_⟩;have m:(c.push (fG b1 a)).objs.size=c.objs.size+1:=hZ1 ..
  simp only[hZ1,zH]at h ⊢;exact h
theorem yF{b a:da}{xs ys:Array c8}{Q:c8->c9->Prop}(m:SCo b1 s.heap b xs)(i:SCo b2 s.heap a ys)(h:∀h',IsZip h' (s.heap.objs.size+4) (s.heap.objs.size+2) (s.heap.objs.size+3) .none->IsPair h' (s.heap.objs.size+2) (.ref s.heap.objs.size) (.ref (s.heap.objs.size+1))->IsPair h' (s.heap.objs.size+3) .none .none ->
   SIt b1 h' s.heap.objs.size b 0->SIt b2 h' (s.heap.objs.size+1) a 0->h'.objs.size=s.heap.objs.size+5->(∀c o,s.heap.get? c=Z o->h'.get? c=Z o)->Q (.ref (s.heap.objs.size+4)) {s with heap:=h'}):
  dj (model prog w) A (call (.type "zip") [.ref b,.ref a]) Q E s:=by
 refine callType_new F.called_zip (by decide) (F.typeCall_zip_2 _ _) (F.newCall_zip_2 _ _) (λd=>F.args_object_init_3 d _ _) F.entry_zip_new (BW (b1:=b1) (b2:=b2) b a xs ys) ⟨m,i,?_⟩;have up:∀{h:dk} {o:Obj} {c:da} {u:Obj},h.get? c=Z u->(h.push o).get? c=Z u:=λq=>hP1 _ q;have at_:∀{h:dk} {o:Obj} {n:Nat},h.objs.size=n->o.isFreed=J->(h.push o).get? n=Z o:=λe f=>by rw[<- e];exact hS1 _ f
 have r:(fG b1 b).isFreed=J:=by cases b1<;>rfl
 have t:(fG b2 a).isFreed=J:=by cases b2<;>rfl
 have k:(zH b1 b2 s.heap b a).get? s.heap.objs.size=Z (fG b1 b):=up (up (up (up (at_ O r))));have j:(zH b1 b2 s.heap b a).get? (s.heap.objs.size+1)=Z (fG b2 a):=up (up (up (at_ (by simp only[hZ1]) t)));have p:IsPair (zH b1 b2 s.heap b a) (s.heap.objs.size+2) (.ref s.heap.objs.size) (.ref (s.heap.objs.size+1)):=up (up (at_ (by simp only[hZ1]) O));have l:IsPair (zH b1 b2 s.heap b a) (s.heap.objs.size+3) .none .none:=up (at_ (by simp only[hZ1]) O);have g:IsZip (zH b1 b2 s.heap b a) (s.heap.objs.size+4) (s.heap.objs.size+2) (s.heap.objs.size+3) .none:=at_ (by simp only[hZ1]) O;exact⟨⟨_,g,O⟩,h _ g p l (qu k) (qu j) (by simp only[zH,hZ1]) λc o q=>up (up (up (up (up q))))⟩
end
def sv(K:Fg1)(b:Bool)(H:Hp)(a:da)(xs:List V):Prop:=match b with
 |true=>lP K H a xs
 |false=>jP K H a xs
section
variable{X:Cx}{ag:List (da×Obj)}{σ:L2.St}{H:Hp}{s:c9}
theorem eK{b:Bool}{a:da}{xs:List V}(I:Inv X ag σ H s)(h:sv X.K b H a xs):∃c:List c8,dY xs c/\SCo b s.heap a c.toArray/\xs.length<=di:=by
 cases b
 ·obtain⟨c,r,p,z⟩:=I.tuple h;exact⟨c,r,p,z⟩
 ·obtain⟨c,r,p,z⟩:=I.list h;exact⟨c,r,p.isList,z⟩
theorem m9{b:Bool}{a:da}{xs ys:List V}(I:Inv X ag σ H s)(h:sv X.K b H a xs)(h':sv X.K b H a ys):xs=ys:=by
 cases b
 ·exact I.tuple_inj h h'
 ·exact I.list_inj h h'
theorem qq{b:Bool}{a c:da}{xs:List V}(I:Inv X ag σ H s)(h:sv X.K b H a xs)(f:kb X ag H c):a≠c:=by
 rintro rfl;have d:∀{o},X.K.lookup a=Z o->False:=λ{o} e=>by
  have g:=I.ok.mod.kin _ _ e;rcases f.2.2.2.1 with z|z
  ·exact I.ok.noex _ _ g z
  ·exact absurd (nL1 (hL1 g) (aC I.ok.bsz z)) (az _)
 cases b
 ·rcases h with(h|⟨_,h⟩)|⟨_,_,_,h,_⟩
  ·rw[f.1]at h;cases h
  ·rw[f.1]at h;cases h
  ·exact d h
 ·rcases h with(h|⟨_,h⟩)|⟨_,_,_,h,_⟩
  ·rw[f.1]at h;cases h
  ·rw[f.1]at h;cases h
  ·exact d h
theorem tT(I:Inv X ag σ H s){fp:List da}(hf:∀ b∈fp,kb X ag H b){h':dk}{p:da}{xs:List V}{its:List c8}{t':Nat}(hp:s.heap.objs.size<=p)(f:∀ b o,b∉fp->s.heap.get? b=Z o->h'.get? b=Z o)(i:IsTup h' p its.toArray)(l:dY xs its)(hz:xs.length<=di):Inv X ag σ (upd H p (.tup xs)) {s with heap:=h',toks:=t'}:=by
 have d:H p=Y:=I.hok.fresh hp;have g:∀{b o},s.heap.get? b=Z o->b≠p:=λe=>nN1 (nL1 (hL1 e) hp);have h:∀{b u},H b=Z u->b∉fp:=λe z=>by rw[(hf _ z).1]at e;cases e
 refine I.step (g':=s.gens) (d':=s.drawn) (ch:=fp) (λb a=>⟨(hf b a).2.2.2.1,(hf b a).2.1,(hf b a).2.2.2.2.1,(hf b a).2.2.2.2.2⟩) (λb o _ _ hc e _=>f b o hc e) (λb o _ _ hc e _=>⟨o.slots,f b o hc e⟩) (λb o _ e n=>?_)
  (λb o hc e=>⟨o,f b o hc e⟩) (λb ys e=>?_) (λb o u e=>?_) (λb ps e=>⟨#[],?_⟩) (λm j=>?_) (λb u e=>?_) I.bare
 ·rw[dU (g e)];exact n
 ·rw[dU (d8 e d)];exact e
 ·rw[dU (d8 e d)];exact e
 ·rw[dU (d8 e d),e];simp
 ·obtain⟨o,es,ep,k,r⟩:=j;exact⟨o,es,ep,f _ o (λz=>(hf _ z).2.1 O) k,r⟩
 ·by_cases a:b=p
  ·subst a;rw[dX]at e;cases e;exact⟨hz,its,l,i⟩
  ·rw[dU a]at e;refine(I.hok b u e).stay (λc v hc q=>f c v ?_ q) (λc q=>by rw[dU (d8 q d)];exact q) λc ys q=>by rw[dU (d8 q d)];exact q
   rcases hc with z|z
   ·rw[z];exact h e
   ·exact h z
theorem oj(I:Inv X ag σ H s){fp:List da}(hf:∀b∈fp,kb X ag H b){h':dk}{t':Nat}(a:∀b o,b∉fp->s.heap.get? b=Z o->h'.get? b=Z o):Inv X ag σ H {s with heap:=h',toks:=t'}:=by
 have f:∀{b u},H b=Z u->b∉fp:=λe z=>by rw[(hf _ z).1]at e;cases e
 refine I.step (g':=s.gens) (d':=s.drawn) (ch:=fp) (λb d=>⟨(hf b d).2.2.2.1,(hf b d).2.1,(hf b d).2.2.2.2.1,(hf b d).2.2.2.2.2⟩) (λb o _ _ hc e _=>a b o hc e) (λb o _ _ hc e _=>⟨o.slots,a b o hc e⟩) (λb o _ e n=>n)
  (λb o hc e=>⟨o,a b o hc e⟩) (λb ys e=>e) (λb o u e=>e) (λb ps e=>⟨#[],by rw[e];simp⟩) (λm g=>?_) (λb u e=>?_) I.bare
 ·obtain⟨o,es,ep,h,r⟩:=g;exact⟨o,es,ep,a _ o (λz=>(hf _ z).2.1 O) h,r⟩
 ·refine(I.hok b u e).stay (λc v hc q=>a c v ?_ q) (λc q=>q) λc ys q=>q;rcases hc with z|z
  ·rw[z];exact f e
  ·exact f z
end
theorem sK:(2:Nat)<=di:=by decide
def LX(K:Fg1)(b:Bool)(a:da):It:=
 ⟨λi H=>∃xs x,sv K b H a xs/\xs[i]?=Z x,λi H x H'=>∃p v,H p=Y/\x = .ref p/\H'=upd H p (.tup [.int i,v]) /\ ∀xs,sv K b H a xs->xs[i]?=Z v,λi H=>∃xs,sv K b H a xs/\xs.length<=i⟩
theorem xp{P:db}{w:df}{K:Fg1}{elts:List Expr}{k:Nat}{pos:Pos}(b:Bool)(a e it:da)(ne:e≠it):vD P w K (.Tuple elts k pos) (LX K b a) [e,it] e (λi h=>(∃old,IsEnum h e it (i:Nat) old)/\SIt b h it a i) where
 mem:=by simp
 obj:=by
  rintro i h ⟨⟨old,st⟩,G⟩ c hc;rcases aE.mp hc with z|z
  ·subst z;exact⟨_,st,λv q=>by cases q⟩
  ·have z':c=it:=by simpa using z
   subst z';exact G.rec_
 keep:=λi h h' ⟨⟨old,st⟩,G⟩ Q=>⟨⟨old,Q e (by simp) _ st⟩,G.to λo q=>Q it (by simp) o q⟩
 item:=by
  intro X C D n hc i ag s σ H E I g st t;subst C D n;obtain⟨⟨old,m⟩,j⟩:=st;obtain⟨xs,x,l,r⟩:=t;obtain⟨p,B,co,T⟩:=eK I l;obtain⟨u,wq,R⟩:=B.get r;refine yf m j co (x:=u) (by simpa using wq) ne λh1 F L A hz1 ao=>?_;refine⟨.ref s.heap.objs.size,O,?_⟩;refine wpAny_letOwnedTupleGo_enum F λh2 y d=>?_;have N:s.heap.objs.size≠e:=nG1 (hL1 m);have aq:∀c o,c∉[e,it]->s.heap.get? c=Z o->h2.get? c=Z o:=λc o hc q=>by
   have f:c≠e:=λz=>hc (by simp[z]);have ar:c≠it:=λz=>hc (by simp[z]);exact d.extBut _ _ f (ao c o f ar q)
  have W:IsTup h2 s.heap.objs.size [.int (i:Nat) s.toks,u].toArray:=⟨_,d.extBut _ _ N A,O,_,O⟩;have I2:=tT I g (t':=s.toks+1) (nR1 _) aq W (xs:=[.int i,x]) (.cons ⟨_,O⟩ (.cons R .nil)) sK;have U:H s.heap.objs.size=Y:=I.hok.fresh (nR1 _);refine⟨.ref s.heap.objs.size,_,I2,O,⟨_,x,U,O,O,λys V=>by rw[m9 I V l];exact r⟩,⟨⟨u,?_⟩,L.to λo q=>d.extBut _ _ (Ne.symm ne) q⟩,λc hc=>?_⟩
  ·have:((i+1:Nat):Int)=(i:Int)+1:=by push_cast;rfl
   rw[this];exact y
  ·have f:c≠s.heap.objs.size:=fun z=>by
    rcases aE.mp hc with q|q
    ·exact N (z.symm.trans q)
    ·have S:c=it:=by simpa using q
     obtain⟨o,au,_⟩:=j.rec_;rw[<- S,z]at au;exact az _ (hL1 au)
   rw[dU f];exact(g c hc).1
 done:=by
  intro X C D n hc i ag s σ H E I g st t;subst C D n;obtain⟨⟨old,m⟩,j⟩:=st;obtain⟨xs,l,r⟩:=t;obtain⟨p,B,co,T⟩:=eK I l;have hl:=B.length;refine Bb (I.ok.hd hc) m j co (by simp;lia) λh' eb=>⟨O,oj I (t':=s.toks) g λc o hc q=>eb c o (λz=>hc (by simp[z])) q⟩
 self:=λ_ _ _ _ _ ⟨⟨_,st⟩,_⟩ h=>pU st h
def LU(K:Fg1)(b1 b2:Bool)(a1 a2:da):It:=
 ⟨λi H=>∃xs ys x y,sv K b1 H a1 xs/\sv K b2 H a2 ys/\xs[i]?=Z x/\ys[i]?=Z y,λi H x H'=>∃p v u,H p=Y/\x = .ref p/\H'=upd H p (.tup [v,u])/\(∀xs,sv K b1 H a1 xs->xs[i]?=Z v) /\ ∀ys,sv K b2 H a2 ys->ys[i]?=Z u,
  λi H=>∃xs ys,sv K b1 H a1 xs/\sv K b2 H a2 ys/\(xs.length<=i\/ys.length<=i)⟩
theorem y7{P:db}{w:df}{K:Fg1}{elts:List Expr}{k:Nat}{pos:Pos}(b1 b2:Bool)(a1 a2 z r to n m:da)(D:Lr z r to n m):vD P w K (.Tuple elts k pos) (LU K b1 b2 a1 a2) [z,r,to,n,m] z
  (λi h=>IsZip h z r to .none/\IsPair h r (.ref n) (.ref m)/\(∃u v,IsPair h to u v)/\SIt b1 h n a1 i/\SIt b2 h m a2 i) where
 mem:=by simp
 obj:=by
  rintro i h ⟨f,b,⟨u,v,l⟩,d,j⟩ c hc;simp only[aE,bK,or_false]at hc;rcases hc with rfl|rfl|rfl|rfl|rfl
  ·exact⟨_,f,λv q=>by cases q⟩
  ·exact⟨_,b,λv q=>by cases q⟩
  ·exact⟨_,l,λv q=>by cases q⟩
  ·exact d.rec_
  ·exact j.rec_
 keep:=λi h h' ⟨f,b,⟨u,v,l⟩,d,j⟩ ao=>⟨ao z (by simp) _ f,ao r (by simp) _ b,⟨u,v,ao to (by simp) _ l⟩,d.to λo q=>ao n (by simp) o q,j.to λo q=>ao m (by simp) o q⟩
 item:=by
  intro X T U aq hc i ag s σ H E I g st au;subst T U aq;obtain⟨f,b,⟨u0,v0,l⟩,d,j⟩:=st;obtain⟨xs,ys,x,y,C,B,ex,wq⟩:=au;obtain⟨N,R,co,hz⟩:=eK I C;obtain⟨F,A,t,Q⟩:=eK I B;obtain⟨u,hu,ru⟩:=R.get ex;obtain⟨S,W,L⟩:=A.get wq;refine yE D f b l (qq I C (g to (by simp))) (qq I B (g to (by simp))) d j co t (x:=u) (y:=S) (by simpa using hu) (by simpa using W) λh1 p1 p2 p3 p4 p5 p6 G=>?_;refine⟨.ref s.heap.objs.size,O,?_⟩;refine wpAny_letOwnedTupleGo_zip p1 λh2 z2 a=>?_;have lt:∀c∈[z,r,to,n,m],c≠s.heap.objs.size:=λc hc e=>by
   obtain⟨o,eo⟩:∃o,s.heap.get? c=some o:=by
    simp only[aE,bK,or_false]at hc;rcases hc with rfl|rfl|rfl|rfl|rfl
    ·exact⟨_,f⟩
    ·exact⟨_,b⟩
    ·exact⟨_,l⟩
    ·obtain⟨o,e,_⟩:=d.rec_;exact⟨o,e⟩
    ·obtain⟨o,e,_⟩:=j.rec_;exact⟨o,e⟩
   rw[e]at eo;exact az _ (hL1 eo)
  have ar:∀c o,c∉[z,r,to,n,m]->s.heap.get? c=Z o->h2.get? c=Z o:=λc o hc q=>by
   simp only[aE,bK,or_false,not_or]at hc;exact a.extBut _ _ hc.1 (G c o hc.1 hc.2.2.1 hc.2.2.2.1 hc.2.2.2.2 q)
  have tp:IsTup h2 s.heap.objs.size [u,S].toArray:=⟨_,a.extBut _ _ (Ne.symm (lt z (by simp))) p5,O,_,O⟩;have I2:=tT I g (t':=s.toks) (nR1 _) ar tp (xs:=[x,y]) (.cons ru (.cons L .nil)) sK;have hn:H s.heap.objs.size=Y:=I.hok.fresh (nR1 _);refine⟨.ref s.heap.objs.size,_,I2,O,⟨_,x,y,hn,O,O,λV p=>by rw[m9 I p C];exact ex,λV p=>by rw[m9 I p B];exact wq⟩,
   ⟨z2,a.extBut _ _ D.a1 (G _ _ D.a1 D.a5 D.a6 D.a7 b),⟨u,S,a.extBut _ _ D.a2 p2⟩,p3.to λo q=>a.extBut _ _ D.a3 q,p4.to λo q=>a.extBut _ _ D.a4 q⟩,λc hc=>?_⟩
  rw[dU (lt c hc)];exact(g c hc).1
 done:=by
  intro X T U aq hc i ag s σ H E I g st au;subst T U aq;obtain⟨f,b,⟨u0,v0,l⟩,d,j⟩:=st;obtain⟨xs,ys,C,B,hl⟩:=au;obtain⟨N,R,co,hz⟩:=eK I C;obtain⟨F,A,t,Q⟩:=eK I B;have l1:=R.length;have l2:=A.length;refine BY (I.ok.hd hc) D f b l (qq I C (g to (by simp))) (qq I B (g to (by simp))) d j co t (by simp;lia) λh' eb=>⟨O,oj I (t':=s.toks) g λc o hc q=>?_⟩;simp only[aE,bK,or_false,not_or]at hc;exact eb c o hc.1 hc.2.2.1 hc.2.2.2.1 hc.2.2.2.2 q
 self:=λ_ _ _ _ _ ⟨st,_⟩ h=>wpAny_pyIter_zip st h
section
variable{X:Cx}{elts:List Expr}{k:Nat}{tpos:Pos}
def JD(K:Fg1)(ta:TA):TI:=fun σ H R=>ta σ H λvs H1=>∃a b,vs=[.ref a]/\(∃xs,sv K b H1 a xs)/\R (LX K b a) H1
theorem CK {a:Expr}{ta:TA}{p pos:Pos}(hg:Gl X "enumerate")(hm:X.mg "enumerate"=Y)(ha:PA X [a] ta)(hs:dh [a] X.env=[(J,eval a X.env)]):PI X (.Tuple elts k tpos) (.Call (.Name "enumerate" p) [a] [] pos) (JD X.K ta):=by
 intro ag s σ H R I h;refine Call_ (jD I hg hm boot_enumerate (PyProof.Rows.callWith_type1 (eY (ha pos ag s σ H _ I h) λA f ⟨vs,H1,g,x,j⟩=>?_) hs O));obtain⟨c,b,e,⟨xs,n⟩,q⟩:=j;subst e;cases x with
 |cons r t=>
  cases t;cases r;obtain⟨y,C,co,B⟩:=eK g n;refine yg co λh' i l v u=>pU i ?_;have w:Inv X ag σ H1 {f with heap:=h'}:=g.kept (t':=f.toks) u;refine⟨f.heap.objs.size+1,[f.heap.objs.size+1,f.heap.objs.size],_,_,H1,O,w,xp b c _ _ (Nat.succ_ne_self _),⟨⟨.none,i⟩,l⟩,λd o=>?_,q⟩;rcases aE.mp o with z|z
  ·subst z;exact g.fpOk (aX _) (g.hok.fresh (aX _))
  ·have m:d=f.heap.objs.size:=by simpa using z
   subst m;exact g.fpOk (nR1 _) (g.hok.fresh (nR1 _))
def K8(K:Fg1)(ta:TA):TI:=fun σ H R=>ta σ H λvs H1=>∃a1 b1 a2 b2,vs=[.ref a1,.ref a2]/\(∃xs,sv K b1 H1 a1 xs)/\(∃xs,sv K b2 H1 a2 xs)/\R (LU K b1 b2 a1 a2) H1
theorem FQ {a b:Expr}{ta:TA}{p pos:Pos}(hg:Gl X "zip")(hm:X.mg "zip"=none)(ha:PA X [a,b] ta)(hs:dh [a,b] X.env=[(false,eval a X.env),(false,eval b X.env)])(hs2:dh [b] X.env=[(false,eval b X.env)]):
  PI X (.Tuple elts k tpos) (.Call (.Name "zip" p) [a,b] [] pos) (K8 X.K ta):=by
 intro ag s σ H R I h;refine Call_ (jD I hg hm boot_zip (PyProof.Rows.callWith_type1 (eY (ha pos ag s σ H _ I h) λaq c ⟨vs,H1,g,C,w⟩=>?_) (by rw[hs,hs2]) (by rw[hs2];rfl)));obtain⟨t,b1,x,b2,e,⟨xs,y⟩,⟨ys,u⟩,q⟩:=w;subst e;cases C with
 |cons r i=>
  cases i with
  |cons o i=>
   cases i;cases r;cases o;obtain⟨v,N,co,L⟩:=eK g y;obtain⟨l,G,j,A⟩:=eK g u;refine yF co j λh' n E D K F P ao=>wpAny_pyIter_zip n ?_;have B:Inv X ag σ H1 {c with heap:=h'}:=g.kept (t':=c.toks) ao;refine⟨c.heap.objs.size+4,[c.heap.objs.size+4,c.heap.objs.size+2,c.heap.objs.size+3,c.heap.objs.size,c.heap.objs.size+1],_,_,H1,O,B,y7 b1 b2 t x _ _ _ _ _ ?_,⟨n,E,⟨_,_,D⟩,K,F⟩,λd m=>?_,q⟩
   ·constructor<;>(intro z;have au:((_:Nat)=_):=z;lia)
   ·have f:c.heap.objs.size<=d:=by
     simp only[aE,bK,or_false]at m;rcases m with rfl|rfl|rfl|rfl|rfl
     ·exact br _ _
     ·exact br _ _
     ·exact br _ _
     ·exact nR1 _
     ·exact br _ _
    exact g.fpOk f (g.hok.fresh f)
end
noncomputable def dP (S:Sto):D->Option (Bool×List D)
 | .tup xs=>some (false,xs)
 | .rol xs=>some (true,xs)
 | .ref n=>match S[n]? with
  |some (.lst xs)=>some (true,xs)
  |_=>none
 |_=>none
def jK(S:Sto):D->List (Nat×List D)
 | .ref n=>match S[n]? with
  |some (.lst xs)=>[(n,xs)]
  |_=>[]
 |_=>[]
section
variable{K:Fg1}{H:Hp}{mu:List da}{S:Sto}
theorem dI{d:D}{v:V}{b:Bool}{xs:List D}(r:eX K H mu d v)(s:Sim K H mu S)(h:dP S d=Z (b,xs)):∃a vs,v = .ref a/\sv K b H a vs/\dJ K H mu xs vs:=by
 cases d with
 |tup ys=>cases h;cases r with|tup q t=>exact⟨_,_,rfl,q,t⟩
 |rol ys=>cases h;cases r with|rol q t=>exact⟨_,_,rfl,q.sq,t⟩
 |ref n=>
  rw[dP]at h;split at h
  ·rename_i ys e;cases h;cases r with
   |ref q=>
    obtain⟨vs,f,c⟩:=s.lst e q;exact⟨_,vs,O,lP.of f,c⟩
  ·cases h
 |_=>cases h
theorem iG{d:D}{a:da}{b:Bool}{xs:List D}(r:eX K H mu d (.ref a))(s:Sim K H mu S)(h:dP S d=some (b,xs)){H1:Hp}{mu1:List da}{S1:Sto}(x:sD mu mu1 H H1)(c:Sim K H1 mu1 S1)(ok:pc S1 (jK S d)=true):
  ∃vs,sv K b H1 a vs/\dJ K H1 mu1 xs vs:=by
 have g:=r.exw x;have h1:dP S1 d=Z (b,xs):=by
  cases d with
  |ref n=>
   rw[dP]at h;split at h
   ·rename_i ys e;cases h;rw[jK,e]at ok;dsimp only[pc]at ok;rw[bL]at ok;rw[dP];split at ok
    ·rename_i zs f
     first|rw[f,D.sames_eq ok] | rw[D.sames_eq ok]
    ·cases ok
   ·cases h
  |_=>exact h
 obtain⟨i,vs,e,q,t⟩:=dI g c h1;cases e;exact⟨vs,q,t⟩
end
noncomputable def gU (m:FE):FI:=λr S=>(m r S).bind λp=>(dP p.2 p.1).bind λq=>some (⟨q.2,jK p.2 p.1⟩,p.2)
def sC:Nat->List D->List D
 |_,[]=>[]
 |n,d::ds=>.tup [.int n,d]::sC (n+1) ds
noncomputable def om (m:FA):FI:=λr S=>(m r S).bind λp=>match p.1 with
 |[d]=>(dP p.2 d).bind λq=>some (⟨sC 0 q.2,jK p.2 d⟩,p.2)
 |_=>none
def uD:List D->List D->List D
 |x::xs,y::ys=>.tup [x,y]::uD xs ys
 |_,_=>[]
def Jz(m:FA):FI:=λr S=>(m r S).bind λp=>match p.1 with
 |[d,e]=>(dP p.2 d).bind λq=>(dP p.2 e).bind λt=>Z (⟨uD q.2 t.2,jK p.2 d++jK p.2 e⟩,p.2)
 |_=>Y
def gH(lo:Int):Nat->List D
 |0=>[]
 |n+1=>.int lo::gH (lo+1) n
noncomputable def sA (m:FA):FI:=λr S=>(m r S).bind λp=>match p.1 with
 |[.int j]=>if-(2^62)<=j/\j<2^62 then some (⟨gH 0 j.toNat,[]⟩,p.2)else none
 |_=>none
def HU(m:FA):FI:=λr S=>(m r S).bind λp=>match p.1 with
 |[.int i,.int j]=>if-(2^62)<=i/\i<2^62 /\ -(2^62)<=j/\j<2^62 then Z (⟨gH i (j-i).toNat,[]⟩,p.2)else Y
 |_=>Y
theorem fV:∀(ds:List D) (n i:Nat),(sC n ds)[i]?=(ds[i]?).map λd=>.tup [.int ((n+i:Nat):Int),d]
 |[],n,i=>by simp[sC]
 |d::ds,n,0=>by simp[sC]
 |d::ds,n,i+1=>by
  rw[sC,gC1,fV ds (n+1) i,gC1];rw[show n+1+i=n+(i+1) by lia]
theorem fU:∀(ds:List D) (n:Nat),(sC n ds).length=ds.length
 |[],_=>rfl
 |d::ds,n=>by rw[sC,lC1,fU ds,lC1]
theorem vI:∀(xs ys:List D) (i:Nat) (d:D),(uD xs ys)[i]?=Z d -> ∃x y,xs[i]?=Z x/\ys[i]?=Z y/\d = .tup [x,y]
 |[],_,i,d,h=>by simp[uD]at h
 |_::_,[],i,d,h=>by simp[uD]at h
 |x::xs,y::ys,0,d,h=>by simp[uD]at h;exact⟨x,y,O,O,h.symm⟩
 |x::xs,y::ys,i+1,d,h=>by
  rw[uD,gC1]at h;obtain⟨a,e,c,f,b⟩:=vI xs ys i d h;exact⟨a,e,by simpa using c,by simpa using f,b⟩
theorem vH:∀(xs ys:List D) (i:Nat),(uD xs ys).length<=i->xs.length<=i\/ys.length<=i
 |[],_,i,_=>.inl (bh _)
 |_::_,[],i,_=>.inr (bh _)
 |x::xs,y::ys,0,h=>by simp[uD]at h
 |x::xs,y::ys,i+1,h=>by
  rcases vH xs ys i (by simpa[uD]using h)with q|q
  ·exact .inl (by simpa using q)
  ·exact .inr (by simpa using q)
theorem tz:∀(n:Nat) (lo:Int) (i:Nat) (d:D),(gH lo n)[i]?=Z d->i<n/\d = .int (lo+i)
 |0,lo,i,d,h=>by simp[gH]at h
 |n+1,lo,0,d,h=>by simp[gH]at h;exact⟨bM _,by rw[<- h];simp⟩
 |n+1,lo,i+1,d,h=>by
  rw[gH,gC1]at h;obtain⟨h1,h2⟩:=tz n (lo+1) i d h;refine⟨Nat.succ_lt_succ h1,?_⟩;rw[h2,show lo+1+(i:Int)=lo+((i+1:Nat):Int) by push_cast;lia]
theorem eT:∀(n:Nat) (lo:Int),(gH lo n).length=n
 |0,_=>rfl
 |n+1,lo=>by rw[gH,lC1,eT n]
theorem wm{S:Sto}:∀{c c':List (Nat×List D)},pc S (c++c')=M->pc S c=M/\pc S c'=M
 |[],_,h=>⟨O,h⟩
 |(n,xs)::c,c',h=>by
  rw[bi,pc,bA1]at h;obtain⟨h1,h2⟩:=wm h.2;exact⟨by rw[pc,bA1];exact⟨h.1,h1⟩,h2⟩
section
variable{X:Cx}{tg:Expr}
theorem tR(K:Fg1)(lo:Int)(n:Nat)(mu:List da)(H:Hp):Ly K (Kb lo n) ⟨gH lo n,[]⟩ mu H:=by
 intro i H1 mu1 e x s ok;refine⟨λd c=>?_,λh=>by rw[eT]at h;exact h⟩;obtain⟨h1,h2⟩:=tz n lo i d c;refine⟨h1,λy H2 ⟨b,a⟩=>?_⟩;subst b;subst a;subst h2;exact⟨.refl _ _,s,.int _⟩
theorem Gz{e:Expr}{m:FE}(h:ME X e m):MI X tg e (gU m):=nU (IK (CH h) (FR h)) <| by
 rintro σ H R ⟨r,mu,S,ao,I,D,C,l,hc⟩;obtain⟨⟨d,G⟩,B,l⟩:=oB1.mp l;obtain⟨⟨b,xs⟩,o,l⟩:=oB1.mp l;cases l;cases b with
 |true=>
  left;refine⟨r,mu,S,d,_,D,C,B,λv H1 mu1 x k f=>?_⟩;obtain⟨a,vs,rfl,q,t⟩:=dI k f o;refine⟨a,O,⟨vs,q⟩,hc _ H1 mu1 x (λi H2 p F x2 j ok=>?_) f⟩;obtain⟨ws,c,g⟩:=iG k f o x2 j ok;refine⟨λd z=>?_,λu=>⟨ws,c,by rw[<- g.length];exact u⟩⟩;obtain⟨v,n,w⟩:=g.get z;refine⟨⟨ws,v,c,n⟩,λy E ⟨A,s⟩=>?_⟩;subst A;have:=s ws c;rw[n]at this;cases this;exact⟨.refl _ _,j,w⟩
 |false=>
  right;refine⟨r,mu,S,d,_,D,C,B,λv H1 mu1 x k f=>?_⟩;obtain⟨a,vs,rfl,q,t⟩:=dI k f o;refine⟨a,O,⟨vs,q⟩,hc _ H1 mu1 x (λi H2 p F x2 j ok=>?_) f⟩;obtain⟨ws,c,g⟩:=iG k f o x2 j ok;refine⟨λd z=>?_,λu=>⟨ws,c,by rw[<- g.length];exact u⟩⟩;obtain⟨v,n,w⟩:=g.get z;refine⟨⟨ws,v,c,n⟩,λy E ⟨A,s⟩=>?_⟩;subst A;have:=s ws c;rw[n]at this;cases this;exact⟨.refl _ _,j,w⟩
theorem la{K:Fg1}{H:Hp}{mu:List da}{d:D}{vs:List V}(r:dJ K H mu [d] vs):∃v,vs=[v]/\eX K H mu d v:=by
 cases r with|cons r t=>cases t;exact⟨_,O,r⟩
theorem sQ{K:Fg1}{H:Hp}{mu:List da}{d e:D}{vs:List V}(r:dJ K H mu [d,e] vs):∃v u,vs=[v,u]/\eX K H mu d v/\eX K H mu e u:=by
 cases r with|cons r t=>cases t with|cons q t=>cases t;exact⟨_,_,O,r,q⟩
theorem xO {a:Expr}{m:FA}{p pos:Pos}(hg:Gl X "range")(hm:X.mg "range"=Y)(ha:MA X [a] m)(hs:dh [a] X.env=[(J,eval a X.env)]):MI X tg (.Call (.Name "range" p) [a] [] pos) (sA m):=
 nU (xK hg hm ha hs) <| by
  rintro σ H R ⟨r,mu,S,ao,k,f,hs,hm,hc⟩;obtain⟨⟨ds,i⟩,d,hm⟩:=oB1.mp hm;dsimp only at hm;split at hm
  ·rename_i j;split at hm
   ·rename_i b;cases hm;refine⟨r,mu,S,_,_,f,hs,d,λvs H1 mu1 c h e=>?_⟩;obtain⟨v,rfl,g⟩:=la h;cases g;exact⟨j,O,b.1,b.2,hc _ H1 mu1 c (tR _ _ _ _ _) e⟩
   ·cases hm
  ·cases hm
theorem xN {a b:Expr}{m:FA}{p pos:Pos}(hg:Gl X "range")(hm:X.mg "range"=Y)(ha:MA X [a,b] m)(hs:dh [a,b] X.env=[(J,eval a X.env),(J,eval b X.env)])(hs2:dh [b] X.env=[(J,eval b X.env)]):MI X tg (.Call (.Name "range" p) [a,b] [] pos) (HU m):=
 nU (xJ hg hm ha hs hs2) <| by
  rintro σ H R ⟨r,mu,S,ao,o,g,hs,hm,hc⟩;obtain⟨⟨ds,n⟩,d,hm⟩:=oB1.mp hm;dsimp only at hm;split at hm
  ·rename_i i j;split at hm
   ·rename_i k;cases hm;refine⟨r,mu,S,_,_,g,hs,d,λvs H1 mu1 c l f=>?_⟩;obtain⟨v,u,rfl,h,e⟩:=sQ l;cases h;cases e;exact⟨i,j,O,k,hc _ H1 mu1 c (tR _ _ _ _ _) f⟩
   ·cases hm
  ·cases hm
variable{elts:List Expr}{k:Nat}{tpos:Pos}
theorem Da {a:Expr}{m:FA}{p pos:Pos}(hg:Gl X "enumerate")(hm:X.mg "enumerate"=Y)(ha:MA X [a] m)(hs:dh [a] X.env=[(J,eval a X.env)]):MI X (.Tuple elts k tpos) (.Call (.Name "enumerate" p) [a] [] pos) (om m):=
 nU (CK hg hm ha hs) <| by
  rintro σ H R ⟨r,mu,S,ao,N,E,hs,hm,hc⟩;obtain⟨⟨ds,G⟩,w,hm⟩:=oB1.mp hm;dsimp only at hm;split at hm
  ·rename_i d;obtain⟨⟨b,xs⟩,u,hm⟩:=oB1.mp hm;cases hm;refine⟨r,mu,S,_,_,E,hs,w,λvs H1 mu1 D B h=>?_⟩;obtain⟨v,rfl,n⟩:=la B;obtain⟨a,vs,rfl,q,t⟩:=dI n h u;refine⟨a,b,O,⟨vs,q⟩,hc _ H1 mu1 D (λi H2 z aq x2 o ok=>?_) h⟩;obtain⟨ws,f,j⟩:=iG n h u x2 o ok;refine⟨λd c=>?_,λl=>⟨ws,f,by rw[fU]at l;rw[<- j.length];exact l⟩⟩;rw[fV]at c;obtain⟨K,x,c⟩:=oM1.mp c;obtain⟨v,s,g⟩:=j.get x;refine⟨⟨ws,v,f,s⟩,λy L ⟨p,I,e,F,A,C⟩=>?_⟩;have:=C ws f;rw[s]at this;cases this;subst F;subst A;subst c;rw[bN];exact⟨Ext.fresh e,o.fresh e,.tup (jP.of dX) (.cons (.int _) (.cons (g.ext (Ext.fresh e)) .nil))⟩
  ·cases hm
theorem Gy {a b:Expr}{m:FA}{p pos:Pos}(hg:Gl X "zip")(hm:X.mg "zip"=Y)(ha:MA X [a,b] m)(hs:dh [a,b] X.env=[(J,eval a X.env),(J,eval b X.env)])(hs2:dh [b] X.env=[(J,eval b X.env)]):MI X (.Tuple elts k tpos) (.Call (.Name "zip" p) [a,b] [] pos) (Jz m):=
 nU (FQ hg hm ha hs hs2) <| by
  rintro σ H R ⟨r,mu,S,ao,S',he,hs,hm,hc⟩;obtain⟨⟨ds,S1⟩,aq,hm⟩:=oB1.mp hm;dsimp only at hm;split at hm
  ·rename_i d e;obtain⟨⟨b1,xs⟩,K,hm⟩:=oB1.mp hm;obtain⟨⟨b2,ys⟩,B,hm⟩:=oB1.mp hm;cases hm;refine⟨r,mu,S,_,_,he,hs,aq,λvs H1 mu1 ar V f=>?_⟩;obtain⟨v,u,rfl,E,A⟩:=sQ V;obtain⟨a1,q,rfl,Q,t1⟩:=dI E f K;obtain⟨a2,t,rfl,P,t2⟩:=dI A f B;refine⟨a1,b1,a2,b2,O,⟨q,Q⟩,⟨t,P⟩,hc _ H1 mu1 ar (λi H2 N S2 x2 n ok=>?_) f⟩;obtain⟨h,s⟩:=wm ok;obtain⟨ws,w,D⟩:=iG E f K x2 n h;obtain⟨c,j,G⟩:=iG A f B x2 n s;refine⟨λd wq=>?_,λU=>⟨ws,c,w,j,?_⟩⟩
   ·obtain⟨x',y',ex,au,rfl⟩:=vI xs ys i d wq;obtain⟨v,I,l⟩:=D.get ex;obtain⟨u,F,o⟩:=G.get au;refine⟨⟨ws,c,v,u,w,j,I,F⟩,λy H3 ⟨p,v',u',g,z1,T,W,L⟩=>?_⟩;have x:=W ws w;have C:=L c j;rw[I]at x;cases x;rw[F]at C;cases C;subst z1;subst T;exact⟨Ext.fresh g,n.fresh g,.tup (jP.of dX) (.cons (l.ext (Ext.fresh g)) (.cons (o.ext (Ext.fresh g)) .nil))⟩
   ·rcases vH xs ys i U with z|z
    ·exact .inl (by rw[<- D.length];exact z)
    ·exact .inr (by rw[<- G.length];exact z)
  ·cases hm
end
abbrev G1:=D->Sto->Option (D×Sto)
abbrev G2:=D->D->Sto->Option (D×Sto)
abbrev G3:=D->D->D->Sto->Option (D×Sto)
noncomputable def b1 (f:G1):FN:=λds S=>match ds with
 |[a]=>f a S
 |_=>none
noncomputable def b2 (f:G2):FN:=λds S=>match ds with
 |[a,b]=>f a b S
 |_=>none
noncomputable def b3 (f:G3):FN:=λds S=>match ds with
 |[a,b,c]=>f a b c S
 |_=>none
section
variable{X:Cx}{K:Fg1}{H:Hp}{Q:VK}
theorem uz{f:G2}{x y:V}(h:rN K (b2 f) [x,y] H Q):∃mu S d e r a,eX K H mu d x/\eX K H mu e y/\Sim K H mu S/\f d e S=Z (r,a)/\sy K mu H r a Q:=by
 obtain⟨mu,S,ds,r,a,b,g,c,hc⟩:=h;cases b with
 |cons q t=>cases t with
  |cons i t=>cases t;exact⟨mu,S,_,_,r,a,q,i,g,c,hc⟩
theorem wd{f:G1}{xs:List V}(h:rN K (b1 f) xs H Q):∃x mu S d r a,xs=[x]/\eX K H mu d x/\Sim K H mu S/\f d S=Z (r,a)/\sy K mu H r a Q:=by
 obtain⟨mu,S,ds,r,a,c,e,b,hc⟩:=h;cases c with
 |nil=>cases b
 |cons q t=>cases t with
  |nil=>exact⟨_,mu,S,_,r,a,O,q,e,b,hc⟩
  |cons g t=>cases b
theorem zE{f:G2}{xs:List V}(h:rN K (b2 f) xs H Q):∃x y mu S d e r b,xs=[x,y]/\eX K H mu d x/\eX K H mu e y/\Sim K H mu S/\f d e S=Z (r,b)/\sy K mu H r b Q:=by
 obtain⟨mu,S,ds,r,b,c,g,a,hc⟩:=h;cases c with
 |nil=>cases a
 |cons q t=>cases t with
  |nil=>cases a
  |cons i t=>cases t with
   |nil=>exact⟨_,_,mu,S,_,_,r,b,O,q,i,g,a,hc⟩
   |cons j t=>cases a
theorem sy.now{mu:List da}{S:Sto}{d:D}{v:V}(c:sy K mu H d S Q)(r:eX K H mu d v)(s:Sim K H mu S):Q v H:=c v H mu (.refl _ _) r s
end
def eW(i j:Int):Bool:=(decide (-(2^64)<i)&&decide (i<2^64))||(decide (-(2^64)<j)&&decide (j<2^64))||(decide (i.natAbs<2^1000)&&decide (j.natAbs<2^1000))
def eu:G2:=λd e S=>match d,e with
 | .int i,.int j=>Z (.int (i+j),S)
 | .tup xs,.tup ys=>if xs.length+ys.length<=di then Z (.tup (xs++ys),S)else Y
 | .str x,.str y=>if x.length+y.length<=di then Z (.str (x++y),S)else Y
 | .ref a,.ref b=>match S[a]?,S[b]? with
  |some (.lst xs),Z (.lst ys)=>if xs.length+ys.length<=di then Z (.ref S.length,S++[.lst (xs++ys)])else Y
  |_,_=>Y
 |_,_=>Y
def gSub:G2:=λd e S=>match d,e with
 | .int i,.int j=>Z (.int (i-j),S)
 |_,_=>Y
def j8:G2:=λd e S=>match d,e with
 | .int i,.int j=>if eW i j=M then Z (.int (i*j),S)else Y
 |_,_=>Y
def lA:G2:=λd e S=>match d,e with
 | .int i,.int j=>if 0<j then Z (.int (i%j),S)else Y
 |_,_=>Y
def rM:G2:=λd e S=>match d,e with
 | .int i,.int j=>if 0<j/\j<1073741824 then Z (.int (i/j),S)else Y
 |_,_=>Y
def oo:G2:=λd e S=>match d,e with
 | .int i,.int j=>if 0<=j/\j<=1000000/\i.natAbs<2^64 then Z (.int (i^j.toNat),S)else Y
 |_,_=>Y
def ot:G1:=λd S=>match d with
 | .int i=>Z (.int (-i),S)
 |_=>Y
section
variable{X:Cx}
theorem u5{i j:Int}(h:eW i j=M):IntMulOk i j:=by
 unfold eW at h;simp only[Bool.or_eq_true,bA1,am]at h;rcases h with(⟨h1,h2⟩|⟨h1,h2⟩)|⟨h1,h2⟩
 ·exact .of_left (intBits_le_64 h1 h2)
 ·exact .of_right (intBits_le_64 h1 h2)
 ·exact .of_bits (aC (intBits_le h1) (by decide)) (aC (intBits_le h2) (by decide))
theorem nb{f:c8->c8->Sem c8}{g:G2}{c:Int->Int->Prop}{v:Int->Int->D}(hg:∀ d e S r a,g d e S=Z (r,a) -> ∃ i j,d = .int i/\e = .int j/\c i j/\r=v i j/\a=S){b:Int->Int->V}(hv:∀i j K H mu,eX K H mu (v i j) (b i j))(ho:gg X f (rI c b)):gg X f (r2 X.K (b2 g)):=by
 intro ag s σ H x y u w Q I l o h;obtain⟨mu,S,d,e,r,a,p,r2,n,m,hc⟩:=uz h;obtain⟨i,j,rfl,rfl,k,rfl,rfl⟩:=hg d e S r a m;cases p;cases r2;exact ho ag s σ H _ _ u w Q I l o ⟨i,j,O,O,k,hc.now (hv i j _ _ _) n⟩
theorem lg{f:c8->c8->Sem c8}{g:G2}{v:Int->Int->D}(hg:∀ d e S r a,g d e S=Z (r,a) -> ∃ i j,d = .int i/\e = .int j/\r=v i j/\a=S){b:Int->Int->V}(hv:∀i j K H mu,eX K H mu (v i j) (b i j))(ho:gg X f (Eu b)):gg X f (r2 X.K (b2 g)):=by
 intro ag s σ H x y u w Q I c m h;obtain⟨mu,S,d,e,r,a,n,r2,l,k,hc⟩:=uz h;obtain⟨i,j,rfl,rfl,rfl,rfl⟩:=hg d e S r a k;cases n;cases r2;exact ho ag s σ H _ _ u w Q I c m ⟨i,j,O,O,hc.now (hv i j _ _ _) l⟩
theorem Ex:gg X (binaryOp .Sub) (r2 X.K (b2 gSub)):=lg (v:=λi j=>.int (i-j)) (λd e S r a h=>by
 unfold gSub at h;split at h
 ·cases h;exact⟨_,_,O,O,O,O⟩
 ·cases h) (λ_ _ _ _ _=>.int _) F9
theorem li:gg X (binaryOp .Mult) (r2 X.K (b2 j8)):=nb (c:=λi j=>IntMulOk i j) (v:=λi j=>.int (i*j)) (λd e S r a h=>by
 unfold j8 at h;split at h
 ·split at h
  ·rename_i q;cases h;exact⟨_,_,O,O,u5 q,O,O⟩
  ·cases h
 ·cases h) (λ_ _ _ _ _=>.int _) (Kn λ_ _ _ _ _ _ _ hc q=>mul_int q hc)
theorem mF:gg X (binaryOp .Mod) (r2 X.K (b2 lA)):=nb (c:=λ_ j=>0<j) (v:=λi j=>.int (i%j)) (λd e S r a h=>by
 unfold lA at h;split at h
 ·split at h
  ·rename_i q;cases h;exact⟨_,_,O,O,q,O,O⟩
  ·cases h
 ·cases h) (λ_ _ _ _ _=>.int _) Gb
theorem wr:gg X (binaryOp .FloorDiv) (r2 X.K (b2 rM)):=nb (c:=Kg) (v:=λi j=>.int (i/j)) (λd e S r a h=>by
 unfold rM at h;split at h
 ·split at h
  ·rename_i q;cases h;exact⟨_,_,O,O,q,O,O⟩
  ·cases h
 ·cases h) (λ_ _ _ _ _=>.int _) CT
theorem wp:gg X (binaryOp .Pow) (r2 X.K (b2 oo)):=nb (c:=Kf) (v:=λi j=>.int (i^j.toNat)) (λd e S r a h=>by
 unfold oo at h;split at h
 ·split at h
  ·rename_i q;cases h;exact⟨_,_,O,O,q,O,O⟩
  ·cases h
 ·cases h) (λ_ _ _ _ _=>.int _) Ga
theorem tu:HW X (unaryOp .USub) (λx H Q=>rN X.K (b1 ot) [x] H Q):=by
 intro ag s σ H x v Q I b h;obtain⟨g,mu,S,d,r,j,e,f,c,a,hc⟩:=wd h;cases e;cases d with
 |int i=>cases a;cases f;exact E8 ag s σ H _ v Q I b ⟨i,O,hc.now (.int _) c⟩
 |_=>cases a
theorem ym{s:c9}{prog:db}{w:df}{A:de}{E:c8->c9->Prop}{t b:da}{ws:List c8}{Q:c8->c9->Prop}(ht:IsTup s.heap t ([]:List c8).toArray)(hb:IsTup s.heap b ws.toArray)(h:Q (.ref b) s):
  dj (model prog w) A (binaryOp .Add (.ref t) (.ref b)) Q E s:=by
 obtain⟨⟨p,m,k,o⟩,j,hc,n,i⟩:=id ht;obtain⟨⟨l,g,f,e⟩,c,d,q,a⟩:=id hb;simp only at hc i d a;subst hc i d a;exact concat_meets ⟨_,j,O⟩ ⟨_,c,O⟩ noFill_tuple_add seq_tuple_add PySem.F.slot_tuple_add PySem.F.entry_tuple_add (PySem.F.args_tuple_add_2 _ _) (tuple_addW0 t b ([]:List c8).toArray ws.toArray n q m g o e (by simp)) ⟨j,c,h⟩
theorem eG:gg X (binaryOp .Add) (r2 X.K (b2 eu)):=by
 intro ag s σ H x y u w Q I t q h;obtain⟨mu,S,d,e,r,P,v,r2,f,c,hc⟩:=uz h;unfold eu at c;split at c
 ·cases c;cases v;cases r2;exact Gd ag s σ H _ _ u w Q I t q ⟨_,_,O,O,hc.now (.int _) f⟩
 ·rename_i xs ys;split at c
  ·rename_i o;cases c;cases v with
   |tup C l=>
    cases r2 with
    |tup A k=>
     rename_i g a1 m a2;by_cases D:g=[]
     ·subst D;have:xs=[]:=by cases l;rfl
      subst this;cases t;cases q;obtain⟨B,L,aq,_⟩:=I.tuple C;obtain⟨E,N,p2,_⟩:=I.tuple A;have:B=[]:=L.nil_iff.mpr O;subst this;exact ym aq p2 ⟨.ref a2,H,I,O,hc.now (.tup A k) f⟩
     ·refine CU ag s σ H _ _ u w Q I t q ⟨a1,a2,g,m,O,O,C,A,D,by rw[<- l.length,<- k.length];exact o,λz=>?_,λz p n=>?_⟩
      ·subst z;have:ys=[]:=by cases k;rfl
       subst this;rw[aM]at hc;exact hc.now (.tup C l) f
      ·exact hc _ _ mu (Ext.fresh n) (.tup (jP.of dX) ((l.append k).ext (Ext.fresh n))) (f.fresh n)
  ·cases c
 ·rename_i i j;split at c
  ·rename_i o;cases c;cases v;cases r2;exact uY ag s σ H _ _ u w Q I t q ⟨i,j,O,O,o,hc.now (.str _) f⟩
  ·cases c
 ·rename_i a b;split at c
  ·rename_i xs ys ao eb;split at c
   ·rename_i o;cases c;cases v with
    |ref K=>
     cases r2 with
     |ref F=>
      obtain⟨g,G,l⟩:=f.lst ao K;obtain⟨m,au,k⟩:=f.lst eb F;refine Gc ag s σ H _ _ u w Q I t q ⟨_,_,g,m,O,O,G,au,by rw[<- l.length,<- k.length];exact o,λp n=>?_⟩;exact hc _ _ (mu++[p]) (Ext.new_ n) (.ref (gx f.len p)) (f.newL (l.append k) n)
   ·cases c
  ·cases c
 ·cases c
end
def i4(p:Int->Int->Bool):G2:=λd e S=>match d,e with
 | .int i,.int j=>Z (.bl (p i j),S)
 |_,_=>Y
section
variable{X:Cx}
theorem rO{p:Int->Int->Bool}(d e:D)(S:Sto)(r:D)(a:Sto)(h:i4 p d e S=Z (r,a)):∃i j,d = .int i/\e = .int j/\r = .bl (p i j)/\a=S:=by
 unfold i4 at h;split at h
 ·cases h;exact⟨_,_,O,O,O,O⟩
 ·cases h
theorem IX:gg X (compareOp .LtE) (r2 X.K (b2 (i4 λi j=>decide (i<=j)))):=lg rO (λ_ _ _ _ _=>.bl _) IR
theorem KZ:gg X (compareOp .Gt) (r2 X.K (b2 (i4 λi j=>decide (j<i)))):=lg rO (λ_ _ _ _ _=>.bl _) IS
theorem K0:gg X (compareOp .GtE) (r2 X.K (b2 (i4 λi j=>decide (j<=i)))):=lg rO (λ_ _ _ _ _=>.bl _) IT
end
def lB:D->Bool
 | .non=>M
 | .bl _=>M
 | .int _=>M
 | .str _=>M
 |_=>J
noncomputable def Ks:D->D->Option Bool
 | .non,.non=>some true
 | .bl a,.bl b=>some (a == b)
 | .bl a,.int b=>some ((if a then 1 else 0) == b)
 | .int a,.bl b=>some (a == (if b then 1 else 0))
 | .int a,.int b=>some (a == b)
 | .str a,.str b=>some (a == b)
 |d,e=>if lB d&&lB e then some false else none
def A9(f:D->D->Option Bool):List D->List D->Option Bool
 |x::xs,y::ys=>(f x y).bind λb=>(A9 f xs ys).map λc=>b&&c
 |[],[]=>Z M
 |_,_=>Z J
def kG(S:Sto):Nat->D->D->Option Bool
 |0,_,_=>Y
 |n+1,d,e=>match dP S d,dP S e with
  |some p,Z q=>if p.1=q.1 then(if p.1=M/\p.2.length≠q.2.length then Z J else A9 (kG S n) p.2 q.2)else Z J
  |some _,Y=>if lB e=M then Z J else Y
  |none,Z _=>if lB d=M then Z J else Y
  |none,Y=>Ks d e
section
variable{X:Cx}{ag:List (da×Obj)}{σ:L2.St}{H:Hp}{s:c9}{mu:List da}{S:Sto}
theorem fH{K:Fg1}{d:D}{v:V}(r:eX K H mu d v)(h:lB d=M):km v=M /\ ∀e w,eX K H mu e w->lB e=M->Ks d e=Z (uA v w):=by
 cases d with
 |non=>cases r;refine⟨O,λe w q f=>?_⟩;cases e with
  |non=>cases q;rfl
  |bl _=>cases q;rfl
  |int _=>cases q;rfl
  |str _=>cases q;rfl
  |_=>cases f
 |bl b=>cases r;refine⟨O,λe w q f=>?_⟩;cases e with
  |non=>cases q;rfl
  |bl _=>cases q;rfl
  |int _=>cases q;rfl
  |str _=>cases q;rfl
  |_=>cases f
 |int i=>cases r;refine⟨O,λe w q f=>?_⟩;cases e with
  |non=>cases q;rfl
  |bl _=>cases q;rfl
  |int _=>cases q;rfl
  |str _=>cases q;rfl
  |_=>cases f
 |str x=>cases r;refine⟨O,λe w q f=>?_⟩;cases e with
  |non=>cases q;rfl
  |bl _=>cases q;rfl
  |int _=>cases q;rfl
  |str _=>cases q;rfl
  |_=>cases f
 |_=>cases h
theorem oD{d e:D}{b:Bool}(h:Ks d e=Z b):lB d=M/\lB e=M:=by
 cases d<;>cases e<;>first|exact⟨rfl,rfl⟩|(cases h;done)|exact nomatch h|(simp[Ks,lB]at h)
theorem A7{v:V}(h:km v=M):uA v v=M:=by
 cases v<;>first|rfl|(cases h;done)|exact beq_self_eq_true _|(simp[uA];done)
theorem t4(I:Inv X ag σ H s)(hs:Sim X.K H mu S):∀(n:Nat) {d e:D} {v:V} {b:Bool},eX X.K H mu d v->eX X.K H mu e v->kG S n d e=Z b->b=M
 |0,_,_,_,_,_,_,h=>by cases h
 |n + 1,d,e,v,b,B,l,h=>by
  rw[kG]at h;have g:∀{xs ys:List D} {vs:List V} {b:Bool},dJ X.K H mu xs vs->dJ X.K H mu ys vs->A9 (kG S n) xs ys=Z b->b=M:=by
   intro xs
   induction xs with
   |nil=>intro ys vs b z w h;cases z;cases w;cases h;rfl
   |cons x xs ih=>
    intro ys vs b z w h;cases z with
    |cons r t=>
     cases w with
     |cons F aq=>
      rw[A9]at h;obtain⟨b1,i,h⟩:=oB1.mp h;obtain⟨b2,c,h⟩:=oM1.mp h;subst h;rw[t4 I hs n r F i,ih t aq c];rfl
  cases hd:dP S d with
  |some p=>
   obtain⟨E,xs⟩:=p;obtain⟨a,vs,rfl,q,t⟩:=dI B hs hd;cases he:dP S e with
   |some p2=>
    obtain⟨qb,ys⟩:=p2;obtain⟨a2,A,c,y,m⟩:=dI l hs he;cases c;rw[hd,he]at h;dsimp only at h;obtain⟨ao,T,co,_⟩:=eK I q;obtain⟨C,P,k,_⟩:=eK I y;have K:E=qb:=by
     cases E<;>cases qb
     ·rfl
     ·obtain⟨o,i,u,_⟩:=co;obtain⟨G,c,j,_⟩:=k;rw[i]at c;cases c;rw[u]at j;exact absurd j (by decide)
     ·obtain⟨o,i,u,_⟩:=co;obtain⟨G,c,j,_⟩:=k;rw[i]at c;cases c;rw[u]at j;exact absurd j (by decide)
     ·rfl
    subst K;have Q:=m9 I q y;subst Q;rw[ak O,aj (by rw[t.length,m.length];simp)]at h;exact g t m h
   |none=>
    rw[hd,he]at h;dsimp only at h;split at h
    ·rename_i f;have:=(fH l f).1;cases this
    ·cases h
  |none=>
   cases he:dP S e with
   |some p2=>
    obtain⟨qb,ys⟩:=p2;obtain⟨a2,A,c,y,m⟩:=dI l hs he;subst c;rw[hd,he]at h;dsimp only at h;split at h
    ·rename_i f;have:=(fH B f).1;cases this
    ·cases h
   |none=>
    rw[hd,he]at h;dsimp only at h;obtain⟨N,L⟩:=oD h;obtain⟨R,au⟩:=fH B N;rw[au e v l L]at h;cases h;exact A7 R
theorem fq{A:de}{b:Bool}{a:da}{its:Array c8}{v:V}{u:c8}(c:SCo b s.heap a its)(r:dN v u)(f:km v=true)(d:A.units<cLine):
   SeqAt.EqAt A s (.ref a) u J/\SeqAt.EqAt A s u (.ref a) J/\SeqAt.RcAt A s (.ref a) u J/\SeqAt.RcAt A s u (.ref a) J:=by
 cases v with
 | non => cases r;cases b
          · exact⟨.tuple_none c d,.none_tuple c d,.tuple_none c d,.none_tuple c d⟩
          · exact⟨.list_none c d,.none_list c d,.list_none c d,.none_list c d⟩
 | bl k => cases r;cases b
           · exact⟨.tuple_bool k c d,.bool_tuple k c d,.tuple_bool k c d,.bool_tuple k c d⟩
           · exact⟨.list_bool k c d,.bool_list k c d,.list_bool k c d,.bool_list k c d⟩
 | int i => obtain ⟨t,rfl⟩:=r;cases b
            · exact⟨.tuple_int i t c d,.int_tuple i t c d,.tuple_int i t c d,.int_tuple i t c d⟩
            · exact⟨.list_int i t c d,.int_list i t c d,.list_int i t c d,.int_list i t c d⟩
 | str x => obtain ⟨t,rfl⟩:=r;cases b
            · exact⟨.tuple_str x t c d,.str_tuple x t c d,.tuple_str x t c d,.str_tuple x t c d⟩
            · exact⟨.list_str x t c d,.str_list x t c d,.list_str x t c d,.str_list x t c d⟩
 |_=>cases f
theorem Cr{A:de}{x y:V}{u w:c8}(e:dN x u)(a:dN y w)(h:km x=M)(f:km y=M):SeqAt.RcAt A s u w (uA x y):=by
 cases x with
 |non=>cases e;cases y with
  |non=>cases a;exact .none_none
  |bl k=>cases a;exact .none_bool k
  |int i=>obtain⟨t,rfl⟩:=a;exact .none_int i t
  |str z=>obtain⟨t,rfl⟩:=a;exact .none_str z t
  |_=>cases f
 |bl c=>cases e;cases y with
  |non=>cases a;exact .bool_none c
  |bl k=>cases a;exact .bool_bool c k
  |int i=>obtain⟨t,rfl⟩:=a;exact .bool_int c i t
  |str z=>obtain⟨t,rfl⟩:=a;exact .bool_str c z t
  |_=>cases f
 |int g=>obtain⟨b,rfl⟩:=e;cases y with
  |non=>cases a;exact .int_none g b
  |bl k=>cases a;exact .int_bool g b k
  |int i=>obtain⟨t,rfl⟩:=a;exact .int_int g b i t
  |str z=>obtain⟨t,rfl⟩:=a;exact .int_str g b z t
  |_=>cases f
 |str d=>obtain⟨b,rfl⟩:=e;cases y with
  |non=>cases a;exact .str_none d b
  |bl k=>cases a;exact .str_bool d b k
  |int i=>obtain⟨t,rfl⟩:=a;exact .str_int d b i t
  |str z=>obtain⟨t,rfl⟩:=a;exact .str_str d b z t
  |_=>cases f
 |_=>cases h
theorem vj(f:D->D->Option Bool):∀{xs ys:List D} {b:Bool},A9 f xs ys=Z b -> ∃e:Nat->Bool,(∀j x y,xs[j]?=Z x->ys[j]?=Z y->f x y=Z (e j))/\b=((af (min xs.length ys.length)).all e&&xs.length == ys.length)
 |[],[],b,h=>by cases h;exact⟨λ_=>M,λj x y h=>by simp at h,O⟩
 |[],y::ys,b,h=>by cases h;exact⟨λ_=>M,λj x y h=>by simp at h,by simp⟩
 |x::xs,[],b,h=>by cases h;exact⟨λ_=>M,λj x y h h'=>by simp at h',by simp⟩
 |x::xs,y::ys,b,h=>by
  rw[A9]at h;obtain⟨b1,g,h⟩:=oB1.mp h;obtain⟨b2,m,h⟩:=oM1.mp h;obtain⟨e,i,l⟩:=vj f m;refine⟨λj=>match j with|0=>b1|j+1=>e j,λj d k a c=>?_,?_⟩
  ·cases j with
   |zero=>simp at a c;subst a;subst c;exact g
   |succ j=>exact i j d k (by simpa using a) (by simpa using c)
  ·rw[<- h,l,lC1,lC1,Nat.succ_min_succ,List.range_succ_eq_map,bO,List.all_map];have:((xs.length+1 == ys.length+1):Bool)=(xs.length == ys.length):=by simp
   rw[this,Bool.and_assoc];rfl
theorem mf(I:Inv X ag σ H s)(hs:Sim X.K H mu S):∀(n:Nat) {A:de} {d e:D} {v w:V} {u z:c8} {b:Bool},A.units+n<cLine->eX X.K H mu d v->eX X.K H mu e w->dN v u->dN w z->kG S n d e=Z b->SeqAt.EqAt A s u z b/\SeqAt.RcAt A s u z b
 |0,_,_,_,_,_,_,_,_,_,_,_,_,_,h=>by cases h
 |n + 1,A,d,e,v,w,u,z,b,hu,Q,o,aq,F,h=>by
  have g:A.units<cLine:=by lia
  have h0:=h;rw[kG]at h;cases hd:dP S d with
  |some p=>
   obtain⟨ar,xs⟩:=p;obtain⟨a,vs,rfl,q,t⟩:=dI Q hs hd;obtain⟨k,au,co,_⟩:=eK I q;cases aq;cases he:dP S e with
   |some p2=>
    obtain⟨qb,ys⟩:=p2;obtain⟨a2,G,rfl,T,N⟩:=dI o hs he;obtain⟨c,l,i,_⟩:=eK I T;cases F;rw[hd,he]at h;dsimp only at h;have m:SeqAt.RcAt A s (.ref a) (.ref a2) b->SeqAt.EqAt A s (.ref a) (.ref a2) b/\SeqAt.RcAt A s (.ref a) (.ref a2) b:=λrc=>by
     refine⟨?_,rc⟩;by_cases ha:a=a2
     ·subst ha;rw[t4 I hs (n+1) Q o h0];exact .same _
     ·exact .of_refs ha rc
    split at h
    ·rename_i P;have W:ar=qb:=P;subst W;split at h
     ·rename_i U;cases h;obtain⟨h1,h2⟩:=U;subst h1;refine m (.lists_lengths co i ?_ g);have l1:=t.length;have l2:=N.length;have l3:=au.length;have l4:=l.length
      simp only[sT1,bne_iff_ne,ne_eq];lia
     ·rename_i U;obtain ⟨f,hf,E⟩:=vj _ h;have elts:∀ j (h1:j<k.toArray.size) (h2:j<c.toArray.size),SeqAt.EqAt A.in1 s k.toArray[j] c.toArray[j] (f j):=fun j h1 h2=>by
       have ao:j<k.length:=by simpa using h1
       have K:j<c.length:=by simpa using h2
       have k1:j<vs.length:=by rw[au.length];exact ao
       have k2:j<G.length:=by rw[l.length];exact K
       obtain⟨x,ex,rx⟩:=t.getV (gG1 k1);obtain⟨y,ey,ry⟩:=N.getV (gG1 k2);obtain⟨u1,B,wq⟩:=au.get (gG1 k1);obtain⟨u2,C,R⟩:=l.get (gG1 k2);have r:k.toArray[j]=u1:=by
        rw[gG1 ao]at B;simpa using B
       have e2:c.toArray[j]=u2:=by
        rw[gG1 K]at C;simpa using C
       rw[r,e2];exact(mf I hs n (A:=A.in1) (by show A.units+1+n<cLine;lia) rx ry wq R (hf j x y ex ey)).1
      have l1:=t.length;have l2:=N.length;have l3:=au.length;have l4:=l.length
      cases ar with
      |false=>
       refine m ?_;have:=SeqAt.RcAt.tuples co i g elts;rw[E];have r:k.toArray.size=xs.length:=by simp;lia
       have e2:c.toArray.size=ys.length:=by simp;lia
       rw[r,e2]at this;exact this
      |true=>
       refine m ?_;have L:xs.length=ys.length:=by
        by_cases z:xs.length=ys.length
        ·exact z
        ·exact absurd ⟨O,z⟩ U
       have:=SeqAt.RcAt.lists co i (by simp;lia) g elts;rw[E];have r:k.toArray.size=xs.length:=by simp;lia
       rw[r]at this;rw[L,Nat.min_self,beq_self_eq_true,bL,<- L];exact this
    ·rename_i P;cases h;cases ar with
     |true=>
      cases qb with
      |true=>exact absurd O P
      |false=>exact⟨.list_tuple co i g,.list_tuple co i g⟩
     |false=>
      cases qb with
      |false=>exact absurd O P
      |true=>exact⟨.tuple_list co i g,.tuple_list co i g⟩
   |none=>
    rw[hd,he]at h;dsimp only at h;split at h
    ·rename_i f;cases h;obtain⟨r1,r2,r3,r4⟩:=fq co F (fH o f).1 g;exact⟨r1,r3⟩
    ·cases h
  |none=>
   cases he:dP S e with
   |some p2=>
    obtain⟨qb,ys⟩:=p2;obtain⟨a2,G,rfl,T,N⟩:=dI o hs he;obtain⟨c,l,i,_⟩:=eK I T;cases F;rw[hd,he]at h;dsimp only at h;split at h
    ·rename_i f;cases h;obtain⟨r1,r2,r3,r4⟩:=fq i aq (fH Q f).1 g;exact⟨r2,r4⟩
    ·cases h
   |none=>
    rw[hd,he]at h;dsimp only at h;obtain⟨f1,f2⟩:=oD h;obtain⟨g1,g2⟩:=fH Q f1;have g3:=(fH o f2).1;rw[g2 e w o f2]at h;cases h;exact⟨kH aq F g1 g3,Cr aq F g1 g3⟩
end
def d4:Nat:=60
def gEq:G2:=λd e S=>(kG S d4 d e).map λb=>(.bl b,S)
section
variable{X:Cx}
theorem iI(k:X.A.units+64<cLine):gg X (compareOp .Eq) (r2 X.K (b2 gEq)):=by
 intro ag s σ H x y u w Q I g i h;obtain⟨mu,S,d,e,r,l,j,r2,c,a,hc⟩:=uz h;obtain⟨b,f,a⟩:=oM1.mp a;cases a;exact(mf I c d4 (by show _+60<cLine;lia) j r2 g i f).2 X.prog X.w X.xe _ ⟨.bl b,H,I,O,hc.now (.bl b) c⟩
end
section
variable{X:Cx}{ag:List (da×Obj)}{σ:L2.St}{H:Hp}{s:c9}{mu:List da}{S:Sto}
theorem C0{A:de}{x y:V}{u w:c8}(e:dN x u)(a:dN y w)(h:km x=M)(f:km y=M):SeqAt.RcNeAt A s u w (!uA x y):=by
 cases x with
 |non=>cases e;cases y with
  |non=>cases a;exact .none_none
  |bl k=>cases a;exact .none_bool k
  |int i=>obtain⟨t,rfl⟩:=a;exact .none_int i t
  |str z=>obtain⟨t,rfl⟩:=a;exact .none_str z t
  |_=>cases f
 |bl c=>cases e;cases y with
  |non=>cases a;exact .bool_none c
  |bl k=>cases a;exact .bool_bool c k
  |int i=>obtain⟨t,rfl⟩:=a;exact .bool_int c i t
  |str z=>obtain⟨t,rfl⟩:=a;exact .bool_str c z t
  |_=>cases f
 |int g=>obtain⟨b,rfl⟩:=e;cases y with
  |non=>cases a;exact .int_none g b
  |bl k=>cases a;exact .int_bool g b k
  |int i=>obtain⟨t,rfl⟩:=a;exact .int_int g b i t
  |str z=>obtain⟨t,rfl⟩:=a;exact .int_str g b z t
  |_=>cases f
 |str d=>obtain⟨b,rfl⟩:=e;cases y with
  |non=>cases a;exact .str_none d b
  |bl k=>cases a;exact .str_bool d b k
  |int i=>obtain⟨t,rfl⟩:=a;exact .str_int d b i t
  |str z=>obtain⟨t,rfl⟩:=a;exact .str_str d b z t
  |_=>cases f
 |_=>cases h
theorem mG{A:de}{b:Bool}{a:da}{its:Array c8}{v:V}{u:c8}(c:SCo b s.heap a its)(r:dN v u)(f:km v=M)(d:A.units<cLine):SeqAt.RcNeAt A s (.ref a) u M/\SeqAt.RcNeAt A s u (.ref a) M:=by
 cases v with
 | non => cases r;cases b
          · exact⟨.tuple_none c d,.none_tuple c d⟩
          · exact⟨.list_none c d,.none_list c d⟩
 | bl k => cases r;cases b
           · exact⟨.tuple_bool k c d,.bool_tuple k c d⟩
           · exact⟨.list_bool k c d,.bool_list k c d⟩
 | int i => obtain ⟨t,rfl⟩:=r;cases b
            · exact⟨.tuple_int i t c d,.int_tuple i t c d⟩
            · exact⟨.list_int i t c d,.int_list i t c d⟩
 | str x => obtain ⟨t,rfl⟩:=r;cases b
            · exact⟨.tuple_str x t c d,.str_tuple x t c d⟩
            · exact⟨.list_str x t c d,.str_list x t c d⟩
 |_=>cases f
theorem Gk(I:Inv X ag σ H s)(hs:Sim X.K H mu S)(n:Nat){A:de}{d e:D}{v w:V}{u z:c8}{b:Bool}(hu:A.units+n<cLine)(ar:eX X.K H mu d v)(ao:eX X.K H mu e w)(aq:dN v u)(L:dN w z)(h:kG S n d e=Z b):SeqAt.RcNeAt A s u z (!b):=by
 cases n with
 |zero=>cases h
 |succ n=>
  have g:A.units<cLine:=by lia
  rw[kG]at h;cases hd:dP S d with
  |some p=>
   obtain⟨U,xs⟩:=p;obtain⟨a,vs,rfl,q,t⟩:=dI ar hs hd;obtain⟨k,R,co,_⟩:=eK I q;cases aq;cases he:dP S e with
   |some p2=>
    obtain⟨qb,ys⟩:=p2;obtain⟨a2,C,rfl,P,au⟩:=dI ao hs he;obtain⟨c,l,i,_⟩:=eK I P;cases L;rw[hd,he]at h;dsimp only at h;have l1:=t.length;have l2:=au.length;have l3:=R.length;have l4:=l.length
    split at h
    ·rename_i K;have T:U=qb:=K;subst T;split at h
     ·rename_i Q;cases h;obtain⟨h1,h2⟩:=Q;subst h1;refine .lists_lengths co i ?_ g;simp only[sT1,bne_iff_ne,ne_eq];lia
     ·rename_i Q;obtain ⟨f,hf,B⟩:=vj _ h;have elts:∀ j (h1:j<k.toArray.size) (h2:j<c.toArray.size),SeqAt.EqAt A.in1 s k.toArray[j] c.toArray[j] (f j):=fun j h1 h2=>by
       have E:j<k.length:=by simpa using h1
       have F:j<c.length:=by simpa using h2
       have k1:j<vs.length:=by rw[R.length];exact E
       have k2:j<C.length:=by rw[l.length];exact F
       obtain⟨x,ex,rx⟩:=t.getV (gG1 k1);obtain⟨y,ey,ry⟩:=au.getV (gG1 k2);obtain⟨u1,o,W⟩:=R.get (gG1 k1);obtain⟨u2,r,N⟩:=l.get (gG1 k2);have m:k.toArray[j]=u1:=by
        rw[gG1 E]at o;simpa using o
       have wq:c.toArray[j]=u2:=by
        rw[gG1 F]at r;simpa using r
       rw[m,wq];exact(mf I hs n (A:=A.in1) (by show A.units+1+n<cLine;lia) rx ry W N (hf j x y ex ey)).1
      cases U with
      |false=>
       have:=SeqAt.RcNeAt.tuples co i g elts;rw[B];have m:k.toArray.size=xs.length:=by simp;lia
       have wq:c.toArray.size=ys.length:=by simp;lia
       rw[m,wq]at this;exact this
      |true=>
       have G:xs.length=ys.length:=by
        by_cases z:xs.length=ys.length
        ·exact z
        ·exact absurd ⟨O,z⟩ Q
       have:=SeqAt.RcNeAt.lists co i (by simp;lia) g elts;rw[B];have m:k.toArray.size=xs.length:=by simp;lia
       rw[m]at this;rw[G,Nat.min_self,beq_self_eq_true,bL,<- G];exact this
    ·rename_i K;cases h;cases U with
     |true=>
      cases qb with
      |true=>exact absurd O K
      |false=>exact .list_tuple co i g
     |false=>
      cases qb with
      |false=>exact absurd O K
      |true=>exact .tuple_list co i g
   |none=>
    rw[hd,he]at h;dsimp only at h;split at h
    ·rename_i f;cases h;exact(mG co L (fH ao f).1 g).1
    ·cases h
  |none=>
   cases he:dP S e with
   |some p2=>
    obtain⟨qb,ys⟩:=p2;obtain⟨a2,C,rfl,P,au⟩:=dI ao hs he;obtain⟨c,l,i,_⟩:=eK I P;cases L;rw[hd,he]at h;dsimp only at h;split at h
    ·rename_i f;cases h;exact(mG i aq (fH ar f).1 g).2
    ·cases h
   |none=>
    rw[hd,he]at h;dsimp only at h;obtain⟨f1,f2⟩:=oD h;obtain⟨g1,g2⟩:=fH ar f1;have g3:=(fH ao f2).1;rw[g2 e w ao f2]at h;cases h;exact C0 aq L g1 g3
end
def gNe:G2:=λd e S=>(kG S d4 d e).map λb=>(.bl (!b),S)
def BQ(f:D->D->Option Bool)(x:D):List D->Option Bool
 |[]=>Z J
 |y::ys=>(f y x).bind λb=>(BQ f x ys).map λc=>b||c
def HV:G2:=λd e S=>(dP S e).bind λp=>(BQ (kG S d4) d p.2).map λb=>(.bl b,S)
def ma:G2:=λd e S=>(dP S e).bind λp=>(BQ (kG S d4) d p.2).map λb=>(.bl (!b),S)
section
variable{X:Cx}
theorem pd(k:X.A.units+64<cLine):gg X (compareOp .NotEq) (r2 X.K (b2 gNe)):=by
 intro ag s σ H x y u w Q I g i h;obtain⟨mu,S,d,e,r,l,j,r2,c,a,hc⟩:=uz h;obtain⟨b,f,a⟩:=oM1.mp a;cases a;exact Gk I c d4 (by show _+60<cLine;lia) j r2 g i f X.prog X.w X.xe _ ⟨.bl (!b),H,I,O,hc.now (.bl _) c⟩
theorem AX(f:D->D->Option Bool)(x:D):∀{ys:List D} {b:Bool},BQ f x ys=Z b -> ∃bs:List Bool,bs.length=ys.length/\(∀(j:Nat) (y:D) (k:Bool),ys[j]?=Z y->bs[j]?=Z k->f y x=Z k)/\b=bs.any id
 |[],b,h=>by cases h;exact⟨[],O,λj y k h=>by simp at h,O⟩
 |y::ys,b,h=>by
  rw[BQ]at h;obtain⟨b1,e,h⟩:=oB1.mp h;obtain⟨b2,m,h⟩:=oM1.mp h;obtain⟨bs,g,l,a⟩:=AX f x m;refine⟨b1::bs,by simp[g],λj i k c d=>?_,?_⟩
  ·cases j with
   |zero=>simp at c d;subst c;subst d;exact e
   |succ j=>exact l j i k (by simpa using c) (by simpa using d)
  ·rw[<- h,a];simp
open Classical in
theorem EI{ag:List (da×Obj)}{σ:L2.St}{H:Hp}{s:c9}{mu:List da}{S:Sto}(I:Inv X ag σ H s)(hs:Sim X.K H mu S){A:de}(K:A.units+61<cLine){x:D}{v:V}{u:c8}(F:eX X.K H mu x v)(r:dN v u){ys:List D}{vs:List V}{a:List c8}{b:Bool}(o:dJ X.K H mu ys vs)(n:dY vs a)(h:BQ (kG S d4) x ys=Z b):∃e:c8->Bool,(∀w∈a,SeqAt.EqAt A.in1 s w u (e w))/\a.any e=b:=by
 obtain⟨bs,ao,B,rfl⟩:=AX _ x h;have L:=o.length;have G:=n.length;have at_:∀(j:Nat) w k,a[j]?=Z w->bs[j]?=Z k->SeqAt.EqAt A.in1 s w u k:=λj w k g f=>by
  have p:j<a.length:=(gE1.mp g).1;obtain⟨y,t,C⟩:=o.getV (i:=j) (v:=vs[j]'(by lia)) (gG1 (by lia));obtain⟨aq,q,r2⟩:=n.get (i:=j) (x:=vs[j]'(by lia)) (gG1 (by lia));rw[g]at q;cases q;exact(mf I hs d4 (A:=A.in1) (by show A.units+1+60<cLine;lia) C F r2 r (B j y k t f)).1
 refine⟨λw=>decide (∃j:Nat,a[j]?=Z w/\bs[j]?=Z M),λw g=>?_,?_⟩
 ·by_cases z:∃j:Nat,a[j]?=Z w/\bs[j]?=Z M
  ·dsimp only;rw[ah z];obtain⟨j,m,c⟩:=z;exact at_ j w M m c
  ·dsimp only;rw[ai z];obtain⟨j,d⟩:=bq g;have p:j<a.length:=(gE1.mp d).1;have l:j<bs.length:=by lia
   have c:=gG1 l;cases f:bs[j]with
   |true=>rw[f]at c;exact absurd ⟨j,d,c⟩ z
   |false=>rw[f]at c;exact at_ j w J d c
 ·rw[bP,bQ,bQ];constructor
  ·rintro⟨w,g,z⟩;obtain⟨j,m,c⟩:=of_decide_eq_true z;exact⟨M,gM1 c,O⟩
  ·rintro⟨k,f,z⟩;obtain⟨j,d⟩:=bq f;have p:j<bs.length:=(gE1.mp d).1;have l:j<a.length:=by lia
   have E:k=M:=z;subst E;exact⟨a[j],bR l,ah ⟨j,gG1 l,d⟩⟩
theorem KY(D:X.A.units+64<cLine):gg X (compareOp .In) (r2 X.K (b2 HV)):=by
 intro ag s σ H x y u w Q I o z h;obtain⟨mu,S,d,e,r,E,C,r2,j,g,hc⟩:=uz h;obtain⟨⟨n,ys⟩,m,g⟩:=oB1.mp g;obtain⟨b,B,g⟩:=oM1.mp g;cases g;obtain⟨a,vs,rfl,q,t⟩:=dI r2 j m;cases z;obtain⟨c,p,co,_⟩:=eK I q;obtain⟨f,l,v⟩:=EI I j (A:=X.A) (by lia) C o t p B;have i:EP X ag σ Q (.bool (c.toArray.any f)) s:=⟨.bl b,H,I,by rw[show c.toArray.any f=c.any f by simp,v];rfl,hc.now (.bl b) j⟩;cases n
 ·exact SeqAt.in_tupleAt f co (λy k=>l y (by simpa using k)) i
 ·exact SeqAt.in_listAt f co (λy k=>l y (by simpa using k)) i
theorem CY(D:X.A.units+64<cLine):gg X (compareOp .NotIn) (r2 X.K (b2 ma)):=by
 intro ag s σ H x y u w Q I o z h;obtain⟨mu,S,d,e,r,E,C,r2,j,g,hc⟩:=uz h;obtain⟨⟨n,ys⟩,m,g⟩:=oB1.mp g;obtain⟨b,B,g⟩:=oM1.mp g;cases g;obtain⟨a,vs,rfl,q,t⟩:=dI r2 j m;cases z;obtain⟨c,p,co,_⟩:=eK I q;obtain⟨f,l,v⟩:=EI I j (A:=X.A) (by lia) C o t p B;have i:EP X ag σ Q (.bool (!c.toArray.any f)) s:=⟨.bl (!b),H,I,by rw[show c.toArray.any f=c.any f by simp,v];rfl,hc.now (.bl _) j⟩;cases n
 ·exact SeqAt.notIn_tupleAt f co (λy k=>l y (by simpa using k)) i
 ·exact SeqAt.notIn_listAt f co (λy k=>l y (by simpa using k)) i
end
def dV:G1:=λd S=>match d with
 | .str x=>if x.length<=di then Z (.int x.length,S)else Y
 |_=>(dP S d).map λp=>(.int p.2.length,S)
def BS:G2:=λd e S=>match e with
 | .int i=>(dP S d).bind λp=>(vw p.2 i).map λx=>(x,S)
 |_=>Y
def gTup:G1:=λd S=>(dP S d).map λp=>(.tup p.2,S)
def rL:G1:=λd S=>(dP S d).map λp=>(.ref S.length,S++[.lst p.2])
def kE:G3:=λo i v S=>match o,i with
 | .ref n,.int k=>match S[n]? with
  |some (.lst xs)=>(xZ xs.length k).map λj=>(.non,S.set n (.lst (xs.set j v)))
  |_=>Y
 |_,_=>Y
def BC:List D->Option Bool
 |[]=>Z M
 | .bl b::r=>(BC r).map λc=>b&&c
 |_=>Y
def By:List D->Option Bool
 |[]=>Z J
 | .bl b::r=>(By r).map λc=>b||c
 |_=>Y
def rP:G1:=λd S=>(dP S d).bind λp=>(BC p.2).map λb=>(.bl b,S)
def DR:G1:=λd S=>(dP S d).bind λp=>(By p.2).map λb=>(.bl b,S)
def pe:G1:=λd S=>match d with
 | .int i=>Z (.int i,S)
 | .bl b=>Z (.int (if b then 1 else 0),S)
 |_=>Y
def DN:G2:=λd e S=>match d,e with
 | .int i,.int j=>Z (.int (if j>i then j else i),S)
 |_,_=>Y
def vc:G2:=λd e S=>match d,e with
 | .int i,.int j=>Z (.int (if j<i then j else i),S)
 |_,_=>Y
section
variable{X:Cx}
theorem ei:eA X (.builtin "len") (rN X.K (b1 dV)):=by
 intro ag s σ H xs f Q I r h;obtain⟨x,mu,S,d,k,l,rfl,g,e,c,hc⟩:=wd h;unfold dV at c;split at c
 ·split at c
  ·rename_i z j;cases c;cases g;exact sf ag s σ H _ f Q I r ⟨_,O,j,hc.now (.int _) e⟩
  ·cases c
 ·obtain⟨⟨b,ys⟩,i,c⟩:=oM1.mp c;cases c;obtain⟨a,vs,rfl,q,t⟩:=dI g e i;refine si ag s σ H _ f Q I r ⟨a,vs,O,?_,?_⟩
  ·cases b
   ·exact .inr q
   ·exact .inl q
  ·rw[<- t.length];exact hc.now (.int _) e
theorem D7{K:Fg1}{H:Hp}{mu:List da}{ds:List D}{vs:List V}{i:Int}{d:D}(t:dJ K H mu ds vs)(h:vw ds i=Z d):∃v,vw vs i=Z v/\eX K H mu d v:=by
 unfold vw at h ⊢;rw[<- t.length];obtain⟨j,c,h⟩:=oB1.mp h;obtain⟨v,b,a⟩:=t.get h;exact⟨v,by rw[c];exact b,a⟩
theorem Kv:E2 X (r2 X.K (b2 BS)):=by
 intro value c ag s σ H x y v u Q I l k h g;obtain⟨mu,S,d,e,r,B,A,r2,j,f,hc⟩:=uz h;cases e with
 |int i=>
  obtain⟨⟨b,ys⟩,p,f⟩:=oB1.mp f;obtain⟨z,w,f⟩:=oM1.mp f;cases f;cases r2;obtain⟨a,vs,rfl,q,t⟩:=dI A j p;obtain⟨o,m,n⟩:=D7 t w;cases b
  ·exact G8 value c ag s σ H _ _ v u Q I l k ⟨a,vs,i,o,O,O,q,m,hc.now n j⟩ g
  ·exact Dx value c ag s σ H _ _ v u Q I l k ⟨a,vs,i,o,O,O,q,m,hc.now n j⟩ g
 |_=>cases f
theorem fW:eA X (.type "tuple") (rN X.K (b1 gTup)):=by
 intro ag s σ H xs g Q I r h;obtain⟨x,mu,S,d,k,m,rfl,j,f,e,hc⟩:=wd h;obtain⟨⟨b,ys⟩,i,e⟩:=oM1.mp e;cases e;obtain⟨a,vs,rfl,q,t⟩:=dI j f i;refine ph ag s σ H _ g Q I r ⟨a,vs,O,?_⟩;cases b
 ·exact .inr ⟨q,hc.now (.tup q t) f⟩
 ·exact .inl ⟨q,λl c=>hc _ _ mu (Ext.fresh c) (.tup (jP.of dX) (t.ext (Ext.fresh c))) (f.fresh c)⟩
theorem vt:eA X (.type "list") (rN X.K (b1 rL)):=by
 intro ag s σ H xs g Q I r h;obtain⟨x,mu,S,d,k,m,rfl,j,e,c,hc⟩:=wd h;obtain⟨⟨b,ys⟩,i,c⟩:=oM1.mp c;cases c;obtain⟨a,vs,rfl,q,t⟩:=dI j e i;refine se ag s σ H _ g Q I r ⟨a,vs,O,?_,λl f=>hc _ _ (mu++[l]) (Ext.new_ f) (.ref (gx e.len l)) (e.newL t f)⟩;cases b
 ·exact .inr q
 ·exact .inl q
theorem Iw:vF X (rU X.K (b3 kE)):=by
 intro ag s σ H o i v A q u Q I C w x h;obtain⟨mu,S,ds,d,F,z,f,a,hc⟩:=h;cases z with
 |cons p y=>cases y with
  |cons m g=>cases g with
   |cons B r=>
    cases r;rename_i E D G;dsimp only[b3]at a;unfold kE at a;split at a
    ·rename_i n k;split at a
     ·rename_i xs e;obtain⟨j,l,a⟩:=oM1.mp a;cases a;cases p with
      |ref b=>
       cases m;obtain⟨vs,c,t⟩:=f.lst e b;refine zw ag s σ H _ _ v A q u Q I C w x ⟨_,vs,k,j,O,O,c,by rw[<- t.length];exact l,?_⟩;exact hc _ mu (Ext.put c trivial (gM1 b)) (f.putL (t.set B j) b c)
     ·cases a
    ·cases a
theorem Ea{K:Fg1}{H:Hp}{mu:List da}:∀{ds:List D} {vs:List V} {a:List c8} {b:Bool},dJ K H mu ds vs->dY vs a->BC ds=Z b -> ∃bs:List Bool,a=bs.map Value.bool/\b=bs.all id:=by
 intro ds
 induction ds with
 |nil=>intro vs a b r v h;cases r;cases v;cases h;exact⟨[],O,O⟩
 |cons d ds ih=>
  intro vs a b r v h;cases r with
  |cons j t=>
   cases v with
   |cons r g=>
    cases j
    case bl k=>
     obtain⟨c,e,h⟩:=oM1.mp h;obtain⟨bs,f,i⟩:=ih t g e;cases r;exact⟨k::bs,by rw[f];rfl,by rw[<- h,i];rfl⟩
    all_goals cases h
theorem D8{K:Fg1}{H:Hp}{mu:List da}:∀{ds:List D} {vs:List V} {a:List c8} {b:Bool},dJ K H mu ds vs->dY vs a->By ds=Z b -> ∃bs:List Bool,a=bs.map Value.bool/\b=bs.any id:=by
 intro ds
 induction ds with
 |nil=>intro vs a b r v h;cases r;cases v;cases h;exact⟨[],O,O⟩
 |cons d ds ih=>
  intro vs a b r v h;cases r with
  |cons j t=>
   cases v with
   |cons r g=>
    cases j
    case bl k=>
     obtain⟨c,e,h⟩:=oM1.mp h;obtain⟨bs,f,i⟩:=ih t g e;cases r;exact⟨k::bs,by rw[f];rfl,by rw[<- h,i];rfl⟩
    all_goals cases h
theorem pw(bs:List Bool):(af bs.length).all (λi=>bs.getD i M)=bs.all id:=by
 rw[bP,bA,bA];constructor
 ·intro h b c;obtain⟨i,hi,rfl⟩:=List.mem_iff_getElem.mp c;have:=h i (aB.mpr hi);simpa[bI,hi]using this
 ·intro h i hi;have a:=aB.mp hi;have:=h _ (bR a);simpa[bI,a]using this
theorem pv(bs:List Bool):(af bs.length).any (λi=>bs.getD i M)=bs.any id:=by
 rw[bP,bQ,bQ];constructor
 ·rintro⟨i,hi,h⟩;have a:=aB.mp hi;exact⟨bs[i],bR a,by simpa[bI,a]using h⟩
 ·rintro⟨b,c,h⟩;obtain⟨i,hi,rfl⟩:=List.mem_iff_getElem.mp c;exact⟨i,aB.mpr hi,by simpa[bI,hi]using h⟩
theorem uI{s:c9}{b:Bool}{a:da}{bs:List Bool}(hc:X.A.handled=Y)(co:SCo b s.heap a (bs.map Value.bool).toArray){Q:c8->c9->Prop}(all:∀h' tk,(∀c o,s.heap.get? c=Z o->h'.get? c=Z o)->Q (.bool (bs.all id)) {s with heap:=h',toks:=tk}):dj (model X.prog X.w) X.A (call (.builtin "all") [.ref a]) Q X.xe s:=by
 refine call_all_walk (iF co ?_);have h:a<s.heap.objs.size:=by cases b<;>(obtain⟨o,e,_⟩:=co;exact hL1 e)
 have ne:a≠s.heap.objs.size:=nN1 h;have j:TruthOf X.prog X.w X.A.in1 (λi v=>(bs.map Value.bool).toArray[i]?=Z v) (λi=>bs.getD i M):=λi v s' n p m g=>by
  have d:(bs.map Value.bool)[i]?=Z v:=by simpa using m
  rw[gP1]at d;obtain⟨k,l,rfl⟩:=oM1.mp d;dsimp only at g;rw[bI,l]at g;exact wpAny_truthy_bool g
 have keep:∀(h':dk),(∀c o,c∉[s.heap.objs.size]->(s.heap.push (fG b a)).get? c=Z o->h'.get? c=Z o) -> ∀c o,s.heap.get? c=Z o->h'.get? c=Z o:=λh' f c o e=>
  f c o (by simpa using nN1 (hL1 e)) (hP1 _ e)
 have hi:(s.heap.push (fG b a)).get? s.heap.objs.size=Z (fG b a):=hS1 _ (by cases b<;>rfl);cases b with
 |true=>
  refine⟨s.heap.objs.size,_,_,_,_,_,_,O,Walks.list (A:=X.A.in1) hc s.heap.objs.size a ne (bs.map Value.bool).toArray,⟨⟨_,hi,O,O⟩,SCo.to (b:=M) co λo e=>hP1 _ e⟩,j,λh' tk f=>?_⟩;have e:(bs.map Value.bool).toArray.size=bs.length:=by simp
  rw[e,pw];exact all h' tk (keep h' f)
 |false=>
  refine⟨s.heap.objs.size,_,_,_,_,_,_,O,Walks.tuple (A:=X.A.in1) hc s.heap.objs.size a ne (bs.map Value.bool).toArray,⟨⟨_,hi,O,O⟩,SCo.to (b:=J) co λo e=>hP1 _ e⟩,j,λh' tk f=>?_⟩;have e:(bs.map Value.bool).toArray.size=bs.length:=by simp
  rw[e,pw];exact all h' tk (keep h' f)
theorem walk_bools'{s:c9}{b:Bool}{a:da}{bs:List Bool}(hc:X.A.handled=Y)(co:SCo b s.heap a (bs.map Value.bool).toArray){Q:c8->c9->Prop}(all:∀h' tk,(∀c o,s.heap.get? c=Z o->h'.get? c=Z o)->Q (.bool (bs.any id)) {s with heap:=h',toks:=tk}):dj (model X.prog X.w) X.A (call (.builtin "any") [.ref a]) Q X.xe s:=by
 refine call_any_walk (iF co ?_);have h:a<s.heap.objs.size:=by cases b<;>(obtain⟨o,e,_⟩:=co;exact hL1 e)
 have ne:a≠s.heap.objs.size:=nN1 h;have j:TruthOf X.prog X.w X.A.in1 (λi v=>(bs.map Value.bool).toArray[i]?=Z v) (λi=>bs.getD i M):=λi v s' n p m g=>by
  have d:(bs.map Value.bool)[i]?=Z v:=by simpa using m
  rw[gP1]at d;obtain⟨k,l,rfl⟩:=oM1.mp d;dsimp only at g;rw[bI,l]at g;exact wpAny_truthy_bool g
 have keep:∀(h':dk),(∀c o,c∉[s.heap.objs.size]->(s.heap.push (fG b a)).get? c=Z o->h'.get? c=Z o) -> ∀c o,s.heap.get? c=Z o->h'.get? c=Z o:=λh' f c o e=>
  f c o (by simpa using nN1 (hL1 e)) (hP1 _ e)
 have hi:(s.heap.push (fG b a)).get? s.heap.objs.size=Z (fG b a):=hS1 _ (by cases b<;>rfl);cases b with
 |true=>
  refine⟨s.heap.objs.size,_,_,_,_,_,_,O,Walks.list (A:=X.A.in1) hc s.heap.objs.size a ne (bs.map Value.bool).toArray,⟨⟨_,hi,O,O⟩,SCo.to (b:=M) co λo e=>hP1 _ e⟩,j,λh' tk f=>?_⟩;have e:(bs.map Value.bool).toArray.size=bs.length:=by simp
  rw[e,pv];exact all h' tk (keep h' f)
 |false=>
  refine⟨s.heap.objs.size,_,_,_,_,_,_,O,Walks.tuple (A:=X.A.in1) hc s.heap.objs.size a ne (bs.map Value.bool).toArray,⟨⟨_,hi,O,O⟩,SCo.to (b:=J) co λo e=>hP1 _ e⟩,j,λh' tk f=>?_⟩;have e:(bs.map Value.bool).toArray.size=bs.length:=by simp
  rw[e,pv];exact all h' tk (keep h' f)
theorem EU(hc:X.calm=M):eA X (.builtin "all") (rN X.K (b1 rP)):=by
 intro ag s σ H xs v Q I r h;obtain⟨x,mu,S,d,p,w,rfl,n,f,c,e⟩:=wd h;obtain⟨⟨b,ys⟩,g,c⟩:=oB1.mp c;obtain⟨k,m,c⟩:=oM1.mp c;cases c;obtain⟨a,vs,rfl,q,t⟩:=dI n f g;obtain⟨u,rfl,i⟩:=hC r;cases i;obtain⟨o,j,co,_⟩:=eK I q;obtain⟨bs,rfl,rfl⟩:=Ea t j m;exact uI (I.ok.hd hc) co λh' tk l=>⟨.bl _,H,I.kept l,O,e.now (.bl _) f⟩
theorem JT(hc:X.calm=M):eA X (.builtin "any") (rN X.K (b1 DR)):=by
 intro ag s σ H xs v Q I r h;obtain⟨x,mu,S,d,p,w,rfl,n,f,c,e⟩:=wd h;obtain⟨⟨b,ys⟩,g,c⟩:=oB1.mp c;obtain⟨k,m,c⟩:=oM1.mp c;cases c;obtain⟨a,vs,rfl,q,t⟩:=dI n f g;obtain⟨u,rfl,i⟩:=hC r;cases i;obtain⟨o,j,co,_⟩:=eK I q;obtain⟨bs,rfl,rfl⟩:=D8 t j m;exact walk_bools' (I.ok.hd hc) co λh' tk l=>⟨.bl _,H,I.kept l,O,e.now (.bl _) f⟩
theorem um:eA X (.type "int") (rN X.K (b1 pe)):=by
 intro ag s σ H xs c Q I r h;obtain⟨x,mu,S,d,g,j,rfl,f,e,a,hc⟩:=wd h;cases d with
 |int i=>cases a;cases f;exact pZ ag s σ H _ c Q I r (.inl ⟨i,O,hc.now (.int _) e⟩)
 |bl b=>cases a;cases f;exact pZ ag s σ H _ c Q I r (.inr ⟨b,O,hc.now (.int _) e⟩)
 |_=>cases a
theorem JS(hc:X.calm=M):eA X (.builtin "max") (rN X.K (b2 DN)):=by
 intro ag s σ H xs c Q I r h;obtain⟨x,y,mu,S,d,e,i,j,rfl,g,r2,f,a,b⟩:=zE h;unfold DN at a;split at a
 ·cases a;cases g;cases r2;exact yt hc ag s σ H _ c Q I r ⟨_,_,O,b.now (.int _) f⟩
 ·cases a
theorem ET(hc:X.calm=M):eA X (.builtin "min") (rN X.K (b2 vc)):=by
 intro ag s σ H xs c Q I r h;obtain⟨x,y,mu,S,d,e,i,j,rfl,g,r2,f,a,b⟩:=zE h;unfold vc at a;split at a
 ·cases a;cases g;cases r2;exact yr hc ag s σ H _ c Q I r ⟨_,_,O,b.now (.int _) f⟩
 ·cases a
end
open PySem.SeqAt
open PySem.AutoSeq1 (wpAny_loadPart')
open PySem.MeetsSeq PySem.MeetsSeq2 PySem.MeetsSeq3
def Ee(A:de)(s:c9)(y x:c8)(b:Bool):Prop:=∀(prog:db) (w:df) (E:c8->c9->Prop) (Q:c8->c9->Prop),Q (.bool b) s->dj (model prog w) A (richCompare .Lt y x) Q E s
inductive yD (A:de)(s:c9):List c8->List c8->Bool->Prop
 |nn:yD A s [] [] false
 |nc (y:c8) (ys:List c8):yD A s [] (y::ys) true
 |cn (x:c8) (xs:List c8):yD A s (x::xs) [] false
 |eq {x y:c8} {xs ys:List c8} {k:Bool} (e:EqAt A.in1 s x y true) (t:yD A s xs ys k):yD A s (x::xs) (y::ys) k
 |lt {x y:c8} {xs ys:List c8} {k:Bool} (e:EqAt A.in1 s x y false) (t:Ee A.in1 s x y k):yD A s (x::xs) (y::ys) k
theorem Fb(l b:da)(items items2:Array c8)(n z:Nat)(F r:Option da)(G q:Array (Option c8))(c:Bool):
  Meets (Builtin.«tuple.__lt__» ⟨[.ref l,.ref b],[]⟩) (fun A R s=>s.heap.get? l=some {cls:=.type "tuple",dict:=F,data:=.seq items n,slots:=G}/\s.heap.get? b=some {cls:=.type "tuple",dict:=r,data:=.seq items2 z,slots:=q} /\
    yD A s items.toList items2.toList c/\R (.ok (.ret (.bool c))) s):=
 .of_wp λprog w A R s h=>by
  obtain⟨u,g,d,tk,v⟩:=s;obtain⟨B,D,C,h⟩:=h;have I:=AutoSeq1.sub_tuple_tuple
  wp_walk using wpAny_loadPart' B,wpAny_loadPart' D,wpAny_forIn_list _ (λrest b s'=>b.1=Y/\s'=⟨u,g,d,tk,v⟩ /\ ∃vs ws:List c8,rest=vs.zip ws/\yD A ⟨u,g,d,tk,v⟩ vs ws c/\vs.length+items2.size=ws.length+items.size) _
  case turn=>
   rintro⟨y,x⟩ rest b s' ⟨j,rfl,vs,ws,f,o,a⟩;cases o with
   |nn=>cases f
   |nc _ _=>cases f
   |cn _ _=>cases f
   |eq e t=>
    rw[bS]at f;injection f with k i;injection k with m p;subst m p
    simp only[lC1]at a;refine wB1 (e prog w _ _ ?_)
    wp_walk
    exact⟨O,O,_,_,i,t,by lia⟩
   |lt e t=>
    rw[bS]at f;injection f with k i;injection k with m p;subst m p
    refine wB1 (e prog w _ _ ?_);have E:=t prog w
    wp_walk using E
    exact⟨_,O,by simpa using h⟩
  case fin=>
   rintro⟨b1,b2⟩ s' ⟨j,rfl,vs,ws,f,o,a⟩;simp only at j;subst j;have H:c=decide (items.size<items2.size):=by
    cases o with
    |nn=>simp only[bb]at a;exact(ai (by lia)).symm
    |nc _ _=>simp only[bb,lC1]at a;exact(ah (by lia)).symm
    |cn _ _=>simp only[bb,lC1]at a;exact(ai (by lia)).symm
    |eq _ _=>rw[bS]at f;cases f
    |lt _ _=>rw[bS]at f;cases f
   rw[H]at h
   wp_walk
   exact⟨_,O,by simpa[Builtin.Tuple.tupleCompareSizes]using h⟩
  case h=>exact⟨O,O,items.toList,items2.toList,O,C,by simp;lia⟩
theorem AE(l b:da)(items items2:Array c8)(n D:Nat)(H z:Option da)(I x:Array (Option c8))(c:Bool)(k:Nat):
  ∀i:Nat,items.size-i=k->i<=items.size->i<=items2.size->Meets (Builtin.«list.__eq__.loop» ⟨[.ref l,.ref b,rawInt i,rawInt 0],[]⟩)
   (λA R s=>s.heap.get? l=Z {cls:=.type "list",dict:=H,data:=.seq items n,slots:=I}/\s.heap.get? b=Z {cls:=.type "list",dict:=z,data:=.seq items2 D,slots:=x} /\
    yD A s (items.toList.drop i) (items2.toList.drop i) c/\R (.ok (.ret (.bool c))) s):=by
 induction k with
 |zero=>
  intro i K B r prog w A R s h;obtain⟨C,g,d,tk,E⟩:=s;obtain⟨f,j,a,h⟩:=h
  wp_walk using wpAny_loadPart' f,wpAny_loadPart' j
  have o:items[((i:Nat):Int).toNat]?=Y:=by simp;lia
  have v:items.toList.drop i=[]:=by simp;lia
  rw[v]at a;rw[o]
  wp_walk using wpAny_loadPart' f,wpAny_loadPart' j
  have ao:c=decide (items.size<items2.size):=by
   cases h2:items2.toList.drop i with
   |nil=>
    rw[h2]at a;cases a;have:=congrArg List.length h2;simp at this;exact(ai (by lia)).symm
   |cons y ys=>
    rw[h2]at a;cases a;have:=congrArg List.length h2;simp at this;exact(ah (by lia)).symm
  show R (.ok (.ret (.bool (decide (items.size<items2.size))))) _;rw[<- ao];exact h
 |succ k ih=>
  intro i K B r prog w A R s h;obtain⟨C,g,d,tk,E⟩:=s;obtain⟨f,j,a,h⟩:=h;have p:i<items.size:=by lia
  have v:items.toList.drop i=items[i]::items.toList.drop (i+1):=by simp[List.drop_eq_getElem_cons,p]
  have o:items[((i:Nat):Int).toNat]?=Z items[i]:=by simp[p]
  have hc:((i:Int)+1)=((i+1:Nat):Int):=by push_cast;rfl
  rw[v]at a;rcases bT i items2.size with m|F
  ·have u:items2.toList.drop i=items2[i]::items2.toList.drop (i+1):=by simp[List.drop_eq_getElem_cons,m]
   have q:items2[((i:Nat):Int).toNat]?=Z items2[i]:=by simp[m]
   rw[u]at a
   wp_walk using wpAny_loadPart' f,wpAny_loadPart' j
   rw[o,q];cases a with
   |eq e t=>
    refine wB1 (e prog w _ _ ?_)
    wp_walk
    rw[hc];exact⟨plainId_quiet plain_eq_loop _,wD1 entry_eq_loop (by rw[Around.under_plainId plain_eq_loop _];exact ih (i+1) (by lia) (by lia) (by lia) prog w A R _ ⟨f,j,t,h⟩)⟩
   |lt e t=>
    refine wB1 (e prog w _ _ ?_);have G:=t prog w
    wp_walk using wpAny_loadPart' f,wpAny_loadPart' j
    rw[o,q]
    wp_walk using G
    simpa using h
  ·have q:items2[((i:Nat):Int).toNat]?=Y:=by simp;lia
   have u:items2.toList.drop i=[]:=by simp;lia
   rw[u]at a;cases a
   wp_walk using wpAny_loadPart' f,wpAny_loadPart' j
   rw[o,q]
   wp_walk using wpAny_loadPart' f,wpAny_loadPart' j
   show R (.ok (.ret (.bool (decide (items.size<items2.size))))) _;rw[ai (by lia)];exact h
theorem GT(l b:da)(items items2:Array c8)(n m:Nat)(f e:Option da)(j a:Array (Option c8))(c:Bool):
  Meets (Builtin.«list.__lt__» ⟨[.ref l,.ref b],[]⟩) (fun A R s=>s.heap.get? l=some {cls:=.type "list",dict:=f,data:=.seq items n,slots:=j}/\s.heap.get? b=some {cls:=.type "list",dict:=e,data:=.seq items2 m,slots:=a} /\
    yD A s items.toList items2.toList c/\R (.ok (.ret (.bool c))) s):=by
 intro prog w A R s h;obtain⟨r,g,d,tk,p⟩:=s;obtain⟨i,k,o,h⟩:=h;have q:=AutoSeq1.sub_list_list
 wp_walk using wpAny_loadPart' i,wpAny_loadPart' k
 exact⟨plainId_quiet plain_eq_loop _,wD1 entry_eq_loop (by rw[Around.under_plainId plain_eq_loop _];exact AE l b items items2 n m f e j a c _ 0 O (bh _) (bh _) prog w A R _ ⟨i,k,by simpa using o,h⟩)⟩
theorem Fq{A:de}{s:c9}{k:Bool}{l b:da}{xs ys:Array c8}{c:Bool}(z:SCo k s.heap l xs)(y:SCo k s.heap b ys)(B:A.units<cLine)(h:yD A s xs.toList ys.toList c):Ee A s (.ref l) (.ref b) c:=λprog w E Q q=>by
 cases k
 ·obtain⟨⟨t,r,o,u⟩,m,hc,n,j⟩:=id z;obtain⟨⟨p,i,g,f⟩,d,e,v,a⟩:=id y;simp only at hc j e a;subst hc j e a;exact richCompare_meets_room (op:=.Lt) ⟨_,m,O⟩ ⟨_,d,O⟩ PySem.F.slot_tuple_lt PySem.F.entry_tuple_lt (PySem.F.args_tuple_lt_2 _ _) (Fb l b xs ys n v r i u f c) ⟨m,d,h,show Value.bool c≠Value.notImplemented/\Q (.bool c) s from⟨(λx=>nomatch x),q⟩⟩ B
 ·obtain⟨⟨t,r,o,u⟩,m,hc,n,j⟩:=id z;obtain⟨⟨p,i,g,f⟩,d,e,v,a⟩:=id y;simp only at hc j e a;subst hc j e a;exact richCompare_meets_room (op:=.Lt) ⟨_,m,O⟩ ⟨_,d,O⟩ PySem.F.slot_list_lt PySem.F.entry_list_lt (PySem.F.args_list_lt_2 _ _) (GT l b xs ys n v r i u f c) ⟨m,d,h,show Value.bool c≠Value.notImplemented/\Q (.bool c) s from⟨(λx=>nomatch x),q⟩⟩ B
def Jq(f g:D->D->Option Bool):List D->List D->Option Bool
 |[],[]=>Z J
 |[],_::_=>Z M
 |_::_,[]=>Z J
 |x::xs,y::ys=>(f x y).bind λb=>if b=M then Jq f g xs ys else g x y
def K3:D->D->Option Bool
 | .int i,.int j=>Z (decide (i<j))
 | .str x,.str y=>Z (decide (x.cps.toList<y.cps.toList))
 |_,_=>Y
def EC(S:Sto):Nat->D->D->Option Bool
 |0,_,_=>Y
 |n+1,d,e=>match K3 d e with
  |some b=>Z b
  |none=>match dP S d,dP S e with
   |some p,Z q=>if p.1=q.1 then Jq (kG S n) (EC S n) p.2 q.2 else Y
   |_,_=>Y
def gLt:G2:=λd e S=>(EC S d4 d e).map λb=>(.bl b,S)
section
variable{X:Cx}{ag:List (da×Obj)}{σ:L2.St}{H:Hp}{s:c9}{mu:List da}{S:Sto}
theorem GS(I:Inv X ag σ H s)(hs:Sim X.K H mu S){n:Nat}{A:de}(r:A.units+1+n<cLine)(ih:∀ {d e:D} {v w:V} {u z:c8} {b:Bool},eX X.K H mu d v->eX X.K H mu e w->dN v u->dN w z->EC S n d e=some b->Ee A.in1 s u z b):
  ∀{xs ys:List D} {vs ws:List V} {f zs:List c8} {b:Bool},dJ X.K H mu xs vs->dJ X.K H mu ys ws->dY vs f->dY ws zs->Jq (kG S n) (EC S n) xs ys=Z b->yD A s f zs b
 :=by
 intro xs
 induction xs with
 |nil=>
  intro ys vs ws f zs b a r2 g c h;cases a;cases g;cases r2 with
  |nil=>cases c;cases h;exact .nn
  |cons _ _=>cases c;cases h;exact .nc _ _
 |cons x xs m=>
  intro ys vs ws f zs b a r2 g c h;cases a with
  |cons a q=>
   cases g with
   |cons i o=>
    cases r2 with
    |nil=>cases c;cases h;exact .cn _ _
    |cons r2 p=>
     cases c with
     |cons j p2=>
      rw[Jq]at h;obtain⟨k,l,h⟩:=oB1.mp h;have eq:=(mf I hs n (A:=A.in1) r a r2 i j l).1;cases k with
      |true=>exact .eq eq (m q p o p2 h)
      |false=>exact .lt eq (ih a r2 i j h)
theorem AD(I:Inv X ag σ H s)(hs:Sim X.K H mu S):∀(n:Nat) {A:de} {d e:D} {v w:V} {u z:c8} {b:Bool},A.units+n<cLine->eX X.K H mu d v->eX X.K H mu e w->dN v u->dN w z->EC S n d e=Z b->Ee A s u z b
 |0,_,_,_,_,_,_,_,_,_,_,_,_,_,h=>by cases h
 |n + 1,A,d,e,v,w,u,z,b,U,o,m,f,i,h=>by
  rw[EC]at h;split at h
  ·rename_i k c;cases h;unfold K3 at c;split at c
   ·cases c;cases o;cases m;obtain⟨t,rfl⟩:=f;obtain⟨j,rfl⟩:=i;exact λprog w E Q q=>(PyProof.Rows.lt_int q:dj (model prog w) A (compareOp .Lt (.int _ t) (.int _ j)) Q E s)
   ·cases c;cases o;cases m;obtain⟨t,rfl⟩:=f;obtain⟨j,rfl⟩:=i;exact λprog w E Q q=>(PyProof.Rows.lt_str q:dj (model prog w) A (compareOp .Lt (.str _ t) (.str _ j)) Q E s)
   ·cases c
  ·split at h
   ·rename_i p q R T;split at h
    ·rename_i K;obtain⟨aq,xs⟩:=p;obtain⟨qb,ys⟩:=q;have g:aq=qb:=K;subst g;obtain⟨a,vs,rfl,G,N⟩:=dI o hs R;obtain⟨a2,P,rfl,C,B⟩:=dI m hs T;cases f;cases i;obtain⟨F,ao,co,_⟩:=eK I G;obtain⟨x,r,l,_⟩:=eK I C;refine Fq co l (by lia) ?_;have:=GS I hs (A:=A) (n:=n) (by lia) (λL r2 y au h=>AD I hs n (A:=A.in1) (by show A.units+1+n<cLine;lia) L r2 y au h) N B ao r h;simpa using this
    ·cases h
   ·cases h
theorem je(k:X.A.units+64<cLine):gg X (compareOp .Lt) (r2 X.K (b2 gLt)):=by
 intro ag s σ H x y u w Q I g i h;obtain⟨mu,S,d,e,r,l,j,r2,c,a,hc⟩:=uz h;obtain⟨b,f,a⟩:=oM1.mp a;cases a;exact AD I c d4 (by show _+60<cLine;lia) j r2 g i f X.prog X.w X.xe _ ⟨.bl b,H,I,O,hc.now (.bl b) c⟩
end
inductive Ty where
 |int|bool|str|tuple|list|dict
 deriving DecidableEq
def Ty.nm:Ty->String
 | .int=>"int" | .bool=>"bool" | .str=>"str" | .tuple=>"tuple" | .list=>"list" | .dict=>"dict"
noncomputable def jF (S:Sto)(T:Ty):D->Option Bool
 | .non=>some false
 | .bl _=>some (decide (T = .bool)||decide (T = .int))
 | .int _=>some (decide (T = .int))
 | .str _=>some (decide (T = .str))
 | .tup _=>some (decide (T = .tuple))
 | .rol _=>some (decide (T = .list))
 | .ref n=>match S[n]? with
  |some (.lst _)=>some (decide (T = .list))
  |some (.dct _)=>some (decide (T = .dict))
  |some (.dcT _)=>some (decide (T = .dict))
  |_=>none
 | .fn _=>none
def iK(T:Ty)(m:FE):FE:=λr S=>(m r S).bind λp=>(jF p.2 T p.1).map λb=>(.bl b,p.2)
section
variable{X:Cx}{ag:List (da×Obj)}{σ:L2.St}{H:Hp}{s:c9}{mu:List da}{S:Sto}{K:Fg1}
theorem Du(T:Ty):PySem.W.kitOne K (.type "NoneType") (.type T.nm)=Z J:=by cases T<;>rfl
theorem GZ(T:Ty):PySem.W.kitOne K (.type "bool") (.type T.nm)=Z (decide (T = .bool)||decide (T = .int)):=by cases T<;>rfl
theorem Dw(T:Ty):PySem.W.kitOne K (.type "int") (.type T.nm)=Z (decide (T = .int)):=by cases T<;>rfl
theorem Dt(T:Ty):PySem.W.kitOne K (.type "str") (.type T.nm)=Z (decide (T = .str)):=by cases T<;>rfl
theorem Ds(T:Ty):PySem.W.kitOne K (.type "tuple") (.type T.nm)=Z (decide (T = .tuple)):=by cases T<;>rfl
theorem Dv(T:Ty):PySem.W.kitOne K (.type "list") (.type T.nm)=Z (decide (T = .list)):=by cases T<;>rfl
theorem wG(T:Ty):PySem.W.kitOne K (.type "dict") (.type T.nm)=Z (decide (T = .dict)):=by cases T<;>rfl
theorem Dz{T:Ty}{d:D}{v:V}{u:c8}{b:Bool}{Q:c8->c9->Prop}{E:c8->c9->Prop}(I:Inv X ag σ H s)(hs:Sim X.K H mu S)(r:eX X.K H mu d v)(f:dN v u)(h:jF S T d=some b)(q:∀ tk,Q (.bool b) {s with toks:=tk}):
  dj (model X.prog X.w) X.A (call (.builtin "isinstance") [u,.type T.nm]) Q E s:=by
 have seq:∀{k:Bool} {a:da} {vs:List V},sv X.K k H a vs->b=(match k with|true=>decide (T = .list)|false=>decide (T = .tuple))->dj (model X.prog X.w) X.A (call (.builtin "isinstance") [.ref a,.type T.nm]) Q E s:=λ{k a vs} g m=>by
  obtain⟨y,A,co,_⟩:=eK I g;cases k
  ·obtain⟨o,e,c,_⟩:=co;subst m;exact PySem.W.kia_one PySem.W.kitx_tuple I.kIn ⟨o,e,c⟩ (Ds T) (λz=>nomatch z) q
  ·obtain⟨o,e,c,_⟩:=co;subst m;exact PySem.W.kia_one PySem.W.kitx_list I.kIn ⟨o,e,c⟩ (Dv T) (λz=>nomatch z) q
 cases d with
 |non=>cases h;cases r;exact iN I f .non (Du T) q
 |bl k=>cases h;cases r;exact iN I f (.bl k) (GZ T) q
 |int i=>cases h;cases r;exact iN I f (.int i) (Dw T) q
 |str x=>cases h;cases r;exact iN I f (.str x) (Dt T) q
 |tup xs=>
  cases h;obtain⟨a,vs,rfl,g,t⟩:=dI (S:=S) r hs O;cases f;exact seq g O
 |fn x=>cases h
 |rol xs=>
  cases h;obtain⟨a,vs,rfl,g,t⟩:=dI (S:=S) r hs O;cases f;exact seq g O
 |ref n=>
  rw[jF]at h;split at h
  ·rename_i xs e;cases h;obtain⟨a,vs,rfl,g,t⟩:=dI (S:=S) r hs (by rw[dP,e]);cases f;exact seq g O
  ·rename_i ks e;cases h;cases r with
   |ref l=>
    obtain⟨ws,j,_⟩:=hs.dct e l;exact iN I f (.dK j) (wG T) q
  ·rename_i ks e;cases h;cases r with
   | @ref _ a l=>
    cases(show u=Value.ref a from f);obtain⟨ws,j,_⟩:=hs.dcT e l;obtain⟨⟨_,_,o,_,_,w,p,_⟩,_⟩:=(show eI X.prog X.w H s.heap a (.ext (jS a ws))from I.hok a _ j);exact PySem.W.kia_one PySem.W.kitx_dict I.kIn ⟨o,w,p.1⟩ (wG T) (λz=>nomatch z) q
  ·cases h
theorem Bt(T:Ty):eA X (.builtin "isinstance") (λxs H Q=>∃x mu S d b,xs=[x,.ty T.nm]/\eX X.K H mu d x/\Sim X.K H mu S/\jF S T d=Z b/\Q (.bl b) H):=by
 intro ag s σ H xs g Q I r h;obtain⟨x,mu,S,d,b,rfl,f,e,c,hc⟩:=h;obtain⟨u,i,rfl,a,rt⟩:=yT r;cases rt;exact Dz I e f a c λtk=>⟨.bl b,H,I.tok tk,O,hc⟩
theorem xQ (T:Ty){e:Expr}{m:FE}{nm:Str}{p p2 pos:Pos}(hg:Gl X "isinstance")(hm:X.mg "isinstance"=none)(hg2:Gl X nm)(hm2:X.mg nm=none)(hv2:bootBuiltins nm=some (.type T.nm))(h:ME X e m)
  (hn:nm≠"__name__") (hd:(nm == ("__debug__":Str))=J)
  (hs1:dh [e,.Name nm p2] X.env=(J,eval e X.env)::dh [.Name nm p2] X.env) (hs2:dh [.Name nm p2] X.env=(J,eval (.Name nm p2) X.env)::dh [] X.env)
  (hpl:(backTo pos (dh [.Name nm p2] X.env)).any (·.1)=J):ME X (.Call (.Name "isinstance" p) [e,.Name nm p2] [] pos) (iK T m):=
 ez (nV (Bt T) hg hm (by decide+kernel) (iX h (iX (CQ (v:=.ty T.nm) hg2 hm2 hv2 O hn hd) lW hs2) hs1) (by decide) (by decide) hs1 hpl) <| by
  rintro σ H Q ⟨r,mu,S,d,o,i,j,hm,hc⟩;obtain⟨⟨c,n⟩,g,hm⟩:=oB1.mp hm;obtain⟨b,k,hm⟩:=oM1.mp hm;cases hm;refine⟨r,mu,S,c,_,i,j,g,λv H1 mu1 f l a=>?_⟩;exact⟨v,mu1,_,c,b,O,l,a,k,hc _ H1 mu1 f (.bl b) a⟩
end
abbrev FO:=Ev->Sto->Option (Option Int×Sto)
def L3(K:Fg1)(m:FO):TO:=fun σ H Q=>∃r mu S o S',fJ K H mu r σ/\Sim K H mu S/\m r S=Z (o,S') /\ ∀H' mu',Ext mu mu' H H'->Sim K H' mu' S'->Q o H'
abbrev MO(X:Cx)(e:Option Expr)(m:FO):Prop:=PO X e (L3 X.K m)
def ip:FO:=λ_ S=>Z (Y,S)
def io(m:FE):FO:=λr S=>(m r S).bind λp=>match p.1 with
 | .int i=>Z (Z i,p.2)
 |_=>Y
def iO(xs:List D)(lo hi:Option Int):List D:=(xs.drop (HT.sIx xs.length 0 lo)).take (HT.sIx xs.length xs.length hi-HT.sIx xs.length 0 lo)
section
variable{X:Cx}
theorem C7:MO X Y ip:=by
 rintro ag s σ H Q I ⟨r,mu,S,o,d,c,a,b,hc⟩;cases b;exact CD ag s σ H Q I (hc H mu (.refl _ _) a)
theorem C6{e:Expr}{m:FE}(h:ME X e m):MO X (Z e) (io m):=by
 rintro ag s σ H Q I ⟨r,mu,S,o,n,g,j,a,hc⟩;obtain⟨⟨d,l⟩,c,a⟩:=oB1.mp a;cases d with
 |int i=>
  cases a;refine CC h ag s σ H Q I ⟨r,mu,S,_,_,g,j,c,λv H1 mu1 b k f=>?_⟩;cases k;exact⟨i,O,hc H1 mu1 b f⟩
 |_=>cases a
theorem w4{K:Fg1}{H:Hp}{mu:List da}{ds:List D}{vs:List V}(t:dJ K H mu ds vs)(lo hi:Option Int):dJ K H mu (iO ds lo hi) (ub vs lo hi):=by
 unfold iO ub;rw[<- t.length];exact(t.drop _).take _
def Ie(ta:TA):TE:=fun σ H Q=>ta σ H λvs H1=>∃j:Int,vs=[.int j] /\ ∀p,H1 p=Y->Q (.ref p) (upd H1 p (.rng 0 j))
theorem py {a:Expr}{ta:TA}{p pos:Pos}(hg:Gl X "range")(hm:X.mg "range"=Y)(ha:PA X [a] ta)(hs:dh [a] X.env=[(J,eval a X.env)]):PE X (.Call (.Name "range" p) [a] [] pos) (Ie ta):=by
 intro ag s σ H Q I h;refine Call_ (jD I hg hm boot_range (PyProof.Rows.callWith_type1 (eY (ha pos ag s σ H _ I h) λk f ⟨vs,H1,c,i,d⟩=>?_) hs O));obtain⟨j,e,q⟩:=d;subst e;cases i with
 |cons r g=>
  cases g;obtain⟨t,rfl⟩:=r;refine call_range_1 ⟨.ref f.heap.objs.size,_,c.laid (λb o e=>hP1 _ e) (nR1 _) (o:=.rng 0 j) ?_,O,q _ (c.hok.fresh (nR1 _))⟩;exact⟨_,_,_,hS1 _ O⟩
def j4(i:Int):Nat->List V
 |0=>[]
 |n+1=>.int i::j4 (i+1) n
theorem jv:∀(n:Nat) (i:Int),(j4 i n).length=n
 |0,_=>rfl
 |n+1,i=>by rw[j4,lC1,jv n]
theorem nR:∀(n:Nat) (i:Int) (k:Nat) (v:V),(j4 i n)[k]?=Z v->v = .int (i+k)
 |0,i,k,v,h=>by simp[j4]at h
 |n+1,i,0,v,h=>by simp[j4]at h;rw[<- h];simp
 |n+1,i,k+1,v,h=>by
  rw[j4,gC1]at h;rw[nR n (i+1) k v h,show i+1+(k:Int)=i+((k+1:Nat):Int) by push_cast;lia]
theorem nQ{K:Fg1}{H:Hp}{mu:List da}:∀(n:Nat) (i:Int),dJ K H mu (gH i n) (j4 i n)
 |0,_=>.nil
 |n+1,i=>.cons (.int i) (nQ n (i+1))
theorem qm:∀{xs:List V} {a:List c8},xs.length=a.length->(∀(i:Nat) x u,xs[i]?=Z x->a[i]?=Z u->dN x u)->dY xs a
 |[],[],_,_=>.nil
 |x::xs,u::a,h,f=>.cons (f 0 x u O O) (qm (by simpa using h) λi y w h1 h2=>f (i+1) y w (by simpa using h1) (by simpa using h2))
 |[],_::_,h,_=>by simp at h
 |_::_,[],h,_=>by simp at h
theorem D3(hc:X.calm=M):eA X (.type "list") (λxs H Q=>∃p i j,xs=[.ref p]/\H p=Z (.rng i j)/\(-(2^62)<=i/\i<2^62 /\ -(2^62)<=j/\j<2^62)/\(j-i).toNat<=2^20 /\ ∀l,H l=Y->Q (.ref l) (upd H l (.lst (j4 i (j-i).toNat)))):=by
 intro ag s σ H xs F Q I r h;obtain⟨p,i,j,rfl,C,⟨h1,h2,E,y⟩,f,q⟩:=h;obtain⟨u,rfl,m⟩:=hC r;cases m;obtain⟨t,u,v,e⟩:=I.hok p _ C;have z:(((j-i).toNat:Nat):Int)=Builtin.Range.rangeSize i j 1:=by rw[rangeSize_one];split<;>lia
 refine call_list_range (n:=(j-i).toNat) (I.ok.hd hc) e (small_one h1 h2 E y) z.symm (aC f (by decide)) λh' tk a w D g hi=>?_;obtain⟨d,c⟩:=hi;have b:dY (j4 i (j-i).toNat) a.toList:=qm (by rw[jv];simpa using d.symm) λk x u o B=>by
  rw[nR _ _ _ _ o];obtain⟨A,rfl⟩:=c k u (by simpa using B);exact⟨A,by rw[Int.mul_one]⟩
 refine⟨.ref s.heap.objs.size,_,I.laid (t':=tk) D (nR1 _) (show eI X.prog X.w _ h' _ (.lst (j4 i (j-i).toNat))from⟨?_,a.toList,w,b,by simpa using g⟩),O,q _ (I.hok.fresh (nR1 _))⟩;rw[jv];exact aC f (by decide)
def my(i j:Int):Bool:=decide (-(2^62)<=i)&&decide (i<2^62)&&decide (-(2^62)<=j)&&decide (j<2^62)&&decide ((j-i).toNat<=2^20)
def xS(m:FA):FE:=λr S=>(m r S).bind λp=>match p.1 with
 |[.int j]=>if my 0 j=M then Z (.ref p.2.length,p.2++[.lst (gH 0 j.toNat)])else Y
 |_=>Y
theorem k8{i j:Int}(h:my i j=M):(-(2^62)<=i/\i<2^62 /\ -(2^62)<=j/\j<2^62)/\(j-i).toNat<=2^20:=by
 unfold my at h;simp only[bA1,am]at h;obtain⟨⟨⟨⟨h1,h2⟩,b⟩,c⟩,a⟩:=h;exact⟨⟨h1,h2,b,c⟩,a⟩
theorem GU{K:Fg1}{mu:List da}{H H1:Hp}{S1:Sto}{i j:Int}{Q:VK}{mu1:List da}(c:Ext mu mu1 H H1)(a:Sim K H1 mu1 S1)(hc:sy K mu H (.ref S1.length) (S1++[.lst (gH i (j-i).toNat)]) Q){p l:da}(hp:H1 p=none)(b:upd H1 p (.rng i j) l=none):
  Q (.ref l) (upd (upd H1 p (.rng i j)) l (.lst (j4 i (j-i).toNat))):=
 hc _ _ (mu1++[l]) ((c.trans (Ext.fresh hp)).trans (Ext.new_ b)) (.ref (gx a.len l)) ((a.fresh hp).newL (nQ _ _) b)
theorem xP {a:Expr}{m:FA}{e p2 b c:Pos}(hc:X.calm=true)(hg:Gl X "range")(hm:X.mg "range"=none)(hg2:Gl X "list")(hm2:X.mg "list"=none)(ha:MA X [a] m)(hs:dh [a] X.env=[(false,eval a X.env)])
  (hs2:dh [.Call (.Name "range" e) [a] [] b] X.env=[(J,eval (.Call (.Name "range" e) [a] [] b) X.env)]):ME X (.Call (.Name "list" p2) [.Call (.Name "range" e) [a] [] b] [] c) (xS m):=
 ez (jX (D3 hc) hg2 hm2 (by decide+kernel) (iX (py hg hm ha hs) lW hs2) (by decide) (by decide) hs2) <| by
  rintro σ H Q ⟨r,mu,S,d,w,o,hs,hm,f⟩;obtain⟨⟨ds,u⟩,i,hm⟩:=oB1.mp hm;dsimp only at hm;split at hm
  ·rename_i j;split at hm
   ·rename_i g;cases hm;refine⟨r,mu,S,_,_,o,hs,i,λvs H1 mu1 h t k=>?_⟩;obtain⟨v,rfl,s⟩:=la t;cases s;refine⟨j,O,λp q=>⟨p,0,j,O,dX,(k8 g).1,(k8 g).2,λl n=>GU h k (by rw[Int.sub_zero];exact f) q n⟩⟩
   ·cases hm
  ·cases hm
end
def gJ:G2:=λo v S=>match o with
 | .ref n=>match S[n]? with
  |some (.lst xs)=>if xs.length<di then Z (.non,S.set n (.lst (xs++[v])))else Y
  |_=>Y
 |_=>Y
def yc:G2:=λo i S=>match o,i with
 | .ref n,.int k=>match S[n]? with
  |some (.lst xs)=>if-(2^63)<=k/\k<2^63 then(xZ xs.length k).bind λj=>(xs[j]?).map λy=>(y,S.set n (.lst (xs.eraseIdx j)))else Y
  |_=>Y
 |_,_=>Y
noncomputable def mH (f:FN)(o:FE)(a:FA):FE:=λr S=>(o r S).bind λp=>match p.1 with
 | .ref n=>match p.2[n]? with
  |some (.lst _)=>(a r p.2).bind λq=>f (p.1::q.1) q.2
  |_=>none
 |_=>none
section
variable{X:Cx}
theorem Ib:HP X "list.append" (λx xs H Q=>rN X.K (b2 gJ) (x::xs) H Q):=by
 intro ag s σ H x xs v g Q I j m h;obtain⟨p,y,mu,S,d,e,q,r,l,o,r2,f,a,hc⟩:=zE h;cases l;cases d with
 |ref n=>
  rw[gJ]at a;split at a
  ·rename_i ys k;split at a
   ·rename_i i;cases a;cases o with
    |ref b=>
     obtain⟨vs,c,t⟩:=f.lst k b;refine pC ag s σ H _ [y] v g Q I j m ⟨_,vs,y,O,O,c,by rw[<- t.length];exact i,?_⟩;exact hc _ _ mu (Ext.put c trivial (gM1 b)) .non (f.putL (t.append (.cons r2 .nil)) b c)
   ·cases a
  ·cases a
 |_=>cases a
theorem Ek:HP X "list.pop" (λx xs H Q=>rN X.K (b2 yc) (x::xs) H Q):=by
 intro ag s σ H x xs v l Q I m B h;obtain⟨D,y,mu,S,d,e,E,F,r,C,r2,g,a,hc⟩:=zE h;cases r;unfold yc at a;split at a
 ·rename_i n k;split at a
  ·rename_i ys o;split at a
   ·rename_i i;obtain⟨j,A,a⟩:=oB1.mp a;obtain⟨z,q,a⟩:=oM1.mp a;cases a;cases C with
    |ref b=>
     cases r2;obtain⟨vs,c,t⟩:=g.lst o b;obtain⟨w,p,f⟩:=t.get q;refine An ag s σ H _ [.int k] v l Q I m B ⟨_,vs,k,j,w,O,O,c,i.1,i.2,?_,p,?_⟩
     ·rw[<- t.length];exact(rz A).1
     ·have x:=Ext.put (u:=.lst (vs.eraseIdx j)) c trivial (gM1 b);exact hc _ _ mu x (f.ext x) (g.putL (t.eraseIdx j) b c)
   ·cases a
  ·cases a
 ·cases a
theorem Au {o e:Expr}{es:List Expr}{m:FE}{a:FA}{f:FN}{name:Str}{apos cpos:Pos}{id:String}(slot:Slot "list" name id)(hty:typeOf (.builtin id)=pure (.type "method_descriptor"))(hm:HP X id (fun x xs H Q=>rN X.K f (x::xs) H Q))(ho:ME X o m)(ha:MA X (e::es) a)
  (hbase:attributeBase o name X.env (eval o X.env)=eval o X.env)
  (hfew:((backTo cpos (dh (e::es) X.env)).all (λx=> !x.1)&&(backToKw cpos (keywordEach [] X.env)).all (λx=>x.1.isSome)&&decide ((e::es).length+([]:List Keyword).length+(if([]:List Keyword).isEmpty then 0 else 1)<30))=M)
  (hline:(apos.endLine == cpos.line)=M) (hs:dh (e::es) X.env=(J,eval e X.env)::dh es X.env) (hplain:(backTo cpos (dh es X.env)).any (·.1)=J):
  ME X (.Call (.Attribute o name apos) (e::es) [] cpos) (mH f m a):=
 ez (IP PySem.F.plainAttrs_list slot hty hm ho ha hbase hfew hline hs hplain) <| by
  rintro σ H Q ⟨r,mu,S,d,A,p,hs,hm,hc⟩;obtain⟨⟨h,g⟩,q,hm⟩:=oB1.mp hm;refine⟨r,mu,S,h,g,p,hs,q,λv H1 mu1 l j k=>?_⟩;cases h with
  |ref n=>
   dsimp only at hm;split at hm
   ·rename_i xs B;obtain⟨⟨ds,i⟩,D,hm⟩:=oB1.mp hm;refine⟨?_,r,mu1,g,ds,i,p.ext l,k,D,λvs H2 b x2 r2 w=>?_⟩
    ·cases j with
     |ref z=>
      obtain⟨vs,C,t⟩:=k.lst B z;exact .inl ⟨O,vs,lP.of C⟩
    ·exact⟨b,i,.ref n::ds,d,A,.cons (j.ext x2) r2,w,hm,λu y c s=>hc u y c ((l.trans x2).trans s)⟩
   ·cases hm
  |_=>cases hm
end
theorem Cz{X:Cx}(hc:X.calm=true){elt tg iter:Expr}{ifs:List Expr}{rest:List Comprehension}{scope:dq}{pos n R:Pos}{y:Str}{i:Nat}{T:List Str}{keep:List Nat}{t:List (Str×da)}{wi:TI}{g:TG}{ti:TT}{tb:da->TS}{emit:c8->Env->Sem Unit}(ar:swapsWith (.ListComp elt (⟨tg,iter,ifs,0⟩::rest) scope pos) (some (.Name y R)) n.line X.env=pure true)(eq:∀it u k,compTurn (.ListComp elt (⟨tg,iter,ifs,0⟩::rest) scope pos) 0 it u k=sL iter.pos tg ifs it k (emit u k) (.compLoop (.ListComp elt (⟨tg,iter,ifs,0⟩::rest) scope pos) 0 it u k))(C:Ke X scope T keep)(F:ka X.env.cells scope.names []=some t)(hi:PI X tg iter wi)(hb:∀s H d p,PG (cxC X scope t T keep s H d) tg g/\pj (cxC X scope t T keep s H d) ifs ti/\PU (cxC X scope t T keep s H d) (emit (.ref p) (cxC X scope t T keep s H d).env) (tb p))(hN:X.N.Nodup)(hy:X.N[i]?=some y)(hx:yw X.env.scope y)(hf:X.fn y=true\/X.env.scope.names.lookup y=some .local)(hs:∀x,foldedSetIterable iter X.env x=pure x):
  PS X (.Assign [.Name y R] (.ListComp elt (⟨tg,iter,ifs,0⟩::rest) scope pos) n) (zl (zj T.length keep wi g ti tb) (wO i)):=by
 intro ag s σ H D I h;rw[exec_Assign_Name_used _ _ _ _ ar];refine wB1 (wpAny_standAt (wB1 ?_));show dj _ X.A (do let _<-comprehension (.ListComp elt (⟨tg,iter,ifs,0⟩::rest) scope pos) scope X.env _ (newList []) J (eval iter X.env) (Z (assign (.Name y R) X.env))) _ _ s;refine wB1 (wpAny_mono (wpAny_comprehension_free (use:=Z (assign (.Name y R) X.env)) (Q:=λ_ s'=>SP X ag D .next s') O hs (Bo F) C.kind C.names ?_) (λ_ s' hq=>wP1 (wP1 hq)) λ_ _ e=>e);refine eY (hi ag s σ H _ I h) λv s1 h1=>eY h1 λitv a h2=>?_;obtain⟨it,d,tn,ao,H2,rfl,I2,TT,G,f2,q2⟩:=h2;refine wO1 ?_;have w:Inv X ag σ (upd H2 a.heap.objs.size (.lst [])) {a with heap:=a.heap.push {cls:=.type "list",data:=.seq ([]:List c8).toArray}}:=I2.lnew (t':=a.toks) .nil (bh _);have old:∀b∈d,∃o,a.heap.get? b=Z o:=λb hb=>by
  obtain⟨o,e,_⟩:=TT.obj 0 a.heap G b hb;exact⟨o,e⟩
 have W:∀b∈d,b≠a.heap.objs.size:=λb hb z=>by
  obtain⟨o,e⟩:=old b hb;have:=hL1 e;rw[z]at this;exact az _ this
 have au:∀b∈d,kb X ag (upd H2 a.heap.objs.size (.lst [])) b:=λb hb=>⟨by rw[dU (W b hb)];exact(f2 b hb).1,(f2 b hb).2⟩;have o3:∀b∈d,∃o,({a with heap:=a.heap.push {cls:=.type "list",data:=.seq ([]:List c8).toArray}}:c9).heap.get? b=Z o:=λb hb=>by
  obtain⟨o,e⟩:=old b hb;exact⟨o,hP1 _ e⟩
 have P:=tU w C F au o3;obtain⟨hg,wq,he⟩:=hb {a with heap:=a.heap.push {cls:=.type "list",data:=.seq ([]:List c8).toArray}} (upd H2 a.heap.objs.size (.lst [])) d a.heap.objs.size;refine kj ?_;have f4:∀b∈d,kb (cxC X scope t T keep {a with heap:=a.heap.push {cls:=.type "list",data:=.seq ([]:List c8).toArray}} (upd H2 a.heap.objs.size (.lst [])) d) [] (upd H2 a.heap.objs.size (.lst [])) b:=λb hb=>
  ⟨(au b hb).1,(P.ok.exf b hb).1,P.ok.exfs b hb,.inl hb,(P.ok.exf b hb).2,λp E=>absurd (show p∈([]:List (da×Obj))from E) (by simp)⟩
 have L:tn 0 (pushCells ((a.heap.push {cls:=.type "list",data:=.seq ([]:List c8).toArray}).push {cls:=.type "dict",data:=.dict #[]}) scope.names):=
  TT.keep 0 a.heap _ G λb hb o e=>pushCells_keeps scope.names _ b o (hP1 _ (hP1 _ e))
 have l:=pX (X:=cxC X scope t T keep {a with heap:=a.heap.push {cls:=.type "list",data:=.seq ([]:List c8).toArray}} (upd H2 a.heap.objs.size (.lst [])) d) O hc (eq (.ref it) (.ref a.heap.objs.size) _) TT hg wq he P L f4
  (q2 a.heap.objs.size (I2.hok.fresh (nR1 _)))
 refine codeAny_mono (codeAny_compStart_list l (TT.self X.A 0 _ _ _ L l)) λr s' hr=>?_;cases r with
 |error e=>exact hr.elim
 |ok f=>
  obtain⟨σ',H',B,q'⟩:=hr;have J1:Inv X ag σ H' s':=w.call' (s':=s') (ch:=d) B.os B.base B.hok B.bare λb hb=>(au b hb).2.2.2 |> λz=>⟨z.1,(au b hb).2.1,z.2.1,z.2.2⟩
  -- the block's own dict is kept aside
  obtain⟨m,hn,_⟩:=id B.loc;obtain⟨N,es,ep,eC,dC,rC⟩:=id hn;have hCz:(a.heap.push {cls:=.type "list",data:=.seq ([]:List c8).toArray}).get? (a.heap.push {cls:=.type "list",data:=.seq ([]:List c8).toArray}).objs.size=Y:=Heap.get?_none_of_le (nR1 _);have K:(a.heap.push {cls:=.type "list",data:=.seq ([]:List c8).toArray}).objs.size≠X.env.locals:=λz=>by
   have:=w.lt;rw[<- z]at this;exact az _ this
  have V:H' (a.heap.push {cls:=.type "list",data:=.seq ([]:List c8).toArray}).objs.size=Y:=B.free;have J2:Inv X (ag++[((a.heap.push {cls:=.type "list",data:=.seq ([]:List c8).toArray}).objs.size,N)]) σ H' s':=J1.pins_of λp E=>by
   rcases aF.mp E with z|z
   ·exact J1.pin p (mA1 _ z)
   ·have z':p=((a.heap.push {cls:=.type "list",data:=.seq ([]:List c8).toArray}).objs.size,N):=by simpa using z
    subst z';exact⟨eC,V,K,w.nofs (nR1 _),λv q=>by rw[dC]at q;cases q⟩
  refine eY (wg hN hy hx hf _ s' σ H' (.ref a.heap.objs.size) (.ref a.heap.objs.size) D.nx J2 O q') λ_ s5 ⟨aq,H5,J5,q5⟩=>?_;obtain⟨e5,n5,_⟩:=J5.pin ((a.heap.push {cls:=.type "list",data:=.seq ([]:List c8).toArray}).objs.size,N) (mA1 _ (mA1 _ mS1));refine⟨m,⟨N,es,ep,e5,dC,rC⟩,λh' S=>?_⟩;have J6:Inv X ag aq H5 s5:=J5.unpinned;refine⟨aq,H5,J6.turned (t':=s5.toks) (λb o hb e=>(S.2 b hb).trans e) n5 K (.inr ?_) (λx c A z=>?_) (λp E z=>?_),q5⟩
  ·exact w.sz
  ·obtain⟨w',zc⟩:=w.cell x c A;have j:=zc.lt;rw[z]at j;exact az _ j
  ·obtain⟨U,_⟩:=w.pin p E;have j:=hL1 U;rw[z]at j;exact az _ j
section
variable{X:Cx}
theorem HE{K:Fg1}{te:TE}{m:FE}{i:Nat}(hm:∀ σ H Q,tM K m σ H Q->te σ H Q){E:jR}{σ:L2.St}{H:Hp}(h:vV K (dL m (gN i)) E σ H):zl te (wO i) E σ H:=by
 obtain⟨r,mu,S,d,o,h1,h2,c,j⟩:=rm h;refine hm _ _ _ ⟨r,mu,S,d,o,h1,h2,c,λv H' mu' f p g=>?_⟩;obtain⟨r2,a,u,t,q,s,b,n,l,k,e⟩:=j v H' mu' f p g;cases k;exact e _ H' a (.refl _ _) (b.set l) n
theorem mv (i:Nat){x:Str}{pos:Pos}(hN:X.N[i]? = some x)(hv:Ed X.env.scope x)(hd:(x == ("__debug__":Str))=false)(hcd:(x == ("__classdict__":Str))=false):
  ME X (.Name x pos) (mV i):=GD i hN hv hd hcd
end
def Own(P:db)(w:df)(K:Fg1)(mg:Str->Option c8)(base:dk)(k:Nat)(x:Str)(n:Nat)(m:FN):Prop:=
 ∃(f:da) (fd:dm) (ps:List Str),jQ P w K mg base uw k f fd ps (spM K n m)/\jj K fd ps []/\wK1 K (.ref f)=M/\mg x=Z (.ref f)
theorem GG {X:Cx}{k k' n:Nat}{x:Str}{m:FN}{p pos:Pos}{e:Expr}{es:List Expr}{a:FA}(h:Own X.prog X.w X.K X.mg X.base k x n m)(hr:fI k' X.A)(hk:k<=k')(hg:Gl X x)(ha:MA X (e::es) a)(hdb:(x == ("__debug__":Str))=false)
  (he:dh (e::es) X.env=(J,eval e X.env)::dh es X.env) (hpl:(backTo pos (dh es X.env)).any (·.1)=J):ME X (.Call (.Name x p) (e::es) [] pos) (mN (dy n m) a):=by
 obtain⟨f,fd,ps,F,b,c,d⟩:=h;exact De F (hr.mono hk) hg d c b ha hdb he hpl
theorem F8{P:db}{w:df}{K:Fg1}{mg:Str->Option c8}{base:dk}{x a:Str}{st:dn}{f:da}{fd:dm}{N ps:List Str}{k n:Nat}{b:FS}(F:xi K x a st f fd)(hb:jj K fd ps [])(hm:mg x=some (.ref f))(S:gD N ps (dQ st))(hn:ps.length=n)(d:∀(e:c8) (A:de) (c:List Env) (s:c9) (H:Hp) (E:XK),fI k (A.deeper (envOfC a (dQ st) s.heap.objs.size f e)) ->
   yv (m5 uw P w K mg base N a (dQ st) f e A c s H E).nox (ft st) b):Own P w K mg base (k+1) x n (ig N.length b):=by
 subst hn;exact⟨f,fd,ps,JH F S d,hb,F.kp,hm⟩
def CGl(K:Fg1)(mg:Str->Option c8)(x:Str)(d:D):Prop:=∃(v:V) (u:c8),mg x=Z u/\dN v u /\ ∀H mu,eX K H mu d v
theorem Dd {X:Cx}{x:Str}{d:D}{pos:Pos}(h:CGl X.K X.mg x d)(hg:Gl X x)(hd:(x == ("__debug__":Str))=J):ME X (.Name x pos) (mC d):=by
 obtain⟨v,u,a,r,q⟩:=h;exact Ay d (CM hg a r hd) q
def fQ:List Bool->Ev->Ev
 |true::bs,o::r=>o::fQ bs r
 |false::bs,_::r=>Y::fQ bs r
 |[],_::r=>Y::fQ [] r
 |_,[]=>[]
def kU:Ev->Bool
 |[]=>M
 |none::r=>kU r
 |some d::r=>d.und 0&&kU r
noncomputable def pE (ki ko:List Bool)(b:FS):FS:=fun r S=>if kU (fQ ki r)=true then
  (b (fQ ki r) []).bind λp=>match p.1 with
   | .rt d=>if d.und 0=true then some (.rt d,[],S)else none
   |f=>if kU (fQ ko p.2.1)=true then some (f,fQ ko p.2.1,S)else none
 else none
theorem jY:∀(bs:List Bool) (r:Ev),(fQ bs r).length=r.length
 |true::bs,o::r=>congrArg (· + 1) (jY bs r)
 |false::bs,o::r=>congrArg (· + 1) (jY bs r)
 |[],o::r=>congrArg (· + 1) (jY [] r)
 |[],[]=>rfl
 |true::_,[]=>rfl
 |false::_,[]=>rfl
theorem jZ:∀(bs:List Bool) (r:Ev) (i:Nat) (d:D),(fQ bs r)[i]?=Z (Z d)->r[i]?=Z (Z d)
 |true::bs,o::r,0,d,h=>h
 |true::bs,o::r,i+1,d,h=>by
  rw[gC1];exact jZ bs r i d (by rw[fQ,gC1]at h;exact h)
 |false::bs,o::r,0,d,h=>by simp[fQ]at h
 |false::bs,o::r,i+1,d,h=>by
  rw[gC1];exact jZ bs r i d (by rw[fQ,gC1]at h;exact h)
 |[],o::r,0,d,h=>by simp[fQ]at h
 |[],o::r,i+1,d,h=>by
  rw[gC1];exact jZ [] r i d (by rw[fQ,gC1]at h;exact h)
 |[],[],i,d,h=>by simp[fQ]at h
 |true::_,[],i,d,h=>by simp[fQ]at h
 |false::_,[],i,d,h=>by simp[fQ]at h
theorem lU:∀(r:Ev) (i:Nat) (d:D),kU r=M->r[i]?=Z (Z d)->d.und 0=M
 |none::r,0,d,_,h=>by simp at h
 |none::r,i+1,d,hs,h=>lU r i d hs (by simpa using h)
 |some e::r,0,d,hs,h=>by
  rw[kU,bA1]at hs;simp at h;subst h;exact hs.1
 |some e::r,i+1,d,hs,h=>by
  rw[kU,bA1]at hs;exact lU r i d hs.2 (by simpa using h)
theorem fJ.mask{K:Fg1}{H:Hp}{mu mu':List da}{r:Ev}{σ:L2.St}{bs:List Bool}(h:fJ K H mu r σ)(hs:kU (fQ bs r)=M):fJ K H mu' (fQ bs r) σ:=
 ⟨by rw[jY];exact h.len,λi d e=>by
  obtain⟨v,c,a⟩:=h.val i d (jZ bs r i d e);exact⟨v,c,a.cut (n:=0) (λk b=>absurd b (bv _)) (lU _ i d hs e)⟩⟩
theorem AB{K:Fg1}{m w:List Bool}{b:FS}{E:jR}{σ:L2.St}{H:Hp}(h:vV K (pE m w b) E σ H):vV K b E σ H:=by
 obtain⟨r,mu,S,f,B,C,t,j,c,hc⟩:=h;unfold pE at c;split at c
 ·rename_i y;obtain⟨⟨l,A,q⟩,p,c⟩:=oB1.mp c;refine⟨fQ m r,[],[],l,A,q,t.mask y,.nil,p,?_⟩;have back:∀{H':Hp} {mu':List da},Ext [] mu' H H'->Ext mu mu H H':=λ{H' mu'} x=>⟨bn,λa o e _=>x.old a o e (by simp),x.tup,x.frz,λ_ z=>.inl z⟩;have keep:∀{H':Hp} {mu':List da},Ext [] mu' H H'->Sim K H' mu S:=λ{H' mu'} x=>⟨j.len,j.nd,λn o a h1 h2=>(j.ob n o a h1 h2).keep (back x) λo e=>x.old a o e (by simp)⟩;cases l with
  |rt d=>
   dsimp only at c;split at c
   ·rename_i i;cases c;exact λv H' mu' x r s=>hc v H' mu (back x) (r.cut (n:=0) (λk u=>absurd u (bv _)) i) (keep x)
   ·cases c
  |nx=>
   dsimp only at c;split at c
   ·rename_i i;cases c;exact λg H' mu' x r s=>hc g H' mu (back x) (r.mask i) (keep x)
   ·cases c
  |bk=>
   dsimp only at c;split at c
   ·rename_i i;cases c;exact λg H' mu' x r s=>hc g H' mu (back x) (r.mask i) (keep x)
   ·cases c
  |ct=>
   dsimp only at c;split at c
   ·rename_i i;cases c;exact λg H' mu' x r s=>hc g H' mu (back x) (r.mask i) (keep x)
   ·cases c
 ·cases c
theorem Ao{X:Cx}{sts:List dn}{b:FS}(a c:List Bool)(h:yv X sts b):yv X sts (pE a c b):=qL h λ_ _ _=>AB
def CV(K:Fg1)(d:D)(u:c8):Prop:=∃v:V,dN v u /\ ∀H mu,eX K H mu d v
section
variable{K:Fg1}
theorem Hs{mg:Str->Option c8}{x:Str}{d:D}{u:c8}(hm:mg x=Z u)(h:CV K d u):CGl K mg x d:=by
 obtain⟨v,r,q⟩:=h;exact⟨v,u,hm,r,q⟩
end
theorem jW{K:Fg1}{H:Hp}{mu:List da}:∀ns:List Int,dJ K H mu (ns.map D.int) (ns.map V.int)
 |[]=>.nil
 |n::ns=>.cons (.int n) (jW ns)
theorem GW{K:Fg1}{m:FN}(hm:∀ ns:List Int,ns.length<=63 -> ∃ S,m [.rol (ns.map D.int)] []=some (.bl true,S))(H:Hp)(a:da)(ns:List Int)(b:ns.length<=63)(c:Ef H)(f:lP K H a (ns.map V.int)):
  spM K 1 m [.ref a] H (λv _=>v = .bl M) λ_ _ _=>False:=by
 refine⟨O,?_⟩;obtain⟨S,e⟩:=hm ns b;have d:RoL K H a (ns.map V.int):=by
  rcases f with h|h
  ·rcases h with h|h
   ·rcases c a with z|⟨o,xs,z⟩
    ·rw[h]at z;cases z
    ·rw[h]at z;cases z
   ·exact .inl h
  ·exact .inr h
 refine⟨[],[],[.rol (ns.map D.int)],.bl M,S,.cons (.rol d (jW ns)) .nil,.nil,e,λv H' mu' x r s=>?_⟩;cases r;rfl
theorem walk_m{l:PySem.W.OpenLaw}{q:db}{b:List Str}{XP:(Str->Option c8)->dk->Prop}{g:df->dk->Prop}{d:DefRec}{K:Params->Fg1}{m:FN}{k:Nat}{x:Str}(hn:l.most=some 63)(c:d.params.defaults=[])(hr:fI k callerA)(p:∀(w:df) (h:dk),g w h->(K w.params).In h)(hm:∀ns:List Int,ns.length<=63 -> ∃S,m [.rol (ns.map D.int)] []=some (.bl true,S))(F:∀(w:df) (mg:Str->Option c8) (e:da) (h:dk),(K w.params).In h->h.Ns dg mg->mg d.name=some (.ref e) ->
   ∃fd:dm,(∀(s:c9) (u:c8),BindsTo s fd ⟨[u],[]⟩ [(x,u)]) /\ ∀base:dk,(K w.params).In base->base.Ns dg mg->jQ l.prog w (K w.params) mg base uw k e fd [x] (spM (K w.params) 1 m)):
  PySem.W.WalkO q b XP g l.row.toRowW d [] (λf vs=>PySem.call f vs):=
 L2.B3 (n:=63) (k:=k) (x:=x) (CX:=λ_=>uw) (sp:=λw=>spM (K w.params) 1 m) hn (by decide) c hr p F (λ_ H a ns j o i=>GW hm H a ns j o i) λ_ _ _ _ _ z=>z
structure XE (X:Cx)(e:Expr)(m:FE):Prop where
 h:ME X e m
structure XT (X:Cx)(e:Expr)(m:FT):Prop where
 h:MT X e m
structure XW (X:Cx)(e:Expr)(m:FT):Prop where
 h:MW X e m
structure XA (X:Cx)(e:List Expr)(m:FA):Prop where
 h:MA X e m
structure XS (X:Cx)(e:dn)(m:FS):Prop where
 h:MS X e m
structure vz (X:Cx)(e:List dn)(m:FS):Prop where
 h:yv X e m
structure XI (X:Cx)(tg e:Expr)(m:FI):Prop where
 h:MI X tg e m
structure XG (X:Cx)(e:Expr)(m:FG):Prop where
 h:MG X e m
structure Ku (X:Cx)(e:List Expr)(m:BO):Prop where
 h:Ka X e m
structure XO (X:Cx)(e:Option Expr)(m:FO):Prop where
 h:MO X e m
structure XF (X:Cx)(K:Fg1)(ifs:List Expr)(t:FT):Prop where
 h:pj X ifs (B8 K t)
theorem eE{X:Cx}:XF X X.K [] fx:=⟨C9⟩
theorem kP{X:Cx}{c:Expr}{t:FT}(h:XT X c t):XF X X.K [c] t:=⟨C8 h.h⟩
theorem xk{X:Cx}{sts:List dn}{b:FS}(a c:List Bool)(h:vz X sts b):vz X sts (pE a c b):=⟨Ao a c h.h⟩
section
variable{X:Cx}{pos:Pos}
theorem qK{i:Int}{j}:XE X (.Constant (.int i) j pos) (mC (.int i)):=⟨GL⟩
theorem eQ{b:Bool}{j}:XE X (.Constant (.bool b) j pos) (mC (.bl b)):=⟨Jo⟩
theorem ik{j}:XE X (.Constant .none j pos) (mC .non):=⟨GJ⟩
theorem d3{x:Str}{j}:XE X (.Constant (.str x) j pos) (mC (.str x)):=⟨GF⟩
end
section
variable{X:Cx}{pos:Pos}{e:Expr}{es:List Expr}{m:FE}{n:FA}
theorem qN:XA X [] dt:=⟨GP⟩
theorem qA(h:XE X e m)(ht:XA X es n)(hs:dh (e::es) X.env=(J,eval e X.env)::dh es X.env:=by rfl):XA X (e::es) (dr m n):=⟨Df (h:=h.h) (ht:=ht.h) (hs:=hs)⟩
end
section
variable{X:Cx}{K:Fg1}{f:FN}{a b:FE}{σ:L2.St}{H:Hp}{Q:VK}
theorem qI{op:Operator}{x y:Expr}{pos:Pos}(ho:gg X (binaryOp op) (r2 X.K f))(hx:XE X x a)(hy:XE X y b):XE X (.BinOp x op y pos) (m2 f a b):=⟨Jk (ho:=ho) (hx:=hx.h) (hy:=hy.h)⟩
theorem nu{op:UnaryOp}{x:Expr}{pos:Pos}(ho:HW X (unaryOp op) (λx H Q=>rN X.K f [x] H Q))(hx:XE X x a):XE X (.UnaryOp op x pos) (m1 f a):=⟨Jj (ho:=ho) (hx:=hx.h)⟩
theorem B1{op:CmpOp}{x y:Expr}{pos:Pos}(ho:gg X (compareOp op) (r2 X.K f))(hx:XE X x a)(hy:XE X y b)(hm:behindInMarks op y=J):XE X (.Compare x [op] [y] pos) (m2 f a b):=⟨GM (ho:=ho) (hx:=hx.h) (hy:=hy.h) (hm:=hm)⟩
theorem qJ{x y:Expr}{pos:Pos}(ho:E2 X (r2 X.K f))(hx:XE X x a)(hy:XE X y b)(hs:nr y):XE X (.Subscript x y pos) (m2 f a b):=⟨Jl (ho:=ho) (hx:=hx.h) (hy:=hy.h) (hs:=hs)⟩
theorem qD {x:Str}{p pos:Pos}{e:Expr}{es:List Expr}{id:String}{a:FA}(hc:eA X (.builtin id) (rN X.K f))(hg:Gl X x)(hm:X.mg x=Y)(hv:bootBuiltins x=Z (.builtin id))(ha:XA X (e::es) a)(hn:x≠"__name__":=by decide)(hdb:(x == ("__debug__":Str))=J:=by decide)(he:dh (e::es) X.env=(J,eval e X.env)::dh es X.env:=by rfl)(hpl:(backTo pos (dh es X.env)).any (·.1)=J:=by rfl):XE X (.Call (.Name x p) (e::es) [] pos) (mN f a):=⟨Ax (hc:=hc) (hg:=hg) (hm:=hm) (hv:=hv) (ha:=ha.h) (hn:=hn) (hdb:=hdb) (he:=he) (hpl:=hpl)⟩
theorem qE {x:Str}{p pos:Pos}{e:Expr}{es:List Expr}{T:String}{a:FA}(hc:eA X (.type T) (rN X.K f))(hg:Gl X x)(hm:X.mg x=Y)(hv:bootBuiltins x=Z (.type T))(ha:XA X (e::es) a)(hn:x≠"__name__":=by decide)(hdb:(x == ("__debug__":Str))=J:=by decide)(he:dh (e::es) X.env=(J,eval e X.env)::dh es X.env:=by rfl)(hpl:(backTo pos (dh es X.env)).any (·.1)=J:=by rfl):XE X (.Call (.Name x p) (e::es) [] pos) (mN f a):=⟨xR (hc:=hc) (hg:=hg) (hm:=hm) (hv:=hv) (ha:=ha.h) (hn:=hn) (hdb:=hdb) (he:=he) (hpl:=hpl)⟩
end
section
variable{X:Cx}{x y c:Expr}{rest:List Expr}{pos:Pos}{a b:FT}{f g:FE}
theorem qX{op:CmpOp}{f:FN}{a b:FE}(ho:gg X (compareOp op) (r2 X.K f))(hx:XE X x a)(hy:XE X y b)(hm:behindInMarks op y=J):XT X (.Compare x [op] [y] pos) (mB (m2 f a b)):=⟨Gq (ho:=ho) (hx:=hx.h) (hy:=hy.h) (hm:=hm)⟩
theorem kN(ha:XT X x a):XW X (.BoolOp .And [x] pos) a:=⟨C2 (ha:=ha.h)⟩
theorem gZ(ha:XT X x a):XW X (.BoolOp .Or [x] pos) a:=⟨Gm (ha:=ha.h)⟩
theorem m7(ha:XT X x a)(hb:XW X (.BoolOp .And (y::rest) pos) b):XW X (.BoolOp .And (x::y::rest) pos) (rn a b):=⟨Gn (ha:=ha.h) (hb:=hb.h)⟩
theorem gv(ha:XT X x a)(hb:XW X (.BoolOp .Or (y::rest) pos) b):XW X (.BoolOp .Or (x::y::rest) pos) (mOr a b):=⟨Ja (ha:=ha.h) (hb:=hb.h)⟩
theorem iC(h:XW X x a):XT X x a:=⟨K2 (h:=h.h)⟩
theorem fe(ha:XT X x a):XT X (.UnaryOp .Not x pos) (gI a):=⟨Gp (ha:=ha.h)⟩
theorem gh{op}(h:XE X x f):XE X (.BoolOp op [x] pos) f:=⟨GH (h:=h.h)⟩
theorem gz(ha:XE X x f)(hb:XE X (.BoolOp .And (y::rest) pos) g):XE X (.BoolOp .And (x::y::rest) pos) (iL f g):=⟨GN (ha:=ha.h) (hb:=hb.h)⟩
theorem qg(ha:XE X x f):XE X (.UnaryOp .Not x pos) (pF f):=⟨GI (ha:=ha.h)⟩
theorem uH(hc:XT X c a)(hx:XE X x f)(hy:XE X y g):XE X (.IfExp c x y pos) (HS a f g):=⟨Jm (hc:=hc.h) (hx:=hx.h) (hy:=hy.h)⟩
end
section
variable{X:Cx}{x y z:Expr}{pos:Pos}{f g:FN}{a b c:FE}{op op':CmpOp}
theorem xl(ho:gg X (compareOp op) (r2 X.K f))(ho':gg X (compareOp op') (r2 X.K g))(hx:XE X x a)(hy:XE X y b)(hz:XE X z c)(hm:lastMarks [op,op'] [y,z]=J:=by with_unfolding_all rfl):XE X (.Compare x [op,op'] [y,z] pos) (GR f g a b c):=⟨Av (ho:=ho) (ho':=ho') (hx:=hx.h) (hy:=hy.h) (hz:=hz.h) (hm:=hm)⟩
end
section
variable{X:Cx}{pos:Pos}{e c:Expr}{st:dn}{rest as bs:List dn}{a b:FS}{m:FE}{t:FT}
theorem qQ:vz X [] jk:=⟨C4⟩
theorem qF(h1:XS X st a)(h2:vz X rest b):vz X (st::rest) (dH a b):=⟨Ap (h1:=h1.h) (h2:=h2.h)⟩
theorem qG(h1:XS X st a):vz X [st] a:=⟨C3 (h1:=h1.h)⟩
theorem yH(h:XE X e m)(hs:swapsWith e Y pos.line X.env=pure J:=by rfl):XS X (.Expr e pos) (eU m):=⟨C5 (h:=h.h) (hs:=hs)⟩
theorem qU(h:XE X e m):XS X (.Return (Z e) pos) (d6 m):=⟨Gs (h:=h.h)⟩
theorem qV(hc:XT X c t)(ha:vz X as a)(hb:vz X bs b):XS X (.If c as bs pos) (eJ t a b):=⟨Jb (hc:=hc.h) (ha:=ha.h) (hb:=hb.h)⟩
end
section
variable{X:Cx}{pos:Pos}
theorem qO(i:Nat){x:Str}(hN:X.N.Nodup)(hi:X.N[i]?=Z x)(hx:yw X.env.scope x)(hf:X.fn x=M\/X.env.scope.names.lookup x=Z .local:=by first|exact .inl rfl|exact .inr rfl|assumption):XG X (.Name x pos) (gN i):=⟨Dc (i:=i) (hN:=hN) (hi:=hi) (hx:=hx) (hf:=hf)⟩
theorem sE:Ku X [] jl:=⟨Db⟩
theorem g9{e:Expr}{es:List Expr}{g:FG}{a:BO}(h1:XG X e g)(h2:Ku X es a)(hs:(assignEach (e::es) X.env).map (·.2)=assign e X.env::(assignEach es X.env).map (·.2):=by rfl):Ku X (e::es) (fB g a):=⟨As (h1:=h1.h) (h2:=h2.h) (hs:=hs)⟩
theorem vL{es:List Expr}{k:Nat}{a:BO}{n:Nat}(hc:X.calm=M)(h:Ku X es a)(hn:(assignEach es X.env).length=n:=by rfl)(hst:(assignEach es X.env).findIdx? (·.1)=Y:=by rfl):XG X (.Tuple es k pos) (gT n a):=⟨GA (hc:=hc) (h:=h.h) (hn:=hn) (hst:=hst)⟩
theorem kQ{o i:Expr}{a b:FE}{f:FN}(ho:XE X o a)(hi:XE X i b)(hs:vF X (rU X.K f))(ha:∀ v,assign (.Subscript o i pos) X.env v=(do
   let ov<-holding [v] (eval o X.env)
   let iv<-holding [v,ov] (eval i X.env)
   standAt pos
   holding [v,ov,iv] (setItem ov iv v)
   release [v,ov,iv] []):=by intro _;rfl):XG X (.Subscript o i pos) (gS f a b):=⟨GB (ho:=ho.h) (hi:=hi.h) (hs:=hs) (ha:=ha)⟩
theorem qR{tg e:Expr}{m:FE}{g:FG}(he:XE X e m)(hg:XG X tg g)(hs:swapsWithSole [tg] e pos.line X.env=pure J:=by rfl)(hw:swappedStores [tg] e X.env=pure Y:=by rfl)(h1:(assignEach [tg] X.env).map (·.2)=[assign tg X.env]:=by rfl):XS X (.Assign [tg] e pos) (dL m g):=⟨Gv (he:=he.h) (hg:=hg.h) (hs:=hs) (hw:=hw) (h1:=h1)⟩
theorem qY(i:Nat){x:Str}{e:Expr}{m:FE}{pos':Pos}(hN:X.N.Nodup)(hi:X.N[i]?=Z x)(hx:yw X.env.scope x)(he:XE X e m)(hs:swapsWith e (Z (.Name x pos')) pos.line X.env=pure J:=by rfl)(hf:X.fn x=M\/X.env.scope.names.lookup x=Z .local:=by first|exact .inl rfl|exact .inr rfl|assumption):XS X (.Assign [.Name x pos'] e pos) (dL m (gN i)):=⟨Gr (i:=i) (hN:=hN) (hi:=hi) (hx:=hx) (he:=he.h) (hs:=hs) (hf:=hf)⟩
end
section
theorem lR{X:Cx}{pos:Pos}(n:Nat){c:Expr}{a:List dn}{t:FT}{b:FS}(hp:PassesOwn (model X.prog X.w) X.A X.env X.xe)(hc:XT X c t)(hb:vz X a b):XS X (.While c a [] pos) (ux t b n):=⟨Aq (n:=n) (hp:=hp) (hc:=hc.h) (hb:=hb.h)⟩
theorem qW{X:Cx}{pos:Pos}{tg iter:Expr}{a:List dn}{m:FI}{g:FG}{b:FS}(hp:PassesOwn (model X.prog X.w) X.A X.env X.xe)(hc:X.calm=M)(hi:XI X tg iter m)(hg:XG X tg g)(hb:vz X a b)(hs:∀x,foldedSetIterable iter X.env x=pure x:=by intro _;rfl):XS X (.For tg iter a [] pos) (eZ m g b):=⟨Gu (hp:=hp) (hc:=hc) (hi:=hi.h) (hg:=hg.h) (hb:=hb.h) (hs:=hs)⟩
end
section
variable{X:Cx}{es:List Expr}{pos:Pos}{a:FA}
theorem dE{x1}(h:XA X es a):XE X (.Tuple es x1 pos) (dR a):=⟨GE (h:=h.h)⟩
theorem dZ(h:XA X es a):XE X (.List es pos) (eP a):=⟨GK (h:=h.h)⟩
end
section
variable{X:Cx}{tg:Expr}
theorem qd{e:Expr}{m:FE}(h:XE X e m):XI X tg e (gU m):=⟨Gz (h:=h.h)⟩
theorem uF {a:Expr}{m:FA}{p pos:Pos}(hg:Gl X "range")(hm:X.mg "range"=Y)(ha:XA X [a] m)(hs:dh [a] X.env=[(J,eval a X.env)]):XI X tg (.Call (.Name "range" p) [a] [] pos) (sA m):=⟨xO (hg:=hg) (hm:=hm) (ha:=ha.h) (hs:=hs)⟩
theorem nt {a b:Expr}{m:FA}{p pos:Pos}(hg:Gl X "range")(hm:X.mg "range"=Y)(ha:XA X [a,b] m)(hs:dh [a,b] X.env=[(J,eval a X.env),(J,eval b X.env)]:=by rfl)(hs2:dh [b] X.env=[(J,eval b X.env)]:=by rfl):XI X tg (.Call (.Name "range" p) [a,b] [] pos) (HU m):=⟨xN (hg:=hg) (hm:=hm) (ha:=ha.h) (hs:=hs) (hs2:=hs2)⟩
end
section
variable{X:Cx}{tg:Expr}
variable{elts:List Expr}{k:Nat}{tpos:Pos}
theorem yI {a:Expr}{m:FA}{p pos:Pos}(hg:Gl X "enumerate")(hm:X.mg "enumerate"=Y)(ha:XA X [a] m)(hs:dh [a] X.env=[(J,eval a X.env)]):XI X (.Tuple elts k tpos) (.Call (.Name "enumerate" p) [a] [] pos) (om m):=⟨Da (hg:=hg) (hm:=hm) (ha:=ha.h) (hs:=hs)⟩
theorem BZ {a b:Expr}{m:FA}{p pos:Pos}(hg:Gl X "zip")(hm:X.mg "zip"=Y)(ha:XA X [a,b] m)(hs:dh [a,b] X.env=[(J,eval a X.env),(J,eval b X.env)]:=by rfl)(hs2:dh [b] X.env=[(J,eval b X.env)]:=by rfl):XI X (.Tuple elts k tpos) (.Call (.Name "zip" p) [a,b] [] pos) (Jz m):=⟨Gy (hg:=hg) (hm:=hm) (ha:=ha.h) (hs:=hs) (hs2:=hs2)⟩
end
section
variable{X:Cx}{ag:List (da×Obj)}{σ:L2.St}{H:Hp}{s:c9}{mu:List da}{S:Sto}{K:Fg1}
theorem uG (T:Ty){e:Expr}{m:FE}{nm:Str}{p p2 pos:Pos}(hg:Gl X "isinstance")(hm:X.mg "isinstance"=Y)(hg2:Gl X nm)(hm2:X.mg nm=Y)(hv2:bootBuiltins nm=Z (.type T.nm))(h:XE X e m)(hn:nm≠"__name__")(hd:(nm == ("__debug__":Str))=J)(hs1:dh [e,.Name nm p2] X.env=(J,eval e X.env)::dh [.Name nm p2] X.env)(hs2:dh [.Name nm p2] X.env=(J,eval (.Name nm p2) X.env)::dh [] X.env)(hpl:(backTo pos (dh [.Name nm p2] X.env)).any (·.1)=J):XE X (.Call (.Name "isinstance" p) [e,.Name nm p2] [] pos) (iK T m):=⟨xQ (T:=T) (hg:=hg) (hm:=hm) (hg2:=hg2) (hm2:=hm2) (hv2:=hv2) (h:=h.h) (hn:=hn) (hd:=hd) (hs1:=hs1) (hs2:=hs2) (hpl:=hpl)⟩
end
section
variable{X:Cx}
theorem gF:XO X Y ip:=⟨C7⟩
theorem gE{e:Expr}{m:FE}(h:XE X e m):XO X (Z e) (io m):=⟨C6 (h:=h.h)⟩
theorem nv {a:Expr}{m:FA}{d p2 b c:Pos}(hc:X.calm=M)(hg:Gl X "range")(hm:X.mg "range"=Y)(hg2:Gl X "list")(hm2:X.mg "list"=Y)(ha:XA X [a] m)(hs:dh [a] X.env=[(J,eval a X.env)]:=by rfl)(hs2:dh [.Call (.Name "range" d) [a] [] b] X.env=[(J,eval (.Call (.Name "range" d) [a] [] b) X.env)]:=by rfl):XE X (.Call (.Name "list" p2) [.Call (.Name "range" d) [a] [] b] [] c) (xS m):=⟨xP (hc:=hc) (hg:=hg) (hm:=hm) (hg2:=hg2) (hm2:=hm2) (ha:=ha.h) (hs:=hs) (hs2:=hs2)⟩
theorem qe {o e:Expr}{es:List Expr}{m:FE}{a:FA}{f:FN}{name:Str}{apos cpos:Pos}{id:String}(slot:Slot "list" name id)(hty:typeOf (.builtin id)=pure (.type "method_descriptor"))(hm:HP X id (λx xs H Q=>rN X.K f (x::xs) H Q))(ho:XE X o m)(ha:XA X (e::es) a)(hbase:attributeBase o name X.env (eval o X.env)=eval o X.env:=by rfl)(hfew:((backTo cpos (dh (e::es) X.env)).all (λx=> !x.1)&&(backToKw cpos (keywordEach [] X.env)).all (λx=>x.1.isSome)&&decide ((e::es).length+([]:List Keyword).length+(if([]:List Keyword).isEmpty then 0 else 1)<30))=M:=by rfl)(hline:(apos.endLine == cpos.line)=M:=by rfl)(hs:dh (e::es) X.env=(J,eval e X.env)::dh es X.env:=by rfl)(hplain:(backTo cpos (dh es X.env)).any (·.1)=J:=by rfl):XE X (.Call (.Attribute o name apos) (e::es) [] cpos) (mH f m a):=⟨Au (slot:=slot) (hty:=hty) (hm:=hm) (ho:=ho.h) (ha:=ha.h) (hbase:=hbase) (hfew:=hfew) (hline:=hline) (hs:=hs) (hplain:=hplain)⟩
theorem LY (i:Nat){x:Str}{pos:Pos}(hN:X.N[i]?=Z x)(hv:Ed X.env.scope x)(hd:(x == ("__debug__":Str))=J)(hcd:(x == ("__classdict__":Str))=J):XE X (.Name x pos) (mV i):=⟨mv (i:=i) (hN:=hN) (hv:=hv) (hd:=hd) (hcd:=hcd)⟩
end
section
theorem qH {X:Cx}{k k' n:Nat}{x:Str}{m:FN}{p pos:Pos}{e:Expr}{es:List Expr}{a:FA}(h:Own X.prog X.w X.K X.mg X.base k x n m)(hr:fI k' X.A)(hk:k<=k')(hg:Gl X x)(ha:XA X (e::es) a)(hdb:(x == ("__debug__":Str))=J:=by decide)(he:dh (e::es) X.env=(J,eval e X.env)::dh es X.env:=by rfl)(hpl:(backTo pos (dh es X.env)).any (·.1)=J:=by rfl):XE X (.Call (.Name x p) (e::es) [] pos) (mN (dy n m) a):=⟨GG (h:=h) (hr:=hr) (hk:=hk) (hg:=hg) (ha:=ha.h) (hdb:=hdb) (he:=he) (hpl:=hpl)⟩
theorem yK {X:Cx}{x:Str}{d:D}{pos:Pos}(h:CGl X.K X.mg x d)(hg:Gl X x)(hd:(x == ("__debug__":Str))=J:=by decide):XE X (.Name x pos) (mC d):=⟨Dd (h:=h) (hg:=hg) (hd:=hd)⟩
end
section
variable{X:Cx}
structure Ls (X:Cx)(K:Fg1)(tg:Expr)(ifs:List Expr)(elt:Expr)(g:FG)(t:FT)(e:FE):Prop where
 g:XG X tg g
 t:XF X K ifs t
 e:XE X elt e
end
theorem vK{P:db}{w:df}{K:Fg1}{mg:Str->Option c8}{base:dk}{x c:Str}{st:dn}{f:da}{fd:dm}{N ps:List Str}{k n:Nat}{b:FS}(F:xi K x c st f fd)(hb:jj K fd ps [])(hm:mg x=some (.ref f))(S:gD N ps (dQ st))(hn:ps.length=n)(e:∀(d:c8) (A:de) (a:List Env) (s:c9) (H:Hp) (E:XK),fI k (A.deeper (envOfC c (dQ st) s.heap.objs.size f d)) ->
   vz (m5 uw P w K mg base N c (dQ st) f d A a s H E).nox (ft st) b):Own P w K mg base (k+1) x n (ig N.length b):=
 F8 F hb hm S hn λd A a s H E g=>(e d A a s H E g).h
theorem E5{P:db}{w:df}{K:Fg1}{mg:Str->Option c8}{base:dk}{x c:Str}{st:dn}{f:da}{fd:dm}{N ps:List Str}{k n:Nat}{b:FS}(F:xi K x c st f fd)(S:gD N ps (dQ st))(hn:ps.length=n)(e:∀(d:c8) (A:de) (a:List Env) (s:c9) (H:Hp) (E:XK),fI k (A.deeper (envOfC c (dQ st) s.heap.objs.size f d)) ->
   vz (m5 uw P w K mg base N c (dQ st) f d A a s H E).nox (ft st) b):jQ P w K mg base uw (k+1) f fd ps (spM K n (ig N.length b)):=by
 subst hn;exact JH F S λd A a s H E g=>(e d A a s H E g).h
abbrev FV:=Ev->Sto->Option (List D×Ev×Sto)
noncomputable def gt (c:List (Nat×List D))(g:FG)(t:FT)(b:FV):List D->FV
 |[]=>λr S=>if pc S c=true then some ([],r,S)else none
 |d::ds=>λr S=>if pc S c=true then(g d r S).bind λp=>(t p.1 p.2).bind λk=>if k.1=true then(b p.1 k.2).bind λq=>(gt c g t b ds q.2.1 q.2.2).map λz=>(q.1++z.1,z.2)else gt c g t b ds p.1 k.2 else none
noncomputable def ej (m:FE):FV:=λr S=>(m r S).map λq=>([q.1],r,q.2)
noncomputable def eO (k:Nat)(keep:List Nat)(m:FI)(g:FG)(t:FT)(b:FV):FE:=λr S=>(m r S).bind λp=>
 (gt p.1.chk g t b p.1.items (l9 k keep r) p.2).bind λq=>if q.1.length<=di then some (.ref q.2.2.length,q.2.2++[.lst q.1])else none
section
variable{K:Fg1}{H H' H1:Hp}{mu mu' mu1:List da}{S:Sto}{a:da}
theorem Ext.aside(x:Ext mu mu' H H'):Ext (a::mu) (a::mu') H H' where
 pre:=bU.mpr ⟨O,x.pre⟩
 old:=λb o h n=>x.old b o h λz=>n (mC1 _ z)
 tup:=x.tup
 frz:=x.frz
 new:=λb h=>by
  rcases aE.mp h with h|h
  ·exact .inl (by rw[h];exact mS1)
  ·rcases x.new b h with q|q
   ·exact .inl (mC1 _ q)
   ·exact .inr q
theorem Ext.inner(x:Ext (a::mu) (a::mu') H H'):sD mu mu' H H':=⟨(bU.mp x.pre).2,x.tup,x.frz⟩
theorem Ext.held{o:HO}(x:Ext mu mu' H H')(ha:H a=Z o)(hn:a∉mu):H' a=Z o/\a∉mu':=by
 refine⟨x.old a o ha hn,λz=>?_⟩;rcases x.new a z with q|q
 ·exact hn q
 ·rw[ha]at q;cases q
theorem fJ.exw{r:Ev}{σ:L2.St}(e:sD mu mu' H H')(h:fJ K H mu r σ):fJ K H' mu' r σ:=⟨h.len,λi d q=>by
 obtain⟨v,b,a⟩:=h.val i d q;exact⟨v,b,a.exw e⟩⟩
theorem oU.exw{b:da}(e:sD mu mu' H H')(h:∀o,H b=Z o->H' b=Z o):∀{o:Ob},oU K H mu b o->oU K H' mu' b o
 | .lst _,⟨vs,q,r⟩=>⟨vs,h _ q,r.exw e⟩
 | .dct _,⟨ws,q,r⟩=>⟨ws,h _ q,Paired.mapP r λ_ _ z=>⟨z.1,z.2.exw e⟩⟩
 | .dcT _,⟨ws,q,r,l⟩=>⟨ws,h _ q,Paired.mapP r λ_ _ ⟨z,d,k,v,a,r⟩=>⟨z,d,k.exw e,v,a,r.exw e⟩,l⟩
 | .iset _,q=>⟨h _ q.1,q.2⟩
 | .dcF _,⟨ws,⟨o,u,f,c⟩,r,l⟩=>⟨ws,⟨o,u,h _ f,c⟩,Paired.mapP r λ_ _ ⟨z,d,k,v,a,r⟩=>⟨z,d,k.exw e,v,a,r.exw e⟩,l⟩
 | .tst _,⟨ws,q,r⟩=>⟨ws,h _ q,Paired.mapP r λ_ _ ⟨z,d,k,v,a,r⟩=>⟨z,d,k.exw e,v,a,r.exw e⟩⟩
theorem Sim.aside{u:HO}(s:Sim K H mu S)(e:sD mu mu H (upd H a u))(hn:a∉mu):Sim K (upd H a u) mu S:=
 ⟨s.len,s.nd,λk o b h1 h2=>(s.ob k o b h1 h2).exw e λo' q=>by rw[dU (λz=>hn (by rw[<- z];exact gM1 h2))];exact q⟩
end
inductive Kj (K:Fg1)(a:da)(m:FV)(E:jR)(σ:L2.St)(H:Hp):Prop
 |mk (r:Ev) (mu:List da) (S:Sto) (acc:List D) (vs:List V) (xs:List D) (r':Ev) (S':Sto):H a=some (.lst vs)->a∉mu->dJ K H mu acc vs->fJ K H mu r σ->Sim K H mu S->m r S=some (xs,r',S')->vs.length+xs.length<=di ->
 (∀ σ' H' mu' vs',Ext (a::mu) (a::mu') H H'->H' a=some (.lst vs')->a∉mu'->dJ K H' mu' (acc++xs) vs'->fJ K H' mu' r' σ'->Sim K H' mu' S'->E.nx σ' H')->Kj K a m E σ H
theorem t6{K:Fg1}{a:da}{m:FE}{E:jR}{σ:L2.St}{H:Hp}(h:Kj K a (ej m) E σ H):vW a (tM K m) E σ H:=by
 obtain⟨r,mu,S,j,vs,xs,u,w,s,g,k,i,q,f,p,hc⟩:=h;obtain⟨⟨d,o⟩,l,f⟩:=oM1.mp f;cases f;refine⟨r,mu,S,d,o,i,q,l,λv H1 mu1 e t n=>?_⟩;obtain⟨b,c⟩:=e.held s g;have put:Ext (a::mu1) (a::mu1) H1 (upd H1 a (.lst (vs++[v]))):=Ext.put b trivial mS1;refine⟨vs,b,p,?_⟩;exact hc σ _ mu1 (vs++[v]) (e.aside.trans put) dX c (((k.ext e).append (.cons t .nil)).exw put.inner) ((i.ext e).exw put.inner) (n.aside put.inner c)
inductive Lx (K:Fg1)(a:da)(mu2:List da)(H:Hp)(c:List (Nat×List D))(g:FG)(t:FT)(b:FV)(r':Ev)(S':Sto)(tot:List D)(L:List D)(σ':L2.St)(H':Hp):Prop
 |mk (r3:Ev) (mu3:List da) (S3:Sto) (acc3:List D) (vs3:List V) (xs3:List D):Ext (a::mu2) (a::mu3) H H'->H' a=some (.lst vs3)->a∉mu3->dJ K H' mu3 acc3 vs3->fJ K H' mu3 r3 σ'->Sim K H' mu3 S3->gt c g t b L r3 S3=some (xs3,r',S')->acc3++xs3=tot->vs3.length+xs3.length<=di->Lx K a mu2 H c g t b r' S' tot L σ' H'
theorem AM{K:Fg1}{a:da}{j:It}{ao:yx}{g:FG}{t:FT}{b:FV}{tb:TS}{D:jR}(hb:∀ E σ H,Kj K a b E σ H->tb E σ H){mu1 e:List da}{H1 H:Hp}{r G:Ev}{S aq:Sto}{σ:L2.St}{l xs:List Mi.D}{vs:List V}(hJ:Ly K j ao mu1 H1)(x:sD mu1 e H1 H)(ha:H a=Z (.lst vs))(hna:a∉e)(hr:dJ K H e l vs)(he:fJ K H e r σ)(hs:Sim K H e S)(hm:gt ao.chk g t b ao.items r S=Z (xs,G,aq))(hl:vs.length+xs.length<=di)(hc:∀h H' mu' w,Ext (a::e) (a::mu') H H'->H' a=Z (.lst w)->a∉mu'->dJ K H' mu' (l++xs) w->fJ K H' mu' G h->Sim K H' mu' aq->D.nx h H'):En j (Ik K g) (B8 K t) tb D σ H:=by
 refine⟨λi k h H'=>k=(ao.items.drop i).length/\Lx K a e H ao.chk g t b G aq (l++xs) (ao.items.drop i) h H',
  ⟨_,O,r,e,S,l,vs,xs,.refl _ _,ha,hna,hr,he,hs,hm,O,hl⟩,?_⟩
 rintro i k ar X ⟨rfl,r3,n,S3,f,vs3,Q,I,B,A,C,u,s3,c,p,m⟩;cases hd0:ao.items.drop i with
 |nil=>
  left;rw[hd0,gt]at c;dsimp only at c;split at c
  ·rename_i ok;cases c;refine⟨(hJ i X n _ (x.trans I.inner) s3 ok).2 (List.drop_eq_nil_iff.mp hd0),hc ar X n vs3 I B A ?_ u s3⟩;rw[<- p,aM];exact C
  ·cases c
 |cons d ds=>
  right;rw[hd0]at c;obtain⟨hi,hd⟩:=mM hd0;rw[gt]at c;dsimp only at c;split at c
  ·rename_i ok;obtain⟨⟨L,S4⟩,e4,c⟩:=oB1.mp c;obtain⟨⟨k5,U⟩,e5,c⟩:=oB1.mp c;obtain⟨go,yl⟩:=(hJ i X n _ (x.trans I.inner) s3 ok).1 d hi;refine⟨go,Lx K a e H ao.chk g t b G aq (l++xs) ds,?_,λy H4 yy=>?_⟩
   ·intro h H' h6;exact⟨ds.length,bB _,(congrArg List.length hd).symm,hd.symm ▸ h6⟩
   ·obtain⟨N,s4,q4⟩:=yl y H4 yy;obtain⟨ha4,hn4⟩:=N.held B A;refine⟨r3,n,S3,d,L,S4,u.ext N,s4,q4,e4,fun σ5 H5 R au q s5=>?_⟩;obtain⟨wq,hn5⟩:=au.held ha4 hn4;refine⟨L,R,S4,k5,U,q,s5,e5,λH6 o x6 s6=>?_⟩;obtain⟨z,F⟩:=x6.held wq hn5;have xx:=((I.trans N.aside).trans au.aside).trans x6.aside;have s:dJ K H6 o f vs3:=((C.ext N).ext au).ext x6;cases k5 with
    |true=>
     obtain⟨⟨q1,r7,S7⟩,e7,c⟩:=oB1.mp c;obtain⟨⟨z1,r8,S8⟩,e8,c⟩:=oM1.mp c;cases c;refine hb _ _ _ ⟨L,o,U,f,vs3,q1,r7,S7,z,F,s,q.ext x6,s6,e7,?_,fun σ8 H8 T vs8 x8 ha8 P v W s8=>⟨r7,T,S7,f++q1,vs8,z1,xx.trans x8,ha8,P,v,W,s8,e8,?_,?_⟩⟩
     ·rw[lA1]at m;dsimp only at m;lia
     ·rw[<- p,bF]
     ·have:=v.length;have h3:=s.length;rw[lA1]at this m;dsimp only at m;lia
    |false=>exact⟨L,o,U,f,vs3,Q,xx,z,F,s,q.ext x6,s6,c,p,m⟩
  ·cases c
theorem uc{K:Fg1}{k:Nat}{keep:List Nat}{m:FI}{g:FG}{t:FT}{b:FV}{tb:da->TS}(hb:∀ a E σ H,Kj K a b E σ H->tb a E σ H){σ:L2.St}{H:Hp}{Q:VK}(h:tM K (eO k keep m g t b) σ H Q):
  zj k keep (KF K m) (Ik K g) (B8 K t) tb σ H Q:=by
 obtain⟨r,mu,S,d,ar,aq,V,f,hc⟩:=h;obtain⟨⟨ao,P⟩,au,f⟩:=oB1.mp f;obtain⟨⟨xs,r2,G⟩,X,f⟩:=oB1.mp f;dsimp only at f;split at f
 ·rename_i T;cases f;refine ⟨r,mu,S,ao,P,aq,V,au,fun j H1 mu1 L U I p i=>?_⟩;have w:Ext mu1 mu1 H1 (upd H1 p (.lst [])):=Ext.fresh i;refine AM (hb p) U w.w dX (I.notin i) .nil ((Jy k keep (aq.ext L)).ext w) (I.fresh i) X (by simpa using T) fun R H' mu' l s A B x W s'=>?_;have y:Ext mu1 (mu'++[p]) H1 H':=by
   refine⟨((bU.mp s.pre).2).trans (bu _ _),λb o e n=>?_,λb ys e=>s.tup b ys (w.tup b ys e),λb o u e=>s.frz b o u (w.frz b o u e),λb D=>?_⟩
   ·have F:b≠p:=d8 e i;exact s.old b o (by rw [dU F];exact e) fun z=>by
     rcases aE.mp z with z|z
     ·exact F z
     ·exact n z
   ·rcases aF.mp D with z|z
    ·rcases s.new b (mC1 _ z)with q|q
     ·rcases aE.mp q with q|q
      ·exact .inr (by rw[q];exact i)
      ·exact .inl q
     ·by_cases v:b=p
      ·exact .inr (by rw[v];exact i)
      ·rw[dU v]at q;exact .inr q
    ·have:b=p:=by simpa using z
     exact .inr (by rw[this];exact i)
  refine hc _ H' (mu'++[p]) (L.trans y) (.ref (gx s'.len p)) ⟨by rw[lA1,lA1,s'.len];rfl,?_,λn o b h1 h2=>?_⟩
  ·rw[bw];refine⟨s'.nd,by simp,λb hb c hc e=>?_⟩;have:c=p:=by simpa using hc
   subst this;subst e;exact B hb
  ·by_cases N:n<G.length
   ·rw[gL1 N]at h1;rw[gL1 (by rw[s'.len];exact N)]at h2;exact(s'.ob n o b h1 h2).mor [p]
   ·have C:n=G.length:=by
     have:=(gE1.mp h1).1;rw[lA1]at this;simp at this;lia
    subst C;rw[gR1 (nR1 _)]at h1;rw[<- s'.len,gR1 (nR1 _)]at h2;simp at h1 h2;subst h1;subst h2;exact⟨l,A,(by simpa using x:dJ K H' mu' xs l).mor [p]⟩
 ·cases f
section
variable{X:Cx}
theorem qZ{elt tg iter:Expr}{ifs:List Expr}{scope:dq}{pos:Pos}{T:List Str}{keep:List Nat}{i:List (Str×da)}{m:FI}{g:FG}{t:FT}{e:FE}(hc:X.calm=M)(C:Ke X scope T keep)(f:ka X.env.cells scope.names []=Z i)(hi:XI X tg iter m)(hb:∀s H b,Ls (cxC X scope i T keep s H b) X.K tg ifs elt g t e)(hs:∀x,foldedSetIterable iter X.env x=pure x:=by intro _;rfl):XE X (.ListComp elt [⟨tg,iter,ifs,0⟩] scope pos) (eO T.length keep m g t (ej e)):=
 ⟨ez (CN (emit:=t7 elt) (tb:=λp=>vW p (tM X.K e)) hc (λit c d=>y8 elt tg iter ifs scope pos it c d) C f hi.h (λs H b p=>⟨(hb s H b).g.h,(hb s H b).t.h,we (hb s H b).e.h p⟩) hs)
  fun σ H Q h=>uc (λa E σ H q=>t6 q) h⟩
theorem pq{elt tg iter:Expr}{ifs:List Expr}{scope:dq}{pos b n:Pos}{y:Str}(i:Nat){T:List Str}{keep:List Nat}{l:List (Str×da)}{m:FI}{g:FG}{t:FT}{e:FE}(hc:X.calm=M)(C:Ke X scope T keep)(j:ka X.env.cells scope.names []=Z l)(hi:XI X tg iter m)(hb:∀s H c,Ls (cxC X scope l T keep s H c) X.K tg ifs elt g t e)(hN:X.N.Nodup)(hy:X.N[i]?=Z y)(hx:yw X.env.scope y)(k:swapsWith (.ListComp elt [⟨tg,iter,ifs,0⟩] scope pos) (Z (.Name y n)) b.line X.env=pure M:=by rfl)(hf:X.fn y=M\/X.env.scope.names.lookup y=Z .local:=by first|exact .inl rfl|exact .inr rfl|assumption)(hs:∀x,foldedSetIterable iter X.env x=pure x:=by intro _;rfl):XS X (.Assign [.Name y n] (.ListComp elt [⟨tg,iter,ifs,0⟩] scope pos) b) (dL (eO T.length keep m g t (ej e)) (gN i)):=
 ⟨iW (Cz (emit:=t7 elt) (tb:=λp=>vW p (tM X.K e)) hc k (λit d f=>y8 elt tg iter ifs scope pos it d f) C j hi.h (λs H c p=>⟨(hb s H c).g.h,(hb s H c).t.h,we (hb s H c).e.h p⟩) hN hy hx hf hs)
  λE σ H h=>HE (fun σ H Q q=>uc (λa E σ H q=>t6 q) q) h⟩
end
def rv:D->Option Key
 | .int i=>Z (.inl i)
 | .str x=>Z (.inr x)
 |_=>Y
def dM{κ:Type}[DecidableEq κ](kvs:List (κ×D))(k:κ):Option D:=(kvs.find? λp=>decide (p.1=k)).map (·.2)
def g6{κ:Type}[DecidableEq κ](kvs:List (κ×D))(k:κ)(d:D):List (κ×D):=
 if(kvs.any λp=>decide (p.1=k))=M then kvs.map (λp=>if p.1=k then(p.1,d)else p)else kvs++[(k,d)]
section
variable{K:Fg1}{H:Hp}{mu:List da}
theorem lw{d:D}{v:V}{k:Key}(r:eX K H mu d v)(h:rv d=Z k):v=kV k:=by
 cases r with
 |int i=>cases h;rfl
 |str x=>cases h;rfl
 |_=>cases h
end
section
variable{κ:Type} [DecidableEq κ] {K:Fg1}{H:Hp}{mu:List da}
theorem KR.length:∀{ks:List (κ×D)} {ws:List (κ×V)},KR K H mu ks ws->ks.length=ws.length:=λh=>Paired.length h
theorem KR.look{k:κ}:∀ {ks:List (κ×D)} {ws:List (κ×V)},KR K H mu ks ws ->
  (∀d,dM ks k=Z d -> ∃v,gM ws k=Z v/\eX K H mu d v)/\(dM ks k=Y->gM ws k=Y):=by
 intro ks ws h
 induction h with
 |nil=>exact⟨λd h=>by simp[dM]at h,λ_=>rfl⟩
 | @cons p q ks ws r t ih=>
  obtain⟨b,f⟩:=p;obtain⟨j,c⟩:=q;obtain⟨e,r⟩:=r;dsimp only at e r;subst e;obtain⟨h1,h2⟩:=ih;by_cases a:b=k
  ·subst a;refine⟨λd h=>?_,λh=>?_⟩
   ·have:f=d:=by simpa[dM]using h
    subst this;exact⟨c,by simp[gM],r⟩
   ·simp[dM]at h
  ·have g:dM ((b,f)::ks) k=dM ks k:=by simp[dM,a0,a]
   have i:gM ((b,c)::ws) k=gM ws k:=by simp[gM,a0,a]
   rw[g,i];exact⟨h1,h2⟩
theorem KR.any{k:κ}:∀{ks:List (κ×D)} {ws:List (κ×V)},KR K H mu ks ws->(ks.any λp=>decide (p.1=k))=ws.any λp=>decide (p.1=k):=by
 intro ks ws h
 induction h with
 |nil=>rfl
 |cons r t ih=>rw[ba,ba,ih,r.1]
theorem KR.repl{k:κ}{d:D}{v:V}(q:eX K H mu d v):∀ {ks:List (κ×D)} {ws:List (κ×V)},KR K H mu ks ws ->
  KR K H mu (ks.map λp=>if p.1=k then(p.1,d)else p) (ws.map λp=>if p.1=k then(p.1,v)else p):=by
 intro ks ws h
 induction h with
 |nil=>exact .nil
 | @cons a b ks ws r t ih=>
  refine .cons ?_ ih;obtain⟨e,r⟩:=r;dsimp only;by_cases h:a.1=k
  ·rw[ak h,ak (e ▸ h)];exact⟨e,q⟩
  ·rw[aj h,aj (e ▸ h)];exact⟨e,r⟩
theorem KR.snoc{k:κ}{d:D}{v:V}(q:eX K H mu d v):∀{ks:List (κ×D)} {ws:List (κ×V)},KR K H mu ks ws->KR K H mu (ks++[(k,d)]) (ws++[(k,v)]):=by
 intro ks ws h
 induction h with
 |nil=>exact .cons ⟨O,q⟩ .nil
 |cons r t ih=>exact .cons r ih
theorem KR.put{k:κ}{d:D}{v:V}(q:eX K H mu d v){ks:List (κ×D)}{ws:List (κ×V)}(h:KR K H mu ks ws):KR K H mu (g6 ks k d) (iV ws k v):=by
 unfold g6 iV;rw[h.any];split
 ·exact h.repl q
 ·exact h.snoc q
end
def ve:G2:=λd e S=>match e with
 | .ref n=>match S[n]? with
  |some (.dct kvs)=>(rv d).map λk=>(.bl (dM kvs k).isSome,S)
  |_=>HV d e S
 |_=>HV d e S
def i3:G2:=λd e S=>match e with
 | .ref n=>match S[n]? with
  |some (.dct kvs)=>(rv d).map λk=>(.bl (!(dM kvs k).isSome),S)
  |_=>ma d e S
 |_=>ma d e S
def m3:G2:=λd e S=>match d with
 | .ref n=>match S[n]? with
  |some (.dct kvs)=>(rv e).bind λk=>(dM kvs k).map λx=>(x,S)
  |_=>BS d e S
 |_=>BS d e S
def mK:G3:=λo i v S=>match o with
 | .ref n=>match S[n]? with
  |some (.dct kvs)=>(rv i).bind λk=>if kvs.length<di then Z (.non,S.set n (.dct (g6 kvs k v)))else Y
  |_=>kE o i v S
 |_=>kE o i v S
section
variable{X:Cx}
theorem n9{K:Fg1}{H:Hp}{mu:List da}{S:Sto}(hs:Sim K H mu S){n:Nat}{a:da}{kvs:List (Key×D)}{k:Key}{y:V}(hn:mu[n]? = some a)(he:S[n]? = some (.dct kvs))(hy:y=kV k):
  ∃o:Option V,pk H a y o/\(∀d,dM kvs k=Z d -> ∃v,o=Z v/\eX K H mu d v)/\(dM kvs k=Y->o=Y)/\o.isSome=(dM kvs k).isSome:=by
 obtain⟨ws,b,f⟩:=hs.dct he hn;subst hy;obtain⟨h1,h2⟩:=f.look (k:=k);refine⟨gM ws k,pk.k b,h1,h2,?_⟩;cases e:dM kvs k with
 |none=>rw[h2 e];rfl
 |some d=>obtain⟨v,c,_⟩:=h1 d e;rw[c];rfl
theorem IY(t:X.A.units+64<cLine):gg X (compareOp .In) (r2 X.K (b2 ve)):=by
 intro ag s σ H x y u w Q I f i h;obtain⟨mu,S,d,e,r,j,l,b,c,a,hc⟩:=uz h;have back:HV d e S=Z (r,j)->dj (model X.prog X.w) X.A (compareOp .In u w) (EP X ag σ Q) X.xe s:=λa=>KY t ag s σ H x y u w Q I f i ⟨mu,S,[d,e],r,j,.cons l (.cons b .nil),c,a,hc⟩;unfold ve at a;split at a
 ·rename_i n;split at a
  ·rename_i kvs p;obtain⟨k,m,a⟩:=oM1.mp a;cases a;cases b with
   |ref q=>
    cases i;obtain⟨o,g,_,_,hi⟩:=n9 c q p (lw l m);exact Ld (by lia) I g f λs' v=>⟨.bl o.isSome,H,v,O,by rw[hi];exact hc.now (.bl _) c⟩
  ·exact back a
 ·exact back a
theorem Ae(t:X.A.units+64<cLine):gg X (compareOp .NotIn) (r2 X.K (b2 i3)):=by
 intro ag s σ H x y u w Q I f i h;obtain⟨mu,S,d,e,r,j,l,b,c,a,hc⟩:=uz h;have back:ma d e S=Z (r,j)->dj (model X.prog X.w) X.A (compareOp .NotIn u w) (EP X ag σ Q) X.xe s:=λa=>CY t ag s σ H x y u w Q I f i ⟨mu,S,[d,e],r,j,.cons l (.cons b .nil),c,a,hc⟩;unfold i3 at a;split at a
 ·rename_i n;split at a
  ·rename_i kvs p;obtain⟨k,m,a⟩:=oM1.mp a;cases a;cases b with
   |ref q=>
    cases i;obtain⟨o,g,_,_,hi⟩:=n9 c q p (lw l m);exact DX (by lia) I g f λs' v=>⟨.bl (!o.isSome),H,v,O,by rw[hi];exact hc.now (.bl _) c⟩
  ·exact back a
 ·exact back a
theorem HY(P:X.A.units+64<cLine):E2 X (r2 X.K (b2 m3)):=by
 intro value b ag s σ H x y v u Q I A t h j;obtain⟨mu,S,d,e,r,B,w,l,p,c,hc⟩:=uz h;have back:BS d e S=Z (r,B)->dj (model X.prog X.w) X.A (subscriptTail value b v u) (EP X ag σ Q) X.xe s:=λc=>Kv value b ag s σ H x y v u Q I A t ⟨mu,S,[d,e],r,B,.cons w (.cons l .nil),p,c,hc⟩ j;unfold m3 at c;split at c
 ·rename_i n;split at c
  ·rename_i kvs aq;obtain⟨k,ao,c⟩:=oB1.mp c;obtain⟨z,D,c⟩:=oM1.mp c;cases c;cases w with
   | @ref _ a E=>
    cases A;obtain⟨o,g,h1,_,_⟩:=n9 p E aq (lw l ao);obtain⟨F,au,K⟩:=h1 _ D;subst au;have C:=t8 I g;unfold subscriptTail;refine wB1 ?_;rw[getitemInPython_of_ne C.not_modules];refine wB1 (wpAny_specialOf C PySem.F.slot_dict_getitem.lookup ?_);have i:dj (model X.prog X.w) X.A (subscripted b J (.ref a) u) (λr f=>dj (model X.prog X.w) X.A (letTemporaryGo value (.ref a) r >>= λ_=>pure r) (EP X ag σ Q) X.xe f) X.xe s:=by
     rw[j];exact wpAny_operating (wpAny_mono (yi (by lia) I g t λN L G q=>(⟨F,H,G,q,hc.now K p⟩:EP X ag σ Q N L)) (λr f m=>wB1 (wpAny_letTemporaryGo (wP1 m))) λ_ _ x=>x)
    first
     |exact wP1 (wB1 i)
     |exact wB1 i
     |exact i
  ·exact back c
 ·exact back c
theorem Fs(L:X.A.units+64<cLine):vF X (rU X.K (b3 mK)):=by
 intro ag s σ H o i v w j u Q I z p q h;obtain⟨mu,S,ds,d,r,ao,c,a,hc⟩:=id h;cases ao with
 |cons g F=>cases F with
  |cons f A=>cases A with
   |cons x E=>
    cases E;rename_i m l t;dsimp only[b3]at a;have back:kE m l t S=Z (d,r)->dj (model X.prog X.w) X.A (setItem w j u) (λ_ s'=>∃H',Inv X ag σ H' s'/\Q H') X.xe s:=λa=>Iw ag s σ H o i v w j u Q I z p q ⟨mu,S,[m,l,t],d,r,.cons g (.cons f (.cons x .nil)),c,a,hc⟩;unfold mK at a;split at a
    ·rename_i n;split at a
     ·rename_i kvs G;obtain⟨k,D,a⟩:=oB1.mp a;split at a
      ·rename_i C;cases a;cases g with
       |ref b=>
        cases z;obtain⟨ws,e,y⟩:=c.dct G b;have B:=lw f D;subst B;refine yh (by lia) I (yz.k e (by rw[<- y.length];exact C)) p q λs' K=>⟨_,K,?_⟩;have put:Ext mu mu H (upd H _ (.dK (iV ws k v))):=Ext.put e trivial (gM1 b);exact hc _ mu put (c.put b e trivial ⟨_,dX,(y.put x).ext put⟩)
      ·cases a
     ·exact back a
    ·exact back a
def iu:FE:=λ_ S=>Z (.ref S.length,S++[.dct []])
theorem iD{pos:Pos}:XE X (.Dict [] [] pos) iu:=⟨ez zU <| by
 rintro σ H Q ⟨r,mu,S,d,f,e,a,c,hc⟩ p b;cases c;exact hc _ _ (mu++[p]) (Ext.new_ b) (.ref (gx a.len p)) (a.new b ⟨[],dX,.nil⟩)⟩
structure XP (X:Cx)(pos:Pos)(ks:List (Option Expr))(vs:List Expr)(l:List (FE×FE)):Prop where
 h:MH X pos ks vs (l.map λp=>(tM X.K p.1,tM X.K p.2))
theorem G9{K:Fg1}{H:Hp}{mu:List da}{S:Sto}(hs:Sim K H mu S){n:Nat}{a:da}{kvs:List (Key×D)}(hn:mu[n]?=Z a)(he:S[n]?=Z (.dct kvs)):Lz H a:=by
 obtain⟨ws,b,_⟩:=hs.dct he hn;exact .inl ⟨ws,.inl b⟩
end
section
variable{K:Fg1}{H H':Hp}{mu mu':List da}{S:Sto}
end
theorem zY{P:db}{w:df}{K:Fg1}{mg:Str->Option c8}{base:dk}{x a:Str}{st:dn}{f:da}{fd:dm}{ps:List Str}{k n:Nat}(F:xi K x a st f fd)(hb:jj K fd ps [])(hm:mg x=Z (.ref f)):Own P w K mg base k x n (λ_ _=>Y):=by
 have no:∀vs H Q E,¬ spM K n (λ_ _=>Y) vs H Q E:=λvs H Q E h=>by
  obtain⟨_,mu,S,ds,d,i,_,_,e,_⟩:=h;cases e
 exact⟨f,fd,ps,⟨λvs H Q E h=>absurd h (no vs H Q E),λA b s H c g vs Q E _ _ _ _ h=>absurd h (no vs H Q E)⟩,hb,F.kp,hm⟩
theorem kO{X:Cx}(i j:Nat){x y:Str}{a b:Expr}{m:FA}{k n pt pos:Pos}{kt k2 pt2}(hc:X.calm=true)(hN:X.N.Nodup)(hi:X.N[i]? = some x)(q:X.N[j]? = some y)(l:i≠j)(hx:X.env.scope.names.lookup x=some .local)(hy:X.env.scope.names.lookup y=some .local)(ha:XA X [a,b] m)(hw:swappedStores [.Tuple [.Name x k,.Name y n] kt pt] (.Tuple [a,b] k2 pt2) X.env=pure (some [x,y]):=by rfl)(hs:swapsWithSole [.Tuple [.Name x k,.Name y n] kt pt] (.Tuple [a,b] k2 pt2) pos.line X.env=pure false:=by rfl):
  XS X (.Assign [.Tuple [.Name x k,.Name y n] kt pt] (.Tuple [a,b] k2 pt2) pos) (dL (dR m) (gT 2 (fB (gN i) (fB (gN j) jl)))):=
 ⟨iW (FH hc hN hi q l hx hy ha.h hw hs) <| by
  rintro E σ H ⟨r,mu,S,f,w,C,p,hs,h,hc⟩;obtain⟨⟨d,z⟩,e,h⟩:=oB1.mp h;obtain⟨⟨r2,B⟩,c,h⟩:=oB1.mp h;cases h;obtain⟨⟨ds,A⟩,u,e⟩:=oB1.mp e;dsimp only at e;split at e
  ·cases e;refine⟨r,mu,S,ds,_,p,hs,u,λvs H1 mu1 o g v=>?_⟩;dsimp only at c;rw[gT]at c;split at c
   ·cases g with
    |nil=>cases c
    |cons t g=>cases g with
     |nil=>cases c
     |cons s g=>cases g with
      |nil=>
       cases c;exact⟨_,_,O,hc _ H1 mu1 o (((p.ext o).set t).set s) v⟩
      |cons _ _=>cases c
   ·cases c
  ·cases e⟩
end Mi
namespace HT
open PySem PySem.Spec PyProof.Rows
variable{prog:db}{w:df}{A:de}{E:c8->c9->Prop}{s:c9}
theorem j7{t e:da}{items:Array c8}{g f:c8}{lo hi:Option Int}{Q:c8->c9->Prop}(ht:IsTup s.heap t items)(hs:s.heap.IsSliceOf e g f .none)(pl:IsPart g lo)(k:IsPart f hi)(hw:sIx items.size 0 lo=0/\sIx items.size items.size hi=items.size)(h:Q (.ref t) s):dj (model prog w) A (getItem (.ref t) (.ref e)) Q E s:=by
 obtain⟨i,c,d,j⟩:=id hs;have b:s.TypeIs (.ref e) "slice":=⟨i,c,d⟩;unfold getItem
 try with_reducible refine wpAny_holding ?_
 first|refine wB1 (wP1 ?_)|skip
 refine wB1 (wpAny_sequenceKey ht.typeIs (by decide) ?_);refine wB1 (wpAny_callSpecial?_slot (name:=Str.ofString "__getitem__") ht.typeIs PyProof.Rows.slot_tuple_getitem
  (wE1 PyProof.Rows.slot_tuple_getitem ht.typeIs entry_tuple_getitem ?_ (args_tuple_getitem _ _)))
 show dj _ _ (Builtin.Tuple.tupleItemsOf (.ref t) >>= _) _ _ s;refine wB1 (tupleItemsOf_ ht ?_);refine wB1 (wpAny_typeOf b ?_);rw[ak (by decide)];refine wB1 (iE hs pl k ?_);have a:((((sIx items.size 0 lo:Nat):Int) == 0&&(1:Int) == 1&&(sIx items.size items.size hi-sIx items.size 0 lo) == items.size)=M):=by
  rw[hw.1,hw.2];simp
 show dj _ _ (if(((sIx items.size 0 lo:Nat):Int) == 0&&(1:Int) == 1&&(sIx items.size items.size hi-sIx items.size 0 lo) == items.size)=M then _ else _) _ _ s;rw[ak a];refine wB1 ?_;unfold Builtin.Tuple.tupleIsExact;refine wB1 (wpAny_typeOf ht.typeIs (wP1 ?_));rw[ak (by decide)]
 first
  |exact wB1 (wpAny_rule (wP1 ⟨_,rfl,wP1 h⟩))
  |exact wB1 (wpAny_rule (wB1 (wP1 ⟨_,rfl,wP1 h⟩)))
end HT
namespace Mi
open PySem PySem.Spec PyProof.Rows L2
def KP(K:Fg1):V->Option Int->Option Int->Hp->VK->Prop:=λx lo hi H Q=>∃a xs,x = .ref a/\jP K H a xs/\(HT.sIx xs.length 0 lo=0/\HT.sIx xs.length xs.length hi=xs.length)/\Q (.ref a) H
section
variable{X:Cx}
theorem Ch:BV X (KP X.K):=by
 intro ag s σ H x v l k lo hi n Q I f i pl j h;obtain⟨a,xs,rfl,e,g,q⟩:=h;cases f;obtain⟨c,r,d,m⟩:=I.tuple e;have b:c.toArray.size=xs.length:=by rw[sT1];exact r.length.symm
 refine⟨"tuple",_,PyProof.Rows.slot_tuple_getitem.lookup,d.typeIs,?_⟩;exact HT.j7 d i pl j (by rw[b];exact g) ⟨.ref a,H,I,O,q⟩
def zt(S:Sto)(d:D)(lo hi:Option Int):Option (D×Sto):=(dP S d).map λp=>if p.1=M then(.ref S.length,S++[.lst (Mi.iO p.2 lo hi)])else(.tup (Mi.iO p.2 lo hi),S)
def kC(m:FE)(lo hi:FO):FE:=λr S=>(m r S).bind λp=>(lo r p.2).bind λa=>(hi r a.2).bind λb=>zt b.2 p.1 a.1 b.1
theorem yj{xs:List D}{lo hi:Option Int}(h:HT.sIx xs.length 0 lo=0/\HT.sIx xs.length xs.length hi=xs.length):Mi.iO xs lo hi=xs:=by
 unfold Mi.iO;rw[h.1,h.2,List.drop_zero,Nat.sub_zero,bV]
theorem fC{e:Expr}{lo hi:Option Expr}{m:FE}{a b:FO}{pos p2:Pos}(h:XE X e m)(F:XO X lo a)(D:XO X hi b):XE X (.Subscript e (.Slice lo hi Y p2) pos) (kC m a b):=
 ⟨ez (zR (BV.or Ch (BV.or Fo Ci)) h.h F.h D.h) <| by
  rintro σ H Q ⟨r,mu,S,d,P,x,G,f,hc⟩;obtain⟨⟨I,y⟩,B,f⟩:=oB1.mp f;obtain⟨⟨n,A⟩,N,f⟩:=oB1.mp f;obtain⟨⟨l,C⟩,E,f⟩:=oB1.mp f;refine⟨r,mu,S,I,y,x,G,B,λv H1 mu1 w K L=>?_⟩;refine⟨r,mu1,y,n,A,x.ext w,L,N,λH2 o x2 ao=>?_⟩;refine⟨r,o,A,l,C,(x.ext w).ext x2,ao,E,λau g z j=>?_⟩;obtain⟨⟨k,xs⟩,aq,f⟩:=oM1.mp f;have s:=(w.trans x2).trans z;obtain⟨c,vs,rfl,q,t⟩:=dI ((K.ext x2).ext z) j aq;cases k with
  |true=>
   cases f;right;right;exact⟨c,vs,O,q,λp i=>hc _ _ (g++[p]) (s.trans (Ext.new_ i)) (.ref (gx j.len p)) (j.newL (w4 t n l) i)⟩
  |false=>
   simp only[bF1,if_false]at f;cases f;by_cases u:HT.sIx xs.length 0 n=0/\HT.sIx xs.length xs.length l=xs.length
   ·left;rw[yj u]at hc;exact⟨c,vs,O,q,by rw[<- t.length];exact u,hc _ _ g s (.tup q t) j⟩
   ·right;left;exact⟨c,vs,O,q,by rw[<- t.length];exact u,λp i=>hc _ _ g (s.trans (Ext.fresh i)) (.tup (jP.of dX) ((w4 t n l).ext (Ext.fresh i))) (j.fresh i)⟩⟩
end
mutual
inductive eV (h:dk):TK->c8->Prop
 |non:eV h .non .none
 |int (i t):eV h (.int i) (.int i t)
 |tup {a o items n xs}:h.get? a=some o->o.cls = .type "tuple"->o.data = .seq items n->fc h xs items.toList->eV h (.tup xs) (.ref a)
inductive fc (h:dk):List TK->List c8->Prop
 |nil:fc h [] []
 |cons {k v ks vs}:eV h k v->fc h ks vs->fc h (k::ks) (v::vs)
end
section
variable{prog:db}{w:df}{A:de}{E:c8->c9->Prop}{s:c9}
theorem sT{Q:Int->c9->Prop}(h:Q 0xFCA86420 {s with toks:=s.toks+1}):dj (model prog w) A (pyHash .none) Q E s:=by
 have a:s.TypeIs .none "NoneType":=rfl;unfold pyHash
 first|unfold pyHashByItsType|skip
 have b:[Value.none].any Value.onHeap=J:=rfl;refine wB1 ?_;rw[cRoomFor,aj (by rw[b];exact aJ)];refine wP1 ?_;refine wB1 (wpAny_specialOf a F.slot_NoneType_hash.lookup ?_);show dj _ _ (if(Z (Value.builtin "NoneType.__hash__") == Z Value.none)=M then _ else _) Q E s;rw[aj (by rw[beq_builtin_none];exact aJ)];refine wB1 (wpAny_specialOf a F.slot_NoneType_hash.lookup ?_);show dj _ _ (callSpecialIfBoundUnlessNone? .none "__hash__" _ >>= _) Q E s;refine wB1 (wpAny_callSpecialIfBoundUnlessNone?_slot a F.slot_NoneType_hash (wE1 F.slot_NoneType_hash a F.entry_NoneType_hash (show dj _ _ (retInt 0xFCA86420) _ _ s from wpAny_ret_mkInt ?_) (F.args_NoneType_hash_1 _)));exact wP1 h
def sx(prog:db)(w:df)(k:TK):Prop:=∀{A:de} {E:c8->c9->Prop} {s:c9} {v:c8} {Q:Int->c9->Prop},A.units+k.dep<cLine->eV s.heap k v->Q k.hash {s with toks:=s.toks+k.draws}->dj (model prog w) A (pyHash v) Q E s
theorem fc.split{h:dk}:∀{ks:List TK} {vs:List c8},fc h ks vs->ks.length=vs.length:=λa=>a.rec (motive_1:=λ_ _ _=>True) (motive_2:=λks vs _=>ks.length=vs.length) trivial (λ_ _=>trivial) (λ_ _ _ _ _=>trivial) O (λ_ _ _ ih=>congrArg (· + 1) ih)
theorem A0{xs:List TK}(all:∀k∈xs,sx prog w k):sx prog w (.tup xs):=by
 intro A E s v Q t u h;cases u with
 | @tup a o m n _ q hc r hi=>
  have j:s.TypeIs (.ref a) "tuple":=⟨o,q,hc⟩;rw[TK.dep]at t;unfold pyHash
  first|unfold pyHashByItsType|skip
  first|refine wB1 (wpAny_cRoomFor_or (.inr (by lia)) ?_)|skip
  refine wB1 (wpAny_specialOf j F.slot_tuple_hash.lookup ?_);show dj _ _ (if(Z (Value.builtin "tuple.__hash__") == Z Value.none)=M then _ else _) Q E s;rw[aj (by rw[beq_builtin_none];exact aJ)];refine wB1 (wpAny_specialOf j F.slot_tuple_hash.lookup ?_);show dj _ _ (callSpecialIfBoundUnlessNone? (.ref a) "__hash__" _ >>= _) Q E s;refine wB1 (wpAny_callSpecialIfBoundUnlessNone?_slot j F.slot_tuple_hash (wE1 F.slot_tuple_hash j F.entry_tuple_hash ?_ (F.args_tuple_hash_1 _)));show dj _ _ (Builtin.Tuple.tupleItemsOf (.ref a) >>= _) _ _ s;refine wB1 (wpAny_tupleItemsOf q r ?_);refine wB1 ?_;rw[<- bW];refine wpAny_forIn_list _
   (λrest (b:Array Int) s'=>∃done c,xs=done++c/\fc s.heap c rest/\b.toList=TK.hashes done/\s'={s with toks:=s.toks+TK.drawsAll done})
   _ ?_ ?_ _ _ ⟨[],xs,O,hi,O,O⟩
  ·rintro x rest b s' ⟨done,c,e,l,i,rfl⟩;cases l with
   | @cons k _ f _ h1 d=>
    have p:k∈xs:=by rw[e];simp
    refine wB1 (all k p (show A.in1.units+k.dep<cLine by have:=TK.dep_mem p;rw[show A.in1.units=A.units+1 from rfl];lia) h1 ?_)
    first
     |exact wP1 ⟨done++[k],f,by simp[e],d,by rw[TK.hashes_app];simp[i,TK.hashes],by rw[TK.draws_app];simp[TK.drawsAll,bj]⟩
     |exact wB1 (wP1 (wP1 ⟨done++[k],f,by simp[e],d,by rw[TK.hashes_app];simp[i,TK.hashes],by rw[TK.draws_app];simp[TK.drawsAll,bj]⟩))
  ·rintro b s' ⟨done,c,e,l,i,rfl⟩;cases l;rw[aM]at e;subst e;show dj _ _ (retInt (Builtin.Tuple.tupleHashOf b.toList)) _ _ _;rw[i];refine wpAny_ret_mkInt ?_;show dj _ _ (if(decide (-(2:Int)^63<=Builtin.Tuple.tupleHashOf (TK.hashes xs))&&decide (Builtin.Tuple.tupleHashOf (TK.hashes xs)<2^63))=M then _ else _) Q E _;rw[TK.hash,TK.draws]at h;unfold reduceHash at h;by_cases g:(decide (-(2:Int)^63<=Builtin.Tuple.tupleHashOf (TK.hashes xs))&&decide (Builtin.Tuple.tupleHashOf (TK.hashes xs)<2^63))=M
   ·rw[ak g];rw[ak g]at h;exact wP1 (by simpa[bj]using h)
   ·rw[aj g];rw[aj g]at h;exact wB1 (wpAny_rule (wP1 (by simpa[bj]using h)))
mutual
theorem rH:∀k:TK,sx prog w k
 | .non=>λb a h=>by cases a;exact sT h
 | .int i=>λb a h=>by cases a;exact wpAny_pyHash_int h
 | .tup xs=>A0 (tX xs)
theorem tX:∀ks:List TK,∀k∈ks,sx prog w k
 |[],k,h=>by simp at h
 |x::xs,k,h=>by
  by_cases e:k=x
  ·rw[e];exact rH x
  ·exact tX xs k ((aE.mp h).resolve_left e)
end
end
theorem eV.inj{h:dk}:∀ {k k':TK} {v:c8},eV h k v->eV h k' v->k=k':=fun j=>j.rec (motive_1:=fun k v _=>∀ k',eV h k' v->k=k') (motive_2:=fun k v _=>∀ k',fc h k' v->k=k')
  (λk' g=>by cases g;rfl) (λ_ _ k' g=>by cases g;rfl)
  (λe n i m ih k' g=>by
   cases g with
   |tup d l c f=>
    rw[e]at d;cases d;rw[i]at c;cases c;rw[ih _ f])
  (λk' g=>by cases g;rfl) (λ_ _ a b k' g=>by cases g with|cons r' t'=>rw[a _ r',b _ t']) _
theorem eV.keeps{h h':dk}{d:da}{o:Obj}{es ep}(ho:h.get? d=some o)(hd:o.data = .dict es ep)(hs:Heap.SameBut d h h'):∀ {k:TK} {v:c8},eV h k v->eV h' k v:=fun g=>g.rec (motive_1:=fun k v _=>eV h' k v) (motive_2:=fun k v _=>fc h' k v) .non .int
  (λ{a} _ _ _ _ e f c _ ih=>.tup ((hs.2 a (λz=>by subst z;rw[e]at ho;cases ho;rw[c]at hd;cases hd)).trans e) f c ih) .nil (λ_ _ a b=>.cons a b)
theorem fc.at{h:dk}:∀{ks:List TK} {vs:List c8} (j:Nat) (h1:j<ks.length) (h2:j<vs.length),fc h ks vs->eV h ks[j] vs[j]
 |_::_,_::_,0,_,_,.cons r _=>r
 |_::ks,_::vs,j+1,h1,h2,.cons _ t=>fc.at j (by simpa using h1) (by simpa using h2) t
theorem BB{xs ys:List TK}(b:xs.length=ys.length):((af (min xs.length ys.length)).all λj=>decide (xs[j]?=ys[j]?))=decide (xs=ys):=by
 by_cases h:xs=ys
 ·subst h;simp
 ·rw[ai h,List.all_eq_false];have:∃j,xs[j]? ≠ ys[j]?:=Classical.byContradiction λz=>h (bX λj=>Classical.byContradiction λq=>z ⟨j,q⟩);obtain⟨j,a⟩:=this;refine⟨j,?_,by simpa using a⟩;rw[aB,b,Nat.min_self];apply Classical.byContradiction;intro c;exact a (by rw[bY (by lia),bY (by lia)])
theorem EM:∀(n:Nat) {k k':TK} {A:de} {s:c9} {u v:c8},k.dep<=n->A.units+n<cLine->eV s.heap k u->eV s.heap k' v->SeqAt.EqAt A s u v (decide (k=k')):=by
 intro n
 induction n with
 |zero=>
  intro k k' A s u v F S r g;cases r with
  |tup _ _ _ _=>simp[TK.dep]at F
  |non=>
   cases g with
   |non=>simpa using SeqAt.EqAt.same (A:=A) (s:=s) Value.none
   |int i t=>simpa[uA]using kH (A:=A) (s:=s) (y:=.non) (x:=.int i) O ⟨t,O⟩ O O
   |tup e c d t=>simpa using(fq (A:=A) (s:=s) (b:=J) (v:=.non) (u:=.none) ⟨_,e,c,_,d⟩ O O (by lia)).2.1
  |int i t=>
   cases g with
   |non=>simpa[uA]using kH (A:=A) (s:=s) (y:=.int i) (x:=.non) ⟨t,O⟩ O O O
   |int j E=>
    have:=kH (A:=A) (s:=s) (y:=.int i) (x:=.int j) ⟨t,O⟩ ⟨E,O⟩ O O;have e:uA (.int i) (.int j)=decide (TK.int i=TK.int j):=by
     by_cases h:i=j
     ·subst h;simp[uA]
     ·rw[ai (λz=>h (by injection z))];simp[uA,h]
    rw[e]at this;exact this
   |tup e c d q=>simpa using(fq (A:=A) (s:=s) (b:=J) (v:=.int i) (u:=.int i t) ⟨_,e,c,_,d⟩ ⟨t,O⟩ O (by lia)).2.1
 |succ n ih=>
  intro k k' A s u v F S r g;cases r with
  |non=>
   cases g with
   |non=>simpa using SeqAt.EqAt.same (A:=A) (s:=s) Value.none
   |int i t=>simpa[uA]using kH (A:=A) (s:=s) (y:=.non) (x:=.int i) O ⟨t,O⟩ O O
   |tup e c d t=>simpa using(fq (A:=A) (s:=s) (b:=J) (v:=.non) (u:=.none) ⟨_,e,c,_,d⟩ O O (by lia)).2.1
  |int i t=>
   cases g with
   |non=>simpa[uA]using kH (A:=A) (s:=s) (y:=.int i) (x:=.non) ⟨t,O⟩ O O O
   |int j E=>
    have:=kH (A:=A) (s:=s) (y:=.int i) (x:=.int j) ⟨t,O⟩ ⟨E,O⟩ O O;have e:uA (.int i) (.int j)=decide (TK.int i=TK.int j):=by
     by_cases h:i=j
     ·subst h;simp[uA]
     ·rw[ai (λz=>h (by injection z))];simp[uA,h]
    rw[e]at this;exact this
   |tup e c d q=>simpa using(fq (A:=A) (s:=s) (b:=J) (v:=.int i) (u:=.int i t) ⟨_,e,c,_,d⟩ ⟨t,O⟩ O (by lia)).2.1
  | @tup a o f m xs l p B D=>
   cases g with
   |non=>simpa using(fq (A:=A) (s:=s) (b:=J) (v:=.non) (u:=.none) ⟨_,l,p,_,B⟩ O O (by lia)).1
   |int i t=>simpa using(fq (A:=A) (s:=s) (b:=J) (v:=.int i) (u:=.int i t) ⟨_,l,p,_,B⟩ ⟨t,O⟩ O (by lia)).1
   | @tup a2 Q items2 m2 ys P K L C=>
    by_cases aq:a=a2
    ·subst aq;have:TK.tup xs=TK.tup ys:=eV.inj (.tup l p B D) (.tup P K L C);rw[ah this];exact .same _
    ·refine .of_refs aq ?_;have N:=D.split;have ao:=C.split;have G:=SeqAt.RcAt.tuples (A:=A) (s:=s) (e:=fun j=>decide (xs[j]? = ys[j]?)) ⟨o,l,p,m,B⟩ ⟨Q,P,K,m2,L⟩ (by lia) (fun j h1 h2=>by
      have I:j<xs.length:=by rw[N];simpa using h1
      have au:j<ys.length:=by rw[ao];simpa using h2
      rw[TK.dep]at F;have V:=TK.dep_mem (bR I);have q:=ih (k:=xs[j]) (k':=ys[j]) (A:=A.in1) (s:=s) (by lia) (by show A.units+1+n<cLine;lia) (D.at j I (by simpa using h1)) (C.at j au (by simpa using h2));have e:decide (xs[j]?=ys[j]?)=decide (xs[j]=ys[j]):=by
       rw[gG1 I,gG1 au];simp
      rw[e];simpa using q)
     have U:f.size=xs.length:=by rw[N];simp
     have R:items2.size=ys.length:=by rw[ao];simp
     rw[U,R]at G;have H:((af (min xs.length ys.length)).all (λj=>decide (xs[j]?=ys[j]?))&&xs.length == ys.length)=decide (TK.tup xs=TK.tup ys):=by
      by_cases w:xs.length=ys.length
      ·rw[BB w,w,beq_self_eq_true,bL];by_cases h:xs=ys
       ·subst h;simp
       ·rw[ai h,ai (λz=>h (by injection z))]
      ·have T:(xs.length == ys.length)=J:=by simpa using w
       rw[T,bZ,ai (λz=>w (by injection z with z;rw[z]))]
     rw[H]at G;exact G
theorem nS{prog:db}{w:df}:∀(n:Nat) {k:TK} {A:de} {E:c8->c9->Prop} {s:c9} {v:c8} {Q:Bool->c9->Prop},k.dep<=n->eV s.heap k v->Q M s->dj (model prog w) A (eqIsQuiet n v) Q E s:=by
 intro n
 induction n with
 |zero=>
  intro k A E s v Q d r h;cases r with
  |non=>rw[eqIsQuiet_byValue 0 O];exact wP1 h
  |int i t=>rw[eqIsQuiet_byValue 0 O];exact wP1 h
  |tup _ _ _ _=>simp[TK.dep]at d
 |succ n ih=>
  intro k A E s v Q d r h;cases r with
  |non=>rw[eqIsQuiet_byValue _ O];exact wP1 h
  |int i t=>rw[eqIsQuiet_byValue _ O];exact wP1 h
  | @tup a o b m xs f q x p=>
   have g:s.TypeIs (.ref a) "tuple":=⟨o,f,q⟩;rw[TK.dep]at d;unfold eqIsQuiet;refine wB1 (wpAny_specialOf g F.slot_tuple_eq.lookup ?_);show dj _ _ (isInstance (.ref a) (.type "tuple") >>= _) _ _ s;refine wB1 (wpAny_isInstance g isSubtype_tuple_tuple ?_);simp only[b0,bF1,if_false];refine wB1 (wpAny_seqItems f x ?_);refine wB1 ?_;show dj _ _ (forIn b _ _) _ _ s;rw[<- bW];refine wpAny_forIn_list _ (λrest r s'=>r.1=Y/\s'=s /\ ∃ks,fc s.heap ks rest/\TK.depAll ks<=n) _ ?_ ?_ _ _ ⟨O,O,xs,p,by lia⟩
   ·rintro v rest r s' ⟨c,rfl,ks,y,u⟩;cases y with
    | @cons l _ e _ j z=>
     rw[TK.depAll]at u;refine wB1 (ih (k:=l) (by lia) j ?_);simp only[b0,bF1,if_false];exact wP1 ⟨O,O,e,z,by lia⟩
   ·rintro⟨B,r2⟩ s' ⟨c,rfl,_⟩;simp only at c;subst c;exact wP1 h
def iU(prog:db)(w:df):HeapKind prog w TK where
 is:=λh k a=>eV h k (.ref a)/\k.dep<=8
 hash:=TK.hash
 draws:=TK.draws
 room:=λA=>A.units+8<cLine
 inj:=λhx hy=>hx.1.inj hy.1
 keeps:=λx ho hd hs=>⟨x.1.keeps ho hd hs,x.2⟩
 pyHash:=λhu hk h=>rH _ (by have:=hk.2;omega) hk.1 h
 eqBool:=λhu hx hy h=>EM 8 hx.2 hu hx.1 hy.1 _ _ _ _ h
 quiet:=λhk h=>nS 8 hk.2 hk.1 h
def Mw:G2:=λo v S=>match o,v with
 | .ref n,.ref b=>match S[n]?,S[b]? with
  |some (.lst xs),Z (.lst ys)=>if xs.length+ys.length<=di then Z (.non,S.set n (.lst (xs++ys)))else Y
  |_,_=>Y
 |_,_=>Y
def Jx(n:Nat)(k:Int):Nat:=if k<0 then(k+(n:Int)).toNat else min k.toNat n
def Mv:G3:=λo i v S=>match o,i with
 | .ref n,.int k=>match S[n]? with
  |some (.lst xs)=>if-(2^63)<=k/\k<2^63/\xs.length<di then Z (.non,S.set n (.lst (xs.take (Jx xs.length k)++v::xs.drop (Jx xs.length k))))else Y
  |_=>Y
 |_,_=>Y
def ye(f:D->D->Option Bool)(x:D):List D->Option (List Bool)
 |[]=>Z []
 |y::ys=>(f y x).bind λb=>(ye f x ys).map (b :: ·)
def A2:G2:=λo x S=>match o with
 | .ref n=>match S[n]? with
  |some (.lst ys)=>(ye (kG S d4) x ys).bind λbs=>if bs.length<2^62 then(bs.findIdx? id).map λj=>(.int (j:Nat),S)else Y
  |_=>Y
 |_=>Y
theorem wX(f:D->D->Option Bool)(x:D):∀{ys:List D} {bs:List Bool},ye f x ys=Z bs->bs.length=ys.length /\ ∀(j:Nat) (y:D) (k:Bool),ys[j]?=Z y->bs[j]?=Z k->f y x=Z k
 |[],bs,h=>by cases h;exact⟨O,λj y k h=>by simp at h⟩
 |y::ys,bs,h=>by
  rw[ye]at h;obtain⟨b,eb,h⟩:=oB1.mp h;obtain⟨e,c,h⟩:=oM1.mp h;obtain⟨d,a1⟩:=wX f x c;subst h;refine⟨by simp[d],λj=>?_⟩;cases j with
  |zero=>intro a k h1 h2;simp at h1 h2;subst h1;subst h2;exact eb
  |succ j=>intro a k h1 h2;exact a1 j a k (by simpa using h1) (by simpa using h2)
section
open PySem.MeetsSeq PySem.MeetsSeq2 PySem.MeetsSeq3 PySem.SeqRoads2
theorem tW{l:da}{its:Array c8}{n:Nat}{x:c8}{e:Nat->Bool}{top:Int}{j:Nat}(f:j<its.size)(ht:(j:Int)<top)(c:e j=true):∀ (k i:Nat),i+k=j->(∀ m,i<=m->m<j->e m=false) ->
  Meets (Builtin.«list.index.loop» ⟨[.ref l,x,rawInt i,rawInt top],[]⟩)
   (λA R s=>s.heap.get? l=Z {cls:=.type "list",data:=.seq its n}/\(∀m (h:m<its.size),SeqAt.EqAt A.in1 s its[m] x (e m))/\R (.ok (.ret (.int j s.toks))) {s with toks:=s.toks+1})
 |0,i,hk,hno,prog,w,A,R,⟨hp,g,d,tk,os⟩,⟨hl,he,h⟩=>by
  have o:i=j:=by lia
  subst o
  wp_walk using AutoSeq1.wpAny_loadPart' hl
  rw[show(if(i:Int)<top then its[((i:Nat):Int).toNat]? else Y)=Z its[i] by simp[ht,f]];refine wB1 (he i f prog w _ _ ?_);rw[c]
  wp_walk
  exact h
 |k+1,i,hk,hno,prog,w,A,R,⟨hp,g,d,tk,os⟩,⟨hl,he,h⟩=>by
  have h1:i<its.size:=by lia
  have h2:(i:Int)<top:=by lia
  wp_walk using AutoSeq1.wpAny_loadPart' hl
  rw[show(if(i:Int)<top then its[((i:Nat):Int).toNat]? else Y)=Z its[i] by simp[h1,h2]];refine wB1 (he i h1 prog w _ _ ?_);rw[hno i (nR1 i) (by lia)]
  wp_walk
  rw[show((i:Int)+1)=((i+1:Nat):Int) by push_cast;rfl];have z:=tW (l:=l) (n:=n) (x:=x) f ht c k (i+1) (by lia) (λm a b=>hno m (by lia) b) prog w A R _ ⟨hl,he,h⟩;exact⟨plainId_quiet plain_index_loop _,wD1 entry_index_loop (by rw[Around.under_plainId plain_index_loop _];exact z)⟩
theorem AY{l:da}{its:Array c8}{n:Nat}{x:c8}{e:Nat->Bool}{j:Nat}(o:j<its.size)(ht:(j:Int)<2^63-1)(c:e j=true)(a:∀ m,m<j->e m=false):
  Meets (Builtin.«list.index» ⟨[.ref l,x],[]⟩)
   (λA R s=>s.heap.get? l=Z {cls:=.type "list",data:=.seq its n}/\(∀m (h:m<its.size),SeqAt.EqAt A.in1 s its[m] x (e m))/\R (.ok (.ret (.int j s.toks))) {s with toks:=s.toks+1}):=by
 intro prog w A R ⟨q,g,d,tk,p⟩ ⟨f,k,h⟩
 wp_walk using AutoSeq1.wpAny_loadPart' f
 rw[show((λi:Int=>if i<0 then max 0 (i+(its.size:Int))else i) ((Y:Option Int).getD 0))=((0:Nat):Int) by simp,show((λi:Int=>if i<0 then max 0 (i+(its.size:Int))else i) ((Y:Option Int).getD (2^63-1)))=2^63-1 by simp];have z:=tW (l:=l) (n:=n) (x:=x) o ht c j 0 (by lia) (λm _ b=>a m b) prog w A R _ ⟨f,k,h⟩;exact⟨plainId_quiet plain_index_loop _,wD1 entry_index_loop (by rw[Around.under_plainId plain_index_loop _];exact z)⟩
end
section
variable{X:Cx}
theorem Ia(wq:X.A.units+64<cLine):HP X "list.index" (λx xs H Q=>rN X.K (b2 A2) (x::xs) H Q):=by
 intro ag s σ H x xs v W Q I aq K h;obtain⟨x',y,mu,S,d,e,U,S',au,L,r2,g,a,hc⟩:=zE h;cases au;unfold A2 at a;split at a
 ·rename_i n;split at a
  ·rename_i ys P;obtain⟨bs,eb,a⟩:=oB1.mp a;split at a
   ·rename_i r;obtain⟨j,p,a⟩:=oM1.mp a;cases a;cases L with
    |ref N=>
     obtain⟨vs,R,t⟩:=g.lst P N;cases aq;obtain⟨u,rfl,w⟩:=K.one;obtain⟨z,b,T,c,ar,e⟩:=I.lstM R;obtain⟨l1,l⟩:=wX _ _ eb;have V:=t.length;have l3:=c.length;rw[b4]at p;obtain⟨C,f,k⟩:=p;have o:∀m (a:m<b.toArray.size),SeqAt.EqAt X.A.in1 s b.toArray[m] u (bs[m]?.getD J):=λm a=>by
      have m1:m<b.length:=by simpa using a
      obtain⟨ao,B,E⟩:=t.getV (i:=m) (v:=vs[m]'(by lia)) (gG1 (by lia));obtain⟨w',q,D⟩:=c.get (i:=m) (x:=vs[m]'(by lia)) (gG1 (by lia));have m2:m<bs.length:=by lia
      have G:b.toArray[m]=w':=by
       have:=gG1 m1;rw[this]at q;simpa using q
      rw[G,gG1 m2];exact(mf I g d4 (A:=X.A.in1) (by show X.A.units+1+60<cLine;lia) E r2 D w (l m ao bs[m] B (gG1 m2))).1
     refine call_meets F.slot_list_index ⟨_,e,O⟩ F.entry_list_index (F.args_list_index_2 _ _)
      (AY (n:=T) (e:=λm=>bs[m]?.getD J) (j:=j) (by simp;lia) (by lia) ?_ ?_) ⟨e,o,?_⟩
     ·simp only[gG1 C,b5];simpa using f
     ·intro m a;have m2:m<bs.length:=by lia
      have:=k m a;simp only[gG1 m2,b5];simpa using this
     ·exact⟨.int j,H,I.tok _,⟨_,O⟩,hc.now (.int _) g⟩
   ·cases a
  ·cases a
 ·cases a
end
mutual
def kD:D->Option TK
 | .non=>Z .non
 | .int i=>Z (.int i)
 | .tup xs=>(xY xs).map .tup
 |_=>Y
def xY:List D->Option (List TK)
 |[]=>Z []
 |x::xs=>(kD x).bind λk=>(xY xs).map (k :: ·)
end
def iM:D->Option TK
 | .tup xs=>(xY xs).bind λks=>if(TK.tup ks).dep<=8 then Z (.tup ks)else Y
 |_=>Y
mutual
theorem Jv:∀{d:D} {k:TK},kD d=Z k->oV k=d
 | .non,k,h=>by cases h;rfl
 | .int i,k,h=>by cases h;rfl
 | .tup xs,k,h=>by
  rw[kD]at h;obtain⟨ks,e,h⟩:=oM1.mp h;subst h;rw[oV,u9 e]
 | .bl _,k,h=>by simp[kD]at h
 | .str _,k,h=>by simp[kD]at h
 | .rol _,k,h=>by simp[kD]at h
 | .fn _,k,h=>by simp[kD]at h
 | .ref _,k,h=>by simp[kD]at h
theorem u9:∀{ds:List D} {ks:List TK},xY ds=Z ks->ky ks=ds
 |[],ks,h=>by cases h;rfl
 |x::xs,ks,h=>by
  rw[xY]at h;obtain⟨k,b,h⟩:=oB1.mp h;obtain⟨t,a,h⟩:=oM1.mp h;subst h;rw[ky,Jv b,u9 a]
end
theorem nj{d:D}{k:TK}(h:iM d=Z k):oV k=d/\k.dep<=8 /\ ∃xs,k = .tup xs:=by
 cases d with
 |tup xs=>
  rw[iM]at h;obtain⟨ks,e,h⟩:=oB1.mp h;split at h
  ·rename_i a;cases h;exact⟨by rw[oV,u9 e],a,ks,O⟩
  ·cases h
 |_=>cases h
section
variable{X:Cx}{ag:List (da×Obj)}{σ:L2.St}{H:Hp}{s:c9}{mu:List da}
mutual
theorem vU(I:Inv X ag σ H s):∀(k:TK) {v:V} {u:c8},eX X.K H mu (oV k) v->dN v u->eV s.heap k u
 | .non,v,u,r,q=>by
  rw[oV]at r;cases r;cases q;exact .non
 | .int i,v,u,r,q=>by
  rw[oV]at r;cases r;obtain⟨t,rfl⟩:=q;exact .int i t
 | .tup xs,v,u,r,q=>by
  rw[oV]at r;cases r with
  |tup h t=>
   cases q;obtain⟨e,c,⟨o,b,d,n,a⟩,_⟩:=I.tuple h;exact .tup b d a (by simpa using uN I xs t c)
theorem uN(I:Inv X ag σ H s):∀(ks:List TK) {vs:List V} {a:List c8},dJ X.K H mu (ky ks) vs->dY vs a->fc s.heap ks a
 |[],vs,a,r,q=>by rw[ky]at r;cases r;cases q;exact .nil
 |k::ks,vs,a,r,q=>by
  rw[ky]at r;cases r with
  |cons r t=>cases q with
   |cons q p=>exact .cons (vU I k r q) (uN I ks t p)
end
theorem uW{α β γ δ:Type}{F:α->β->Prop}{G:γ->δ->Prop}{f:α->γ}{g:β->δ}:∀{l₁:List α} {l₂:List β},Paired F l₁ l₂->(∀a b,F a b->G (f a) (g b))->Paired G (l₁.map f) (l₂.map g):=by
 intro a b h g
 induction h with
 |nil=>exact .nil
 |cons r t ih=>exact .cons (g _ _ r) ih
theorem uX{α β:Type}{F:α->β->Prop}:∀{l₁ f:List α} {l₂ e:List β},Paired F l₁ l₂->Paired F f e->Paired F (l₁++f) (l₂++e):=by
 intro a b c d h g
 induction h with
 |nil=>exact g
 |cons r t ih=>exact .cons r ih
theorem KT.length{K:Fg1}:∀{ks:List (TK×D)} {ws:List (TK×da×c8)},KT K H mu ks ws->ks.length=ws.length:=λh=>Paired.length h
theorem KT.mem{K:Fg1}:∀{ks:List (TK×D)} {ws:List (TK×da×c8)},KT K H mu ks ws -> ∀x∈ws,x.1.dep<=8/\eX K H mu (oV x.1) (.ref x.2.1):=by
 intro ks ws a x h
 induction a with
 |nil=>cases h
 |cons r t ih=>
  rcases aE.mp h with e|e
  ·subst e;rw[<- r.1];exact⟨r.2.1,r.2.2.1⟩
  ·exact ih e
theorem KT.look{K:Fg1}{k:TK}:∀ {ks:List (TK×D)} {ws:List (TK×da×c8)},KT K H mu ks ws ->
  (∀d,dM ks k=Z d -> ∃p v,atKey ws k=Z p/\dN v p.2/\eX K H mu d v)/\(atKey ws k).isSome=(dM ks k).isSome:=by
 intro ks ws h
 induction h with
 |nil=>exact⟨λd h=>by simp[dM]at h,O⟩
 | @cons p g ks ws r t ih=>
  obtain⟨b,e⟩:=p;obtain⟨l,a2,c⟩:=g;obtain⟨z,d,q,v,f,r⟩:=r;dsimp only at z q f r;subst z;obtain⟨h1,h2⟩:=ih;by_cases a:b=k
  ·subst a;refine⟨λd h=>?_,by simp[atKey,dM]⟩;have:e=d:=by simpa[dM]using h
   subst this;exact⟨(a2,c),v,by simp[atKey],f,r⟩
  ·have i:dM ((b,e)::ks) k=dM ks k:=by simp[dM,a0,a]
   have j:atKey ((b,a2,c)::ws) k=atKey ws k:=by simp[atKey,a0,a]
   rw[i,j];exact⟨h1,h2⟩
theorem KT.put{K:Fg1}{k:TK}{d:D}{v:V}{a:da}{u:c8}(hk:k.dep<=8)(l:eX K H mu (oV k) (.ref a))(i:dN v u)(q:eX K H mu d v){ks:List (TK×D)}{ws:List (TK×da×c8)}(h:KT K H mu ks ws):KT K H mu (g6 ks k d) (storedH ws k a u):=by
 unfold g6 storedH;have e:(ks.any λp=>decide (p.1=k))=(atKey ws k).isSome:=by
  rw[h.look.2];unfold dM;rw[bf,bP,List.find?_isSome,bQ]
 rw[e];split
 ·clear e;refine uW h λp w ⟨z,g,f,m,c,j⟩=>?_;unfold putAt;by_cases b:p.1=k
  ·rw[ak b,ak (by rw[<- z];exact b)];exact⟨z,g,f,v,i,q⟩
  ·rw[aj b,aj (by rw[<- z];exact b)];exact⟨z,g,f,m,c,j⟩
 ·exact uX h (.cons ⟨O,hk,l,v,i,q⟩ .nil)
theorem t9(I:Inv X ag σ H s){a:da}{xs:List (TK×da×c8)}{kvs:List (TK×D)}(e:H a=Z (.ext (jS a xs)))(h:KT X.K H mu kvs xs):(a == sysModules)=J/\s.heap.DictOfH (iU X.prog X.w) a xs:=by
 obtain⟨⟨h1,h2,o,es,ep,g,c,f,d⟩,_⟩:=(show eI X.prog X.w H s.heap a (.ext (jS a xs))from I.hok a _ e);exact⟨h1,o,es,ep,g,c,f,d,λx b=>⟨vU I _ (h.mem x b).2 O,(h.mem x b).1⟩,h2⟩
theorem wV{h:dk}{a:da}{xs:List (TK×da×c8)}(hd:(a == sysModules)=J)(hm:h.DictOfH (iU X.prog X.w) a xs):eI X.prog X.w H h a (.ext (jS a xs)):=by
 obtain⟨o,es,ep,d,i,k,j,m,l⟩:=hm;refine⟨⟨hd,l,o,es,ep,d,i,k,j⟩,⟨o,d⟩,λp n ⟨a1,a2,o',b,c,b3,g,f,e⟩ st=>⟨a1,a2,o',b,c,st _ b3,g,f,e⟩⟩
end
def m4:G2:=λd e S=>match e with
 | .ref n=>match S[n]? with
  |some (.dcT kvs)=>(iM d).map λk=>(.bl (dM kvs k).isSome,S)
  |_=>ve d e S
 |_=>ve d e S
def fA:G2:=λd e S=>match e with
 | .ref n=>match S[n]? with
  |some (.dcT kvs)=>(iM d).map λk=>(.bl (!(dM kvs k).isSome),S)
  |_=>i3 d e S
 |_=>i3 d e S
def dD:G2:=λd e S=>match d with
 | .ref n=>match S[n]? with
  |some (.dcT kvs)=>(iM e).bind λk=>(dM kvs k).map λx=>(x,S)
  |some (.dcF kvs)=>(iM e).bind λk=>(dM kvs k).map λx=>(x,S)
  |_=>m3 d e S
 |_=>m3 d e S
def jg:G3:=λo i v S=>match o with
 | .ref n=>match S[n]? with
  |some (.dcT kvs)=>(iM i).bind λk=>if kvs.length<di then Z (.non,S.set n (.dcT (g6 kvs k v)))else Y
  |some (.dct [])=>match iM i with
   |some k=>Z (.non,S.set n (.dcT [(k,v)]))
   |none=>mK o i v S
  |_=>mK o i v S
 |_=>mK o i v S
section
variable{X:Cx}
theorem tO{κ:Type}[DecidableEq κ](kvs:List (κ×D))(k:κ)(d:D):(g6 kvs k d).length<=kvs.length+1:=by
 unfold g6;split
 ·rw[lM1];lia
 ·simp
theorem t5{h:dk}{a:da}(d:h.DictOf (fg X.prog X.w) a []):h.DictOfH (iU X.prog X.w) a []:=by
 obtain⟨o,es,ep,h1,h2,c,_,b,_⟩:=d;have e:es.toList=[]:=by
  generalize es.toList=l at b;cases b;rfl
 exact⟨o,es,ep,h1,h2,c,e,(λx f=>by simp at f),bp⟩
theorem jV{A:de}(a:A.units+64<cLine):(iU X.prog X.w).room A.in1:=by
 show A.units+1+8<cLine;lia
theorem l7{ag:List (da×Obj)}{σ:L2.St}{H:Hp}{s:c9}{mu:List da}(I:Inv X ag σ H s){d:D}{v:V}{u:c8}{k:TK}(r:eX X.K H mu d v)(q:dN v u)(h:iM d=some k):
  ∃a,u = .ref a/\v = .ref a/\eX X.K H mu (oV k) (.ref a)/\k.dep<=8/\(iU X.prog X.w).is s.heap k a:=by
 obtain⟨e,b,xs,ex⟩:=nj h;subst e;have is:=vU I k r q;subst ex;cases id is with
 | @tup a _ _ _ _ _ _ _ _=>
  rw[oV]at r;cases r with
  |tup h1 h2=>
   cases q;exact⟨a,O,O,by rw[oV];exact .tup h1 h2,b,is,b⟩
theorem tw(i:X.A.units+64<cLine):gg X (compareOp .In) (r2 X.K (b2 m4)):=by
 intro ag s σ H x y u w Q I g l h;obtain⟨mu,S,d,e,r,m,o,c,f,b,hc⟩:=uz h;have back:ve d e S=Z (r,m)->dj (model X.prog X.w) X.A (compareOp .In u w) (EP X ag σ Q) X.xe s:=λb=>IY i ag s σ H x y u w Q I g l ⟨mu,S,[d,e],r,m,.cons o (.cons c .nil),f,b,hc⟩;unfold m4 at b;split at b
 ·rename_i n;split at b
  ·rename_i kvs z;obtain⟨k,v,b⟩:=oM1.mp b;cases b;cases c with
   |ref A=>
    cases l;obtain⟨xs,q,j,_⟩:=f.dcT z A;obtain⟨t,p⟩:=t9 I q j;obtain⟨a,rfl,rfl,_,_,hi⟩:=l7 I o g v;refine wpAny_in_heap (jV i) hi t p ?_;exact⟨.bl (atKey xs k).isSome,H,I.tok _,O,by rw[j.look.2];exact hc.now (.bl _) f⟩
  ·exact back b
 ·exact back b
theorem n4(i:X.A.units+64<cLine):gg X (compareOp .NotIn) (r2 X.K (b2 fA)):=by
 intro ag s σ H x y u w Q I g l h;obtain⟨mu,S,d,e,r,m,o,c,f,b,hc⟩:=uz h;have back:i3 d e S=Z (r,m)->dj (model X.prog X.w) X.A (compareOp .NotIn u w) (EP X ag σ Q) X.xe s:=λb=>Ae i ag s σ H x y u w Q I g l ⟨mu,S,[d,e],r,m,.cons o (.cons c .nil),f,b,hc⟩;unfold fA at b;split at b
 ·rename_i n;split at b
  ·rename_i kvs z;obtain⟨k,v,b⟩:=oM1.mp b;cases b;cases c with
   |ref A=>
    cases l;obtain⟨xs,q,j,_⟩:=f.dcT z A;obtain⟨t,p⟩:=t9 I q j;obtain⟨a,rfl,rfl,_,_,hi⟩:=l7 I o g v;refine wpAny_notIn_heap (jV i) hi t p ?_;exact⟨.bl (!(atKey xs k).isSome),H,I.tok _,O,by rw[j.look.2];exact hc.now (.bl _) f⟩
  ·exact back b
 ·exact back b
theorem Hl{ag:List (da×Obj)}{σ:L2.St}{H:Hp}{s:c9}{mu:List da}(I:Inv X ag σ H s){a:da}{xs:List (TK×da×c8)}{kvs:List (TK×D)}(e:∃o u,H a=Z (.frz o u)/\E4 a xs o)(h:KT X.K H mu kvs xs):(a == sysModules)=J/\s.heap.DictOfH (iU X.prog X.w) a xs:=by
 obtain⟨o,u,e,h1,h2,c,es,ep,f,d⟩:=e;obtain⟨g,_⟩:=(show eI X.prog X.w H s.heap a (.frz o u)from I.hok a _ e);exact⟨h1,o,es,ep,g,c,f,d,λx b=>⟨vU I _ (h.mem x b).2 O,(h.mem x b).1⟩,h2⟩
theorem qP(F:X.A.units+64<cLine):E2 X (r2 X.K (b2 dD)):=by
 intro value c ag s σ H x y v u Q I C G h m;obtain⟨mu,S,d,e,r,D,B,o,t,f,hc⟩:=uz h;have back:m3 d e S=Z (r,D)->dj (model X.prog X.w) X.A (subscriptTail value c v u) (EP X ag σ Q) X.xe s:=λf=>HY F value c ag s σ H x y v u Q I C G ⟨mu,S,[d,e],r,D,.cons B (.cons o .nil),t,f,hc⟩ m;have i:∀kvs a xs,v = .ref a->KT X.K H mu kvs xs->s.heap.DictOfH (iU X.prog X.w) a xs->((iM e).bind λk=>(dM kvs k).map λx=>(x,S))=Z (r,D)->dj (model X.prog X.w) X.A (subscriptTail value c v u) (EP X ag σ Q) X.xe s:=λkvs a xs P j K f=>by
  obtain⟨k,N,f⟩:=oB1.mp f;obtain⟨z,L,f⟩:=oM1.mp f;cases f;subst P;obtain⟨b,rfl,rfl,_,_,hi⟩:=l7 I o G N;obtain⟨p,aq,ep,au,R⟩:=j.look.1 _ L;have ao:=K.typeIs;unfold subscriptTail;refine wB1 ?_;rw[getitemInPython_of_ne ao.not_modules];refine wB1 (wpAny_specialOf ao PySem.F.slot_dict_getitem.lookup ?_);have l:dj (model X.prog X.w) X.A (subscripted c J (.ref a) (.ref b)) (λr g=>dj (model X.prog X.w) X.A (letTemporaryGo value (.ref a) r >>= λ_=>pure r) (EP X ag σ Q) X.xe g) X.xe s:=by
   rw[m];exact wpAny_operating (wpAny_mono (wpAny_getItem_heap (jV F) hi K ep (show EP X ag σ Q p.2 _ from⟨aq,H,I.tok _,au,hc.now R t⟩)) (λr g q=>wB1 (wpAny_letTemporaryGo (wP1 q))) λ_ _ x=>x)
  first
   |exact wP1 (wB1 l)
   |exact wB1 l
   |exact l
 unfold dD at f;split at f
 ·rename_i n;split at f
  ·rename_i kvs E;cases B with
   | @ref _ a w=>
    cases C;obtain⟨xs,A,j,_⟩:=t.dcT E w;exact i kvs a xs O j (t9 I A j).2 f
  ·rename_i kvs E;cases B with
   | @ref _ a w=>
    cases C;obtain⟨xs,A,j,_⟩:=(show oU X.K H mu a (.dcF kvs)from t.ob n _ a E w);exact i kvs a xs O j (Hl I A j).2 f
  ·exact back f
 ·exact back f
theorem nJ(D:X.A.units+64<cLine):vF X (rU X.K (b3 jg)):=by
 intro ag s σ H o i v T N u Q I aq E t h;obtain⟨mu,S,ds,d,R,wq,l,a,hc⟩:=id h;cases wq with
 |cons A ar=>cases ar with
  |cons y U=>cases U with
   |cons x W=>
    cases W;rename_i P au L;dsimp only[b3]at a;have back:mK P au L S=Z (d,R)->dj (model X.prog X.w) X.A (setItem T N u) (λ_ s'=>∃H',Inv X ag σ H' s'/\Q H') X.xe s:=λa=>Fs D ag s σ H o i v T N u Q I aq E t ⟨mu,S,[P,au,L],d,R,.cons A (.cons y (.cons x .nil)),l,a,hc⟩;unfold jg at a;split at a
    ·rename_i n;split at a
     ·rename_i kvs G;obtain⟨k,C,a⟩:=oB1.mp a;split at a
      ·rename_i hl;cases a;cases A with
       | @ref _ j f=>
        cases aq;obtain⟨xs,r,m,V⟩:=l.dcT G f;obtain⟨K,ao⟩:=t9 I r m;obtain⟨b,rfl,rfl,rk,p,hi⟩:=l7 I y E C;refine wpAny_setItem_heap (hsz:=V) (jV D) hi ao λh' e c=>?_;have g:∃q,h'.get? _=Z q:=let ⟨q,_,_,g,_⟩:=e;⟨q,g⟩
        have put:Ext mu mu H (upd H j (.ext (jS j (storedH xs k b u)))):=Ext.put r trivial (gM1 f);refine⟨_,lD I (by rw[r];exact True.intro) c g (wV K e),hc _ mu put (l.put f r trivial ⟨_,dX,((m.put p rk t x).ext put),?_⟩)⟩;rw[<- (m.put p rk t x).length];have:=tO kvs k L;lia
      ·cases a
     ·rename_i G;split at a
      ·rename_i k C;cases a;cases A with
       | @ref _ j f=>
        cases aq;obtain⟨ws,w,m⟩:=l.dct G f;cases m;obtain⟨z,K,vs,B,ao⟩:=wY I.hok w;cases B;obtain⟨b,rfl,rfl,rk,p,hi⟩:=l7 I y E C;have F:s.heap.DictOfH (iU X.prog X.w) _ []:=t5 ao;refine wpAny_setItem_heap (hsz:=bh _) (jV D) hi F λh' e c=>?_;have g:∃q,h'.get? _=Z q:=let ⟨q,_,_,g,_⟩:=e;⟨q,g⟩
        have put:Ext mu mu H (upd H j (.ext (jS j (storedH [] k b u)))):=Ext.put w trivial (gM1 f);exact⟨_,lD I (by rw[w];exact True.intro) c g (wV K e),hc _ mu put (l.put f w trivial ⟨_,dX,KT.ext put (.cons ⟨O,p,rk,v,t,x⟩ .nil),(show 1<=di by decide)⟩)⟩
      ·exact back a
     ·exact back a
    ·exact back a
end
def qo(S:Sto)(d:D):Option Bool:=match d with
 | .non=>Z J
 | .bl b=>Z b
 | .int i=>Z (i != 0)
 | .str y=>if y.length<=di then Z ((y.length:Int) != 0)else Y
 | .ref n=>match S[n]? with
  |some (.dct kvs)=>Z (!kvs.isEmpty)
  |_=>(dP S d).map λp=> !p.2.isEmpty
 |_=>(dP S d).map λp=> !p.2.isEmpty
noncomputable def mTr (m:FE):FT:=λr S=>(m r S).bind λp=>(qo p.2 p.1).map λb=>(b,p.2)
section
variable{K:Fg1}{H:Hp}{mu:List da}{S:Sto}
theorem qv{d:D}{v:V}{b:Bool}(r:eX K H mu d v)(s:Sim K H mu S)(h:((dP S d).map λp=> !p.2.isEmpty)=Z b):BN K v H b:=by
 obtain⟨⟨k,xs⟩,e,h⟩:=oM1.mp h;obtain⟨a,vs,rfl,q,t⟩:=dI r s e;have z:(!xs.isEmpty) = !vs.isEmpty:=by cases t<;>rfl
 dsimp only at h;rw[z]at h;cases k
 ·exact .inr (.inl ⟨vs,q,h.symm⟩)
 ·exact .inl ⟨vs,q,h.symm⟩
theorem ze{d:D}{v:V}{b:Bool}(r:eX K H mu d v)(s:Sim K H mu S)(h:qo S d=Z b):BN K v H b:=by
 cases d with
 |non=>cases r;cases h;rfl
 |bl k=>cases r;cases h;rfl
 |int i=>cases r;cases h;rfl
 |str y=>
  rw[qo]at h;split at h
  ·rename_i a;cases r;cases h;exact⟨a,O⟩
  ·cases h
 |tup xs=>exact qv r s h
 |rol xs=>exact qv r s h
 |fn x=>cases h
 |ref n=>
  rw[qo]at h;split at h
  ·rename_i kvs g;cases h;cases r with
   |ref c=>
    obtain⟨ws,e,f⟩:=s.dct g c;refine .inr (.inr ⟨ws,e,?_⟩);cases f<;>rfl
  ·exact qv r s h
end
theorem et{X:Cx}{x:Expr}{f:FE}(h:XE X x f)(he:∀a,isTrue x X.env a=(do let v<-a;standAt x.pos;holding [v] (truthy v)):=by intro _;rfl):XT X x (mTr f):=
 ⟨qC (zI h.h he) <| by
  rintro σ H Q ⟨r,mu,S,b,n,he,i,c,hc⟩;obtain⟨⟨m,l⟩,e,c⟩:=oB1.mp c;obtain⟨b1,j,c⟩:=oM1.mp c;cases c;exact⟨r,mu,S,_,_,he,i,e,λv H1 mu1 g k d=>⟨_,ze k d j,hc H1 mu1 g d⟩⟩⟩
section
variable{X:Cx}{ag:List (da×Obj)}{σ:L2.St}{H:Hp}{s:c9}{mu:List da}
end
section
variable{X:Cx}
def jG:List D->Option (List Int)
 |[]=>Z []
 | .int i::ds=>(jG ds).map λis=>i::is
 |_=>Y
def ddI(ns:List Int):List Int:=ns.foldl step_dedup []
theorem oG:∀(ns c:List Int),c.Nodup->(ns.foldl step_dedup c).Nodup
 |[],c,h=>h
 |n::ns,c,h=>by
  rw[b6];refine oG ns _ ?_;unfold step_dedup;split
  ·exact h
  ·rename_i f;rw[bw];refine⟨h,by simp,λa g b d e=>?_⟩;simp at d;apply f;rw[bQ];exact⟨a,g,by simp[e,d]⟩
theorem ua(ns:List Int):firstMet (λi=>ns.getD i 0) ns.length=ddI ns:=by
 unfold firstMet ddI
 congr 1
 apply List.ext_getElem
 ·simp
 ·intro i h1 h2;simp at h1 ⊢;rw[gG1 (by omega)];rfl
theorem pO{K:Fg1}{H:Hp}{mu:List da}:∀{ds:List D} {vs:List V} {a:List c8} {ns:List Int},dJ K H mu ds vs->dY vs a->jG ds=Z ns->IntsAre a ns/\ns.length=ds.length:=by
 intro ds vs a ns g b h
 induction g using dJ.ind generalizing a ns with
 |hn=>cases h;cases b;exact⟨.nil,O⟩
 | @hc d v ds vs r t ih=>
  cases d with
  |int i=>
   obtain⟨c,e,h⟩:=oM1.mp h;cases h;cases r;cases b with
   |cons r b=>
    obtain⟨f,j⟩:=ih b e;obtain⟨tk,rfl⟩:=r;exact⟨.cons _ _ f,by rw[lC1,lC1,j]⟩
  |_=>cases h
theorem lK(l:List Int):(λk'=>l.any (· == k'))=λk'=>l.contains k':=by
 funext k
 induction l with
 |nil=>rfl
 |cons x xs ih=>rw[ba,b7,ih,show(x == k)=(k == x)from Bool.beq_comm]
def rK:G1:=λd S=>match dP S d with
 |some (M,xs)=>(jG xs).bind λns=>if ns.length+1<scanBound then Z (.ref S.length,S++[.iset (ddI ns)])else Y
 |_=>Y
theorem JR{k:Nat}(hr:fI k X.A):eA X (.type "set") (rN X.K (b1 rK)):=by
 intro ag s σ H xs K Q I r h;obtain⟨x,mu,S,d,ao,L,rfl,C,l,c,hc⟩:=wd h;unfold rK at c;split at c
 ·rename_i ys p;obtain⟨ns,e,c⟩:=oB1.mp c;split at c
  ·rename_i w;cases c;obtain⟨a,vs,rfl,q,t⟩:=dI C l p;cases r with
   |cons B rt=>
    cases rt;cases B;obtain⟨f,v,⟨o,n,y,j,F,E⟩,_⟩:=I.list q;obtain⟨hi,m⟩:=pO t v e;have g:f.toArray.size=ns.length:=by rw[sT1,hi.length]
    refine PySem.call_set_list (items:=f.toArray) (ns:=ns) hr.hd ⟨o,y,j,⟨n,E⟩⟩ (by simpa using hi) (by rw[g];exact w) λh' tk i G=>?_;rw[g,ua]at i;have D:(ddI ns).Nodup:=oG ns [] bp;have A:=lK (ddI ns);rw[A]at i;refine⟨.ref s.heap.objs.size,upd H s.heap.objs.size (.set (λk=>(ddI ns).contains k) (ddI ns).length),I.laid (λb u z=>G b u (hL1 z) z) (nR1 _) i,O,?_⟩;exact hc _ _ (mu++[s.heap.objs.size]) (Ext.new_ I.fresh) (.ref (gx l.len _)) (l.new I.fresh ⟨dX,D⟩)
  ·cases c
 ·cases c
def ou:G1:=λd S=>match d with
 | .ref n=>match S[n]? with
  |some (.iset xs)=>Z (.int xs.length,S)
  |_=>dV d S
 |_=>dV d S
theorem vv:eA X (.builtin "len") (rN X.K (b1 ou)):=by
 intro ag s σ H xs l Q I r h;obtain⟨x,mu,S,d,k,m,c,j,b,a,hc⟩:=wd h;have u:=a;unfold ou at a;split at a
 ·rename_i n;split at a
  ·rename_i ys e;cases a;subst c;cases j with
   |ref g=>
    obtain⟨w,A⟩:=b.iset e g;cases r with
    |cons y rt=>
     cases rt;cases y;have z:=I.hok _ _ w;obtain⟨o,es,ep,t,v,i,q,_,_,f,p,g⟩:=z;refine PySem.call_len_set v i q p (by unfold scanBound at f;lia) ?_;refine⟨.int es.size,H,I.tok _,⟨_,O⟩,?_⟩;rw[g];exact hc.now (.int _) b
  ·exact ei ag s σ H xs l Q I r (by subst c;exact⟨mu,S,[_],k,m,.cons j .nil,b,(show b1 dV [_] S=_ from a),hc⟩)
 ·exact ei ag s σ H xs l Q I r (by subst c;exact⟨mu,S,[_],k,m,.cons j .nil,b,(show b1 dV [_] S=_ from a),hc⟩)
end
@[elab_as_elim] theorem Mt {P:List c8->Prop}{us:List c8}(l:us.length=0)(f:P []):P us:=by
 cases us with
 |nil=>exact f
 |cons _ _=>cases l
@[elab_as_elim] theorem LM {P:List c8->Prop}{us:List c8}(l:us.length=1)(f:∀a,P [a]):P us:=by
 cases us with
 |nil=>cases l
 |cons a us=>exact Mt (P:=λus=>P (a::us)) (Nat.succ.inj l) (f a)
@[elab_as_elim] theorem LK {P:List c8->Prop}{us:List c8}(l:us.length=2)(f:∀a b,P [a,b]):P us:=by
 cases us with
 |nil=>cases l
 |cons a us=>exact LM (P:=λus=>P (a::us)) (Nat.succ.inj l) (f a)
@[elab_as_elim] theorem K4 {P:List c8->Prop}{us:List c8}(l:us.length=3)(f:∀a b c,P [a,b,c]):P us:=by
 cases us with
 |nil=>cases l
 |cons a us=>exact LK (P:=λus=>P (a::us)) (Nat.succ.inj l) (f a)
@[elab_as_elim] theorem Ms {P:List c8->Prop}{us:List c8}(l:us.length=4)(f:∀a b c d,P [a,b,c,d]):P us:=by
 cases us with
 |nil=>cases l
 |cons a us=>exact K4 (P:=λus=>P (a::us)) (Nat.succ.inj l) (f a)
end Mi
namespace HT
open PySem PySem.Spec PyProof.Rows
variable{prog:db}{w:df}{A:de}{E:c8->c9->Prop}{s:c9}
theorem lT{c:da}{t:Tok}{n:Nat}{Q:Int×Int×Nat->c9->Prop}(hs:s.heap.IsSliceOf c .none .none (.int (-1) t))(h:Q ((n:Int)-1,-1,n) s):dj (model prog w) A (Builtin.Slice.sliceApplied (.ref c) (pure (n:Int))) Q E s:=by
 obtain⟨f,a,d,b⟩:=id hs;unfold Builtin.Slice.sliceApplied Builtin.Slice.sliceFields;refine wB1 (wB1 (wpAny_field a b (x:=.none) O (wB1 (wpAny_field a b (x:=.none) O (wB1 (wpAny_field a b (x:=.int (-1) t) O (wP1 ?_)))))));refine wB1 (hD (.int (-1) t) ?_);show dj _ _ (if((-1:Int) == 0)=M then _ else _) _ _ s;rw[aj (by decide)];refine wB1 (hD .none (wB1 (hD .none (wB1 (wP1 ?_)))));show dj _ _ (pure ((n:Int)-1,(-1:Int),Builtin.Slice.slicePlaces ((n:Int)-1) (-1) (-1))) _ _ s;have e:Builtin.Slice.slicePlaces ((n:Int)-1) (-1) (-1)=n:=by
  unfold Builtin.Slice.slicePlaces;have h1:¬ (-1:Int)>0:=by lia
  have h2: -(-1:Int)=1:=rfl;simp only[h1,if_false,h2,Int.ediv_one];split<;>lia
 rw[e];exact wP1 h
theorem A5{α β:Type}{f g:α->Option β}:∀l:List α,(∀m,m∈l->f m=g m)->l.filterMap f=l.filterMap g:=by
 intro l
 induction l with
 |nil=>intro _;rfl
 |cons x l ih=>intro h;rw[aD,aD,h x (mS1 ..),ih λm a=>h m (mC1 _ a)]
theorem sV(xs:Array c8):((af xs.size).filterMap λ(m:Nat)=>xs[(((xs.size:Int)-1)+(m:Int)*(-1)).toNat]?).toArray=xs.toList.reverse.toArray:=by
 congr 1
 have e:((af xs.size).filterMap λ(m:Nat)=>xs[(((xs.size:Int)-1)+(m:Int)*(-1)).toNat]?)=(af xs.size).filterMap λm=>xs.toList.reverse[m]?:=by
  apply A5;intro m a;have a:=aB.mp a;rw[List.getElem?_reverse (by rw[aI];exact a),aT1,aI]
  congr 1
  lia
 rw[e];have:=pick_run xs.toList.reverse.toArray 0 xs.size;rw[aU]at this;have b:((λx=>xs.toList.reverse.toArray[x]?)∘λx=>0+x)=λm=>xs.toList.reverse[m]?:=by funext m;simp
 rw[b]at this;rw[this];simp only[List.drop_zero];exact b8 (by simp)
theorem ly {t f:da}{items:Array c8}{tk:Tok}{Q:c8->c9->Prop}(ht:IsTup s.heap t items)(hs:s.heap.IsSliceOf f .none .none (.int (-1) tk))
  (h:Q (.ref s.heap.objs.size) {s with heap:=s.heap.push {cls:=.type "tuple",data:=.seq items.toList.reverse.toArray}})
  (hsz:items.size<=di):dj (model prog w) A (getItem (.ref t) (.ref f)) Q E s:=by
 have a:sizeOk (.seq items.toList.reverse.toArray):=by
  show items.toList.reverse.toArray.size<=di;rw[sT1,b9,aI];exact hsz
 obtain⟨g,d,e,i⟩:=id hs;have b:s.TypeIs (.ref f) "slice":=⟨g,d,e⟩;unfold getItem
 try with_reducible refine wpAny_holding ?_
 first|refine wB1 (wP1 ?_)|skip
 refine wB1 (wpAny_sequenceKey ht.typeIs (by decide) ?_);refine wB1 (wpAny_callSpecial?_slot (name:=Str.ofString "__getitem__") ht.typeIs PyProof.Rows.slot_tuple_getitem
  (wE1 PyProof.Rows.slot_tuple_getitem ht.typeIs entry_tuple_getitem ?_ (args_tuple_getitem _ _)))
 show dj _ _ (Builtin.Tuple.tupleItemsOf (.ref t) >>= _) _ _ s;refine wB1 (tupleItemsOf_ ht ?_);refine wB1 (wpAny_typeOf b ?_);rw[ak (by decide)];refine wB1 (lT hs ?_);have c:¬ (((items.size:Int)-1 == 0&&(-1:Int) == 1&&items.size == items.size)=M):=by
  intro q;rw[bA1,bA1]at q;exact absurd (eq_of_beq q.1.2) (by decide)
 show dj _ _ (if((items.size:Int)-1 == 0&&(-1:Int) == 1&&items.size == items.size)=M then _ else _) _ _ s;rw[aj c,sV]
 first
  |exact wB1 (m:=Builtin.Tuple.tupleExact _) (wO1 (wP1 ⟨_,rfl,wP1 h⟩) a)
  |exact wB1 (m:=Builtin.Tuple.tupleExact _) (wO1 (wB1 (wP1 (wP1 ⟨_,rfl,wP1 h⟩))) a)
  |exact wB1 (wB1 (m:=Builtin.Tuple.tupleExact _) (wO1 (wP1 (wP1 ⟨_,rfl,wP1 h⟩)) a))
  |exact wB1 (wB1 (m:=Builtin.Tuple.tupleExact _) (wO1 (wP1 ⟨_,rfl,wP1 h⟩) a))
end HT
namespace Mi
open PySem PySem.Spec PyProof.Rows L2
section
variable{X:Cx}
theorem sI:∀{xs:List V} {a:List c8},dY xs a->dY xs.reverse a.reverse:=by
 intro xs
 induction xs with
 |nil=>intro a r;cases r;exact .nil
 |cons x xs ih=>
  intro a r;cases r with
  |cons b r2=>rw[bo,bo];exact(ih r2).append (.cons b .nil)
end
end Mi
namespace HT
open PySem PySem.Spec PyProof.Rows
section
variable{prog:db}{w:df}{A:de}{R:Result->c9->Prop}{I ax L:da}{xs:Array c8}
end
section
variable{prog:db}{w:df}{A:de}{E:c8->c9->Prop}{s:c9}
end
end HT
namespace Mi
open PySem PySem.Spec PyProof.Rows L2
section
variable{X:Cx}
def DG:G1:=λd S=>match d with
 | .int i=>if i.natAbs.log2<1920 then Z (.str (toString i),S)else Y
 |_=>Y
theorem JQ:eA X (.type "str") (rN X.K (b1 DG)):=by
 intro ag s σ H xs b Q I r h;obtain⟨x,mu,S,d,g,j,rfl,f,e,a,hc⟩:=wd h;cases d with
 |int i=>
  dsimp only[DG]at a;split at a
  ·rename_i c;cases a;cases f;exact sd ag s σ H _ b Q I r ⟨_,O,c,hc.now (.str _) e⟩
  ·cases a
 |_=>cases a
end
section
variable{elt tg iter tg2 iter2 tg3 iter3:Expr}{ifs ifs2 ifs3:List Expr}{scope:dq}{pos:Pos}
end
section
variable{X:Cx}
end
def ya(a:Int):List Int->List Int
 |[]=>[a]
 |b::l=>if a<=b then a::b::l else b::ya a l
def jb:List Int->List Int
 |[]=>[]
 |a::l=>ya a (jb l)
theorem l8(a:Int):∀l:List Int,(ya a l).Perm (a::l)
 |[]=>.refl _
 |b::l=>by
  rw[ya];split
  ·exact .refl _
  ·exact((l8 a l).cons b).trans (.swap _ _ _)
theorem gw:∀l:List Int,(jb l).Perm l
 |[]=>.refl _
 |a::l=>(l8 a _).trans ((gw l).cons a)
theorem wK{a:Int}:∀{l:List Int},l.Pairwise (· <= ·)->(ya a l).Pairwise (· <= ·)
 |[],_=>List.pairwise_singleton _ _
 |b::l,h=>by
  rw[ca]at h;rw[ya];split
  ·rename_i c;rw [ca,ca];exact ⟨fun x d=>by
    rcases aE.mp d with z|z
    ·lia
    ·have:=h.1 x z;lia,h.1,h.2⟩
  ·rename_i c;rw[ca];refine⟨λx d=>?_,wK h.2⟩;rcases aE.mp ((l8 a l).mem_iff.mp d)with z|z
   ·lia
   ·exact h.1 x z
theorem nH:∀l:List Int,(jb l).Pairwise (· <= ·)
 |[]=>.nil
 |a::l=>wK (nH l)
theorem qz:∀{a b:List Int},a.Perm b->a.Pairwise (· <= ·)->b.Pairwise (· <= ·)->a=b
 |[],b,p,_,_=>(List.nil_perm.mp p).symm
 |x::a,[],p,_,_=>absurd p.length_eq (by simp)
 |x::a,y::b,p,h1,h2=>by
  rw[ca]at h1 h2;have e:x=y:=by
   have f:=p.mem_iff.mp (mS1 (a:=x) (l:=a));have d:=p.mem_iff.mpr (mS1 (a:=y) (l:=b));rcases aE.mp f with z|z
   ·exact z
   ·rcases aE.mp d with c|c
    ·exact c.symm
    ·have:=h2.1 x z;have:=h1.1 y c;lia
  subst e;rw[qz (List.perm_cons x |>.mp p) h1.2 h2.2]
def mJ:List D->Option (List Int)
 |[]=>Z []
 | .int i::l=>(mJ l).map λt=>i::t
 |_=>Y
section
variable{X:Cx}
theorem pM{K:Fg1}{H:Hp}{mu:List da}:∀{ds:List D} {vs:List V} {a:List c8} {ns:List Int},dJ K H mu ds vs->dY vs a->mJ ds=Z ns->IntsAre a ns:=by
 intro ds
 induction ds with
 |nil=>intro vs a ns r v h;cases r;cases v;cases h;exact .nil
 |cons d ds ih=>
  intro vs a ns r v h;cases r with
  |cons f t=>
   cases v with
   |cons b c=>
    cases f
    case int i=>
     obtain⟨m,e,h⟩:=oM1.mp h;subst h;obtain⟨tk,rfl⟩:=b;exact .cons i tk (ih t c e)
    all_goals cases h
theorem pN:∀{us:List c8} {ns:List Int},IntsAre us ns->dY (ns.map V.int) us:=by
 intro us ns h
 induction h with
 |nil=>exact .nil
 |cons i t _ ih=>exact .cons ⟨t,O⟩ ih
theorem pP:∀{ds:List D} {ns:List Int},mJ ds=Z ns->ns.length=ds.length:=by
 intro ds
 induction ds with
 |nil=>intro ns h;cases h;rfl
 |cons d ds ih=>
  intro ns h;cases d with
  |int i=>
   obtain⟨m,e,h⟩:=oM1.mp h;subst h;rw[lC1,lC1,ih e]
  |_=>cases h
end
end Mi
namespace Mi
open PySem PySem.Spec PyProof.Rows L2
theorem xI(its:List c8):slicePick its.toArray Y Y (Z (-1))=its.reverse.toArray:=by
 have h:=HT.sV its.toArray;rw[sT1]at h;unfold slicePick;have a:sliceBounds Y Y (Z (-1)) its.toArray.size=(((its.length:Nat):Int)-1,-1,-1):=by
  rw[sT1];unfold sliceBounds;have h1:¬ ((Z (-1:Int)).getD 1>0):=by decide
  simp only[h1,if_false];rfl
 rw[a];unfold sliceRange;have hc:(if((its.length:Nat):Int)-1 > -1 then(((its.length:Nat):Int)-1 - -1 - -1-1)/(- -1)else 0).toNat=its.length:=by
  have h2: - (-1:Int)=1:=rfl;rw[h2,Int.ediv_one];split<;>lia
 dsimp only;rw[aj (by decide),hc,aU];have e:((λx=>its.toArray[x]?)∘λ(k:Nat)=>((its.length:Int)-1 + -1*(k:Int)).toNat)=λ(m:Nat)=>its.toArray[(((its.length:Int)-1)+(m:Int)*(-1)).toNat]?:=by
  funext m
  have b:((its.length:Int)-1 + -1*(m:Int)).toNat=(((its.length:Int)-1)+(m:Int)*(-1)).toNat:=by rw[Int.mul_comm]
  show its.toArray[((its.length:Int)-1 + -1*(m:Int)).toNat]?=its.toArray[(((its.length:Int)-1)+(m:Int)*(-1)).toNat]?;rw[b]
 rw[e,h]
section
variable{X:Cx}
def Ic(K:Fg1)(te tk:TE):TE:=fun σ H Q=>te σ H λx H1=>tk σ H1 λk H2=>k = .int (-1)/\((∃a xs,x = .ref a/\jP K H2 a xs /\ ∀p,H2 p=Y->Q (.ref p) (upd H2 p (.tup xs.reverse)))\/(∃a xs,x = .ref a/\lP K H2 a xs /\ ∀p,H2 p=Y->Q (.ref p) (upd H2 p (.lst xs.reverse))))
theorem uV{e l:Expr}{te tk:TE}{pos p2:Pos}(he:PE X e te)(hk:PE X l tk):PE X (.Subscript e (.Slice Y Y (Z l) p2) pos) (Ic X.K te tk):=by
 intro ag s σ H Q I h;refine Subscript_ (eY (he ag s σ H _ I h) λv z ⟨x,H1,A,w,y⟩=>?_);refine wpAny_Slice ?_;rw[evalPart_none];refine wP1 ?_;refine wP1 ?_;rw[evalPart_some];refine eY (hk ag z σ H1 _ A y) λu c ⟨k,H2,B,rk,n⟩=>?_;obtain⟨rfl,n⟩:=n;obtain⟨t,rfl⟩:=rk;have f:Inv X ag σ H2 {c with heap:=c.heap.push {cls:=.type "slice",data:=.fields #[.none,.none,.int (-1) t]}}:=B.kept (t':=c.toks) λb p q=>hP1 _ q;rcases n with⟨a,xs,rfl,m,q⟩|⟨a,xs,rfl,m,q⟩
 ·cases w;obtain⟨i,r,g,j⟩:=f.tuple m;have d:i.toArray.size=xs.length:=by rw[sT1];exact r.length.symm
  show dj (model X.prog X.w) X.A (subscriptTail e (.Slice Y Y (Z l) p2) (.ref a) (.ref c.heap.objs.size)) (EP X ag σ Q) X.xe {c with heap:=c.heap.push {cls:=.type "slice",data:=.fields #[.none,.none,.int (-1) t]}};refine tail_any (ops:=[.ref a,.ref c.heap.objs.size]) g.typeIs PyProof.Rows.slot_tuple_getitem.lookup ?_ (by with_unfolding_all rfl);refine HT.ly g (Heap.IsSliceOf.new ..) ?_ (by rw[d];exact j);refine⟨.ref _,_,f.laid (t':=c.toks) (o:=.tup xs.reverse) (λb p q=>hP1 _ q) (nR1 _) ?_,O,q _ (f.hok.fresh (nR1 _))⟩;exact⟨by rw[b9];exact j,_,sI r,IsTup.new _ _⟩
 ·cases w;obtain⟨i,r,g,j⟩:=f.list m;have d:=r.length;show dj (model X.prog X.w) X.A (subscriptTail e (.Slice Y Y (Z l) p2) (.ref a) (.ref c.heap.objs.size)) (EP X ag σ Q) X.xe {c with heap:=c.heap.push {cls:=.type "slice",data:=.fields #[.none,.none,.int (-1) t]}};refine tail_any (ops:=[.ref a,.ref c.heap.objs.size]) g.isList.typeIs slot_list_getitem.lookup ?_ (by with_unfolding_all rfl);refine wpAny_getItem_list_slice g.isList (Heap.IsSliceOf.new ..) .none .none (.int (-1) t) (by decide) ?_ (by rw[sT1];lia);rw[xI];refine⟨.ref _,_,f.laid (t':=c.toks) (o:=.lst xs.reverse) (λb p q=>hP1 _ q) (nR1 _) ?_,O,q _ (f.hok.fresh (nR1 _))⟩;exact⟨by rw[b9];exact j,_,0,sI r,hS1 _ O⟩
def IA(S:Sto)(d k:D):Option (D×Sto):=match k with
 | .int i=>if i = -1 then(dP S d).map λp=>if p.1=M then(.ref S.length,S++[.lst p.2.reverse])else(.tup p.2.reverse,S)else Y
 |_=>Y
def AA(m a:FE):FE:=λr S=>(m r S).bind λp=>(a r p.2).bind λb=>IA b.2 p.1 b.1
theorem sG{e s:Expr}{m a:FE}{pos p2:Pos}(h:XE X e m)(y:XE X s a):XE X (.Subscript e (.Slice Y Y (Z s) p2) pos) (AA m a):=
 ⟨ez (uV h.h y.h) <| by
  rintro σ H Q ⟨r,mu,S,d,G,w,z,b,hc⟩;obtain⟨⟨A,n⟩,x,b⟩:=oB1.mp b;obtain⟨⟨o,B⟩,F,b⟩:=oB1.mp b;refine⟨r,mu,S,A,n,w,z,x,λv H1 mu1 l C D=>?_⟩;refine⟨r,mu1,n,o,B,w.ext l,D,F,λu H2 g x2 r2 j=>?_⟩;cases o with
  |int i=>
   dsimp only[IA]at b;split at b
   ·rename_i hi;subst hi;cases r2;refine⟨O,?_⟩;obtain⟨⟨k,xs⟩,E,b⟩:=oM1.mp b;obtain⟨c,vs,rfl,q,t⟩:=dI (C.ext x2) j E;cases k with
    |true=>
     cases b;right;exact⟨c,vs,O,q,λp f=>hc _ _ (g++[p]) ((l.trans x2).trans (Ext.new_ f)) (.ref (gx j.len p)) (j.newL t.reverse f)⟩
    |false=>
     simp only[bF1,if_false]at b;cases b;left;exact⟨c,vs,O,q,λp f=>hc _ _ g ((l.trans x2).trans (Ext.fresh f)) (.tup (jP.of dX) (t.reverse.ext (Ext.fresh f))) (j.fresh f)⟩
   ·cases b
  |_=>cases b⟩
end
theorem lS(n:Nat):∀ns:List Int,D.unds n (ns.map D.int)=M
 |[]=>rfl
 |_::ns=>by rw[mP1,D.unds,lS n ns];rfl
theorem DF{n:Nat}{d:D}{S:Sto}(h:S.length=n):gc n (d,S)=(d,S):=by
 unfold gc;split
 ·rw[show(d,S).2=S from rfl,<- h,bV]
 ·rfl
theorem yn{n:Nat}{f:FN}{ds:List D}{S S1:Sto}{d:D}(h:f ds []=Z (d,S1))(hn:ds.length=n)(a:D.unds 0 ds=M)(hd:d.und 0=M):dy n f ds S=Z (d,S):=by
 unfold dy p0;rw[ak hn,ak a,h,oP1,ak hd]
theorem oI{n:Nat}{f:FN}{ds:List D}{S S1:Sto}{d:D}(h:f ds []=Z (d,S1))(hn:ds.length=n)(a:D.unds 0 ds=M)(hd:d.und 0=J):dy n f ds S=Z (d.sh S.length,S++S1.map (Ob.sh S.length)):=by
 unfold dy p0;rw[ak hn,ak a,h,oP1,aj (by dsimp only;rw[hd];decide)]
theorem pY{n:Nat}{f:FN}{ds:List D}{S S1:Sto}{d:D}(h:f ds S=Z (d,S1))(hn:ds.length=n)(a:D.unds 0 ds=J):dy n f ds S=Z (gc S.length (d,S1)):=by
 unfold dy p0;rw[ak hn,aj (by rw[a];decide),h,oP1]
theorem yq{n:Nat}{f:FN}{ds:List D}{S S1:Sto}{d:D}(h:f ds S=Z (d,S1))(hn:ds.length=n)(b:D.unds 0 ds=J)(a:S1.length=S.length):dy n f ds S=Z (d,S1):=by
 rw[pY h hn b,DF a]
theorem tG{i j:Int}(h1: -(2^64)<i)(h2:i<2^64):eW i j=M:=by
 unfold eW;simp only[Bool.or_eq_true,bA1,am];exact .inl (.inl ⟨h1,h2⟩)
theorem ww{i j:Int}(h1: -(2^64)<j)(h2:j<2^64):eW i j=M:=by
 unfold eW;simp only[Bool.or_eq_true,bA1,am];exact .inl (.inr ⟨h1,h2⟩)
theorem ff{S:Sto}{n:Nat}{xs:List D}(h:S[n]?=Z (.lst xs)):pc S [(n,xs)]=M:=by
 rw[pc,h];simp[D.sames_refl,pc]
def j5(n:Nat):Nat->List D
 |0=>[]
 |k+1=>.ref n::j5 (n+1) k
theorem tJ:∀{n:Nat} {lo:Int} {d:D},d∈gH lo n -> ∃k:Int,d = .int k/\lo<=k/\k<lo+n
 |0,lo,d,h=>by simp[gH]at h
 |n+1,lo,d,h=>by
  rw[gH]at h;rcases aE.mp h with h|h
  ·exact⟨lo,h,Int.le_refl _,by lia⟩
  ·obtain⟨k,e,h1,h2⟩:=tJ h;exact⟨k,e,by lia,by lia⟩
open Classical in
def rkV(ws:List c8)(x:c8):Nat:=ws.findIdx λy=>decide (y=x)
theorem Fw{ws:List c8}{x:c8}(h:x∈ws):ws[rkV ws x]?=Z x:=by
 have a:rkV ws x<ws.length:=List.findIdx_lt_length_of_exists ⟨x,h,by simp⟩;rw[gG1 a];have:=List.findIdx_getElem (w:=a);have e:ws[rkV ws x]=x:=of_decide_eq_true this;rw[e]
def kR(ws:List c8)(xs:Array Keyed)(i:Nat):Nat:=(xs[i]?.map λp=>rkV ws p.1).getD 0
theorem lx{ws:List c8}{xs ys:Array Keyed}{i j:Nat}(h:xs[i]?=ys[j]?):kR ws xs i=kR ws ys j:=by unfold kR;rw[h]
def Up(ws:List c8)(xs:Array Keyed)(k:Nat):Prop:=∀i j,i<j->j<k->kR ws xs i<kR ws xs j
def Dn(ws:List c8)(xs:Array Keyed)(k:Nat):Prop:=∀i j,i<j->j<k->kR ws xs j<kR ws xs i
structure SoB (κ:SortKind)(a₀:Array Keyed)(st:SortSt):Prop where
 perm:(arrOf st).Perm a₀
 kind:kindOf st=κ
 failed:failedOf st=none
 pend:pendingOf st = #[]
theorem SoB.arr{κ:SortKind}{a₀:Array Keyed}{st:SortSt}(b:SoB κ a₀ st){xs:Array Keyed}(p:xs.Perm (arrOf st)):SoB κ a₀ (setArr st xs):=⟨p.trans b.perm,b.kind,b.failed,b.pend⟩
structure xh (prog:db)(w:df)(A:de)(s:c9)(κ:SortKind)(ws:List c8)(a₀:Array Keyed):Prop where
 nd:ws.Nodup
 keys:(a₀.toList.map (·.1)).Perm ws
 lt:∀(x y:c8) (i j:Nat),ws[i]?=some x->ws[j]?=some y->i≠j -> ∀(E:c8->c9->Prop) (Q:Bool->c9->Prop),Q (decide (i<j)) s->dj (model prog w) A (keyLt' κ x y) Q E s
section
variable{prog:db}{w:df}{A:de}{E:c8->c9->Prop}{s:c9}{κ:SortKind}{ws:List c8}{a₀:Array Keyed}
theorem xh.at_(C:xh prog w A s κ ws a₀){xs:Array Keyed}(p:xs.Perm a₀){i:Nat}(hi:i<a₀.size):∃x q,xs[i]?=Z (x,q)/\ws[kR ws xs i]?=Z x:=by
 have a:i<xs.size:=by rw[p.size_eq];exact hi
 refine⟨xs[i].1,xs[i].2,aG1 a,?_⟩;have b:xs[i]∈a₀.toList:=(cb.mp p).mem_iff.mp (by simp);have:=Fw (C.keys.mem_iff.mp (cc.mpr ⟨_,b,O⟩));unfold kR;rw[aG1 a];exact this
theorem xh.inj(C:xh prog w A s κ ws a₀){xs:Array Keyed}(p:xs.Perm a₀){i j:Nat}(hi:i<a₀.size)(f:j<a₀.size)(h:kR ws xs i=kR ws xs j):i=j:=by
 obtain⟨x,q,c,a⟩:=C.at_ p hi;obtain⟨y,r,k,g⟩:=C.at_ p f;rw[h,g]at a;cases a;have e:(xs.toList.map (·.1)).Nodup:=(((cb.mp p).map (·.1)).trans C.keys).nodup_iff.mpr C.nd;have b:(xs.toList.map (·.1))[i]?=Z x:=by rw[gP1,aT1,c];rfl
 have d:(xs.toList.map (·.1))[j]?=Z x:=by rw[gP1,aT1,k];rfl
 exact(List.getElem?_inj (gE1.mp b).1 e).mp (b.trans d.symm)
theorem xh.cmp(C:xh prog w A s κ ws a₀){st:SortSt}{i j:Nat}{Q:Option Bool->SortSt->Prop}(b:SoB κ a₀ st)(hi:i<a₀.size)(d:j<a₀.size)(a:i≠j)(h:Q (Z (decide (kR ws (arrOf st) i<kR ws (arrOf st) j))) st):wpS (model prog w) A E s (ltAt' i j) Q st:=by
 obtain⟨x,q,e,f⟩:=C.at_ b.perm hi;obtain⟨y,r,g,k⟩:=C.at_ b.perm d;have c:kR ws (arrOf st) i≠kR ws (arrOf st) j:=λz=>a (C.inj b.perm hi d z);rw[ltAt'_eq];refine wpS_bind (wpS_get ?_);show wpS _ _ _ _ (do let x<-elem' (arrOf st) i;let y<-elem' (arrOf st) j;lt' x y) Q st;rw[elem'_eq,elem'_eq,e,g];refine wpS_bind (wpS_pure (wpS_bind (wpS_pure ?_)));rw[lt'_eq];refine wpS_bind (wpS_get ?_);rw[b.kind];exact wpS_bind (wpS_lift (wpAny_attempt (C.lt x y _ _ f k c _ _ ⟨O,wpS_pure h⟩)))
theorem Up.one{xs:Array Keyed}:Up ws xs 1:=λi j h1 h2=>by lia
theorem Up.snoc{xs:Array Keyed}{n:Nat}(u:Up ws xs n)(h:n=0\/kR ws xs (n-1)<kR ws xs n):Up ws xs (n+1):=λi j h1 h2=>by
 by_cases z:j<n
 ·exact u i j h1 z
 ·have b:j=n:=by lia
  subst b;rcases h with h|h
  ·lia
  ·by_cases a:i=j-1
   ·rw[a];exact h
   ·exact bg (u i (j-1) (by lia) (by lia)) h
theorem Dn.snoc{xs:Array Keyed}{n:Nat}(u:Dn ws xs n)(h:kR ws xs n<kR ws xs (n-1)):Dn ws xs (n+1):=λi j h1 h2=>by
 by_cases z:j<n
 ·exact u i j h1 z
 ·have b:j=n:=by lia
  subst b;by_cases a:i=j-1
  ·rw[a];exact h
  ·exact bg h (u i (j-1) (by lia) (by lia))
theorem zq(C:xh prog w A s κ ws a₀){st:SortSt}{a d:Nat}{Q:AscSt->SortSt->Prop}(hn:d<=a₀.size)(ha:1<=a)(g:a<=d)(b:SoB κ a₀ st)(u:Up ws (arrOf st) a)(h:∀n,a<=n->n<=d->Up ws (arrOf st) n->(n=d\/kR ws (arrOf st) n<kR ws (arrOf st) (n-1))->Q (Y,n) st):wpS (model prog w) A E s (ascLoop a d) Q st:=by
 unfold ascLoop;refine wpS_forRange (λx c f=>f=st/\c=(Y,x)/\Up ws (arrOf st) x) ?_ ?_ ⟨O,O,u⟩
 ·rintro x c f h1 h2 ⟨rfl,rfl,i⟩;refine wpS_bind (C.cmp b (by lia) (by lia) (by lia) ?_);by_cases z:kR ws (arrOf f) x<kR ws (arrOf f) (x-1)
  ·simp only[z,decide_true,if_true];exact wpS_pure (h x h1 (by lia) i (.inr z))
  ·simp only[z,decide_false,bF1,if_false];have:kR ws (arrOf f) x≠kR ws (arrOf f) (x-1):=λe=>by have:=C.inj b.perm (by lia) (by lia) e;lia
   exact wpS_pure ⟨O,O,i.snoc (.inr (by lia))⟩
 ·rintro c f ⟨rfl,rfl,i⟩;rw[Nat.max_eq_right g]at i ⊢;exact h d g (nR1 _) i (.inl O)
theorem Ce(C:xh prog w A s κ ws a₀){st:SortSt}{n a:Nat}{Q:Option Nat->SortSt->Prop}(hn:a<=a₀.size)(h1:1<=n)(f:n<=a)(b:SoB κ a₀ st)(d:Dn ws (arrOf st) n)(h:∀m c,SoB κ a₀ c->m<=a->Up ws (arrOf c) m->Q (Z m) c):wpS (model prog w) A E s (tail3 n a) Q st:=by
 unfold tail3;have l:n<=(arrOf st).size:=by rw[b.perm.size_eq];lia
 have o:SoB κ a₀ (setArr st (mirror (arrOf st) 0 n ((n-0)/2))):=b.arr (mirror_perm _ _ _ _);refine wpS_bind (wpS_reverse (wpS_bind (zq C hn h1 f o (λi j p e=>?_) λm p e u _=>wpS_pure (h m _ o e u))));have g:∀k,k<n->kR ws (mirror (arrOf st) 0 n ((n-0)/2)) k=kR ws (arrOf st) (n-1-k):=λk q=>lx (by
  rw[getElem?_mirror_all l,ak (by lia)]
  congr 1;lia)
 show kR ws (mirror (arrOf st) 0 n ((n-0)/2)) i<kR ws (mirror (arrOf st) 0 n ((n-0)/2)) j;rw[g i (by lia),g j e];exact d _ _ (by lia) (by lia)
theorem Cg(C:xh prog w A s κ ws a₀){st:SortSt}{n f:Nat}{Q:DescSt->SortSt->Prop}(hn:f<=a₀.size)(h1:1<=n)(g:n<=f)(b:SoB κ a₀ st)(d:Dn ws (arrOf st) n)(h:∀m,n<=m->m<=f->Dn ws (arrOf st) m->Q (Y,m,0) st):wpS (model prog w) A E s (descLoop n f) Q st:=by
 unfold descLoop;refine wpS_forRange (λx c a=>a=st/\c=(Y,x,0)/\Dn ws (arrOf st) x) ?_ ?_ ⟨O,O,d⟩
 ·rintro x c a h2 k ⟨rfl,rfl,i⟩;dsimp only;refine wpS_bind (C.cmp b (by lia) (by lia) (by lia) ?_);by_cases z:kR ws (arrOf a) x<kR ws (arrOf a) (x-1)
  ·simp only[z,decide_true,if_true];exact wpS_pure ⟨O,O,i.snoc z⟩
  ·simp only [z,decide_false,bF1,if_false];have j:kR ws (arrOf a) (x-1)<kR ws (arrOf a) x:=by
    have:kR ws (arrOf a) x≠kR ws (arrOf a) (x-1):=λe=>by have:=C.inj b.perm (by lia) (by lia) e;lia
    lia
   refine wpS_bind (C.cmp b (by lia) (by lia) (by lia) ?_);simp only[j,decide_true,if_true];exact wpS_pure (h x h2 (by lia) i)
 ·rintro c a ⟨rfl,rfl,i⟩;rw[Nat.max_eq_right g]at i ⊢;exact h f g (nR1 _) i
theorem Fi(C:xh prog w A s κ ws a₀){st:SortSt}{a:Nat}{Q:Option Nat->SortSt->Prop}(hn:a<=a₀.size)(h1:1<=a)(b:SoB κ a₀ st)(h:∀m c,SoB κ a₀ c->m<=a->Up ws (arrOf c) m->Q (Z m) c):wpS (model prog w) A E s (countRun' 0 a) Q st:=by
 rw[countRun0_eq];refine wpS_bind (zq C hn (nR1 1) h1 b .one λn h2 k u or=>?_);dsimp only;by_cases z:n=a
 ·rw[ak (by simpa using z)];exact wpS_pure (h n st b k u)
 ·rw[aj (by simpa using z)];have l:=or.resolve_left z;by_cases f:n>1
  ·rw[ak f];have:=u 0 (n-1) (by lia) (by lia);refine wpS_bind (C.cmp b (by lia) (by lia) (by lia) ?_);simp only[this,decide_true,if_true];exact wpS_pure (h n st b k u)
  ·rw[aj f];have e:n=1:=by lia
   subst e;unfold descPart;refine wpS_bind (wpS_lift (wpAny_rule ⟨O,?_⟩));refine wpS_bind (Cg C hn (by lia) (by lia) b (λi j p g=>?_) λm p g d=>?_)
   ·have o:i=0:=by lia
    have q:j=1:=by lia
    subst o;subst q;exact l
   ·dsimp only;rw[aj (by lia)];exact Ce C hn (by lia) g b d h
theorem Fk(C:xh prog w A s κ ws a₀){st:SortSt}{n ok:Nat}{Q:Bool->SortSt->Prop}(hn:n<=a₀.size)(H:ok<=n)(b:SoB κ a₀ st)(u:Up ws (arrOf st) ok)(h:∀a,SoB κ a₀ a->Up ws (arrOf a) n->Q M a):wpS (model prog w) A E s (binarySort' 0 n ok) Q st:=by
 rw[binarySort'_eq];simp only[bN];refine wpS_bind (wpS_mono (wpS_forRange (λk c a=>c=(Y,())/\SoB κ a₀ a/\Up ws (arrOf a) (min k n)) (Q:=λc a=>c=(Y,())/\SoB κ a₀ a/\Up ws (arrOf a) n) ?_ ?_ ⟨O,b,λi j h1 h2=>?_⟩) ?_)
 ·rintro k c a G ao ⟨rfl,f,m⟩;rw[bx (by lia)]at m;have v:k<(arrOf a).size:=by rw[f.perm.size_eq];lia
  refine wpS_bind (wpS_mono (wpS_forRange (λx c d=>d=a /\ ∃l r,c=(Y,l,r)/\l<=r/\r<=k/\r-l<=k-x/\(∀i,i<l->kR ws (arrOf a) i<kR ws (arrOf a) k) /\ ∀i,r<=i->i<k->kR ws (arrOf a) k<kR ws (arrOf a) i)
   (Q:=λc d=>d=a /\ ∃l r,c=(Y,l,r)/\l<=k/\(∀i,i<l->kR ws (arrOf a) i<kR ws (arrOf a) k) /\ ∀i,l<=i->i<k->kR ws (arrOf a) k<kR ws (arrOf a) i) ?_ ?_ ⟨O,0,k,O,by lia,by lia,by lia,λi h1=>by lia,λi h1 h2=>by lia⟩) ?_)
  ·rintro x c d _ K ⟨rfl,l,r,rfl,h1,h2,y,p,q⟩;dsimp only;by_cases z:l>=r
   ·rw[ak z];have e:l=r:=by lia
    subst e;exact wpS_pure ⟨O,l,l,O,h2,p,q⟩
   ·rw[aj z];refine wpS_bind (C.cmp f (by lia) (by lia) (by lia) ?_);by_cases o:kR ws (arrOf d) k<kR ws (arrOf d) ((l+r)/2)
    ·simp only[o,decide_true,if_true];refine wpS_pure ⟨O,l,(l+r)/2,O,by lia,by lia,by lia,p,λi I F=>?_⟩;by_cases t:(l+r)/2=i
     ·rw[<- t];exact o
     ·exact bg o (m _ i (by lia) F)
    ·simp only [o,decide_false,bF1,if_false];refine wpS_pure ⟨rfl,(l+r)/2+1,r,rfl,by lia,by lia,by lia,fun i I=>?_,q⟩;have B:kR ws (arrOf d) ((l+r)/2)<kR ws (arrOf d) k:=by
      have:kR ws (arrOf d) k≠kR ws (arrOf d) ((l+r)/2):=λe=>by have:=C.inj f.perm (by lia) (by lia) e;lia
      lia
     by_cases t:i=(l+r)/2
     ·rw[t];exact B
     ·exact bg (m i _ (by lia) (by lia)) B
  ·rintro c d ⟨rfl,l,r,rfl,h1,h2,y,p,q⟩;have e:l=r:=by lia
   subst e;exact⟨O,l,l,O,h2,p,q⟩
  ·rintro c d ⟨rfl,l,r,rfl,h1,h2,y⟩;show wpS _ _ _ _ (do moveDown' k l;pure (ForInStep.yield (none,()))) _ _;rw [moveDown'_eq];refine wpS_bind (wpS_modify (wpS_pure ⟨rfl,f.arr (bubble_perm _ _ _),?_⟩));rw [bx (by lia)];have g:∀ i,kR ws (bubble (arrOf d) k (k-l)) i=if i=l then kR ws (arrOf d) k else if l<i/\i<=k then kR ws (arrOf d) (i-1) else kR ws (arrOf d) i:=fun i=>by
    have e:=getElem?_bubble v (k-l) (by lia) i;rw[show k-(k-l)=l by lia]at e;by_cases D:i=l
    ·rw[ak D]at e ⊢;exact lx e
    ·rw[aj D]at e ⊢;by_cases o:l<i/\i<=k
     ·rw[ak o]at e ⊢;exact lx e
     ·rw[aj o]at e ⊢;exact lx e
   intro i j p q;show kR ws (bubble (arrOf d) k (k-l)) i<kR ws (bubble (arrOf d) k (k-l)) j;rw[g,g]
   repeat' split
   all_goals first
    |(exfalso;lia)
    |exact h2 _ (by lia)
    |exact y _ (by lia) (by lia)
    |exact m _ _ (by lia) (by lia)
 ·rintro c a ⟨hc,f,m⟩;refine⟨hc,f,?_⟩
  rwa [show min (max (max ok 1) n) n=n by lia]at m
 ·by_cases z:ok=0
  ·lia
  ·exact u i j h1 (by lia)
 ·rintro c a ⟨rfl,f,m⟩;exact wpS_pure (h a f m)
theorem Fm(C:xh prog w A s κ ws a₀){st:SortSt}{Q:Unit->SortSt->Prop}(b:SoB κ a₀ st)(h2:2<=a₀.size)(k:a₀.size<64)(h:∀a,(arrOf a).Perm a₀->failedOf a=Y->Up ws (arrOf a) a₀.size->Q () a):wpS (model prog w) A E s sortRuns' Q st:=by
 rw[sortRuns'_eq];refine wpS_bind (wpS_get ?_);dsimp only;have j:minRun' a₀.size a₀.size 0=a₀.size:=by
  generalize u:a₀.size=z at *
  cases z with
  |zero=>lia
  |succ f=>rw[minRun'_succ,ak k]
 simp only[b.perm.size_eq,j];have done:∀a,SoB κ a₀ a->Up ws (arrOf a) a₀.size->(arrOf (setPending a ((pendingOf a).push (0,a₀.size,0)))).Perm a₀/\failedOf (setPending a ((pendingOf a).push (0,a₀.size,0)))=Y/\pendingOf (setPending a ((pendingOf a).push (0,a₀.size,0))) = #[(0,a₀.size,0)]/\Up ws (arrOf (setPending a ((pendingOf a).push (0,a₀.size,0)))) a₀.size:=λa g t=>
  ⟨g.perm,g.failed,by show(pendingOf a).push _=_;rw[g.pend];rfl,t⟩
 refine wpS_bind (wpS_mono (wpS_forRange
  (λx c a=>(x=0/\c=(Y,0)/\SoB κ a₀ a)\/(1<=x/\c=(Y,a₀.size)/\(arrOf a).Perm a₀/\failedOf a=Y/\pendingOf a = #[(0,a₀.size,0)]/\Up ws (arrOf a) a₀.size))
  (Q:=λc a=>c=(Y,a₀.size)/\(arrOf a).Perm a₀/\failedOf a=Y/\pendingOf a = #[(0,a₀.size,0)]/\Up ws (arrOf a) a₀.size) ?_ ?_ (.inl ⟨O,O,b⟩)) ?_)
 ·rintro x c a _ n (⟨rfl,rfl,g⟩|⟨q,rfl,D⟩)
  ·dsimp only;rw[aj (by lia)];simp only[Nat.sub_zero,Nat.min_self,bN];refine wpS_bind (Fi C (nR1 _) (by lia) g λm d b2 o l=>?_);dsimp only;by_cases z:m<a₀.size
   ·rw[ak z];refine wpS_bind (wpS_lift (wpAny_rule ⟨O,?_⟩));refine wpS_bind (Fk C (nR1 _) o b2 l λi b3 r=>?_);simp only[b0,bF1,if_false];refine wpS_bind (wpS_get ?_);rw[b3.pend];exact wpS_bind (wpS_modify (wpS_pure (.inr ⟨by lia,O,done i b3 r⟩)))
   ·rw[aj z];have e:m=a₀.size:=by lia
    subst e;refine wpS_bind (wpS_get ?_);rw[b2.pend];exact wpS_bind (wpS_modify (wpS_pure (.inr ⟨by lia,O,done d b2 l⟩)))
  ·dsimp only;rw[ak (nR1 _)];exact wpS_pure ⟨O,D⟩
 ·rintro c a (⟨n,_⟩|⟨_,hc,D⟩)
  ·lia
  ·exact⟨hc,D⟩
 ·rintro c a ⟨rfl,D⟩;dsimp only;refine wpS_bind (wpS_mono (wpS_forRange (λ_ c d=>d=a/\c=(Y,())) (Q:=λc d=>d=a/\c=(Y,())) ?_ (λ_ _ p=>p) ⟨O,O⟩) ?_)
  ·rintro x c d _ _ ⟨rfl,rfl⟩;refine wpS_bind (wpS_get ?_);rw[ak (by rw[D.2.2.1];exact nR1 1)];exact wpS_pure ⟨O,O⟩
  ·rintro c d ⟨rfl,rfl⟩;exact wpS_pure (h _ D.1 D.2.1 D.2.2.2)
theorem Fj(C:xh prog w A s κ ws (pairsOf vs)){xs:Array Keyed}(p:xs.Perm (pairsOf vs))(u:Up ws xs (pairsOf vs).size):xs.map (·.2)=ws.toArray:=by
 have l:ws.length=(pairsOf vs).size:=by rw[<- C.keys.length_eq,lM1];simp
 have a:∀i,i<(pairsOf vs).size->i<=kR ws xs i:=by
  intro i
  induction i with
  |zero=>intro _;lia
  |succ i ih=>intro h;have:=ih (by lia);have:=u i (i+1) (by lia) h;lia
 have b:∀d i,i+d+1=(pairsOf vs).size->kR ws xs i<=i:=by
  intro d
  induction d with
  |zero=>
   intro i h;obtain⟨x,q,_,f⟩:=C.at_ p (i:=i) (by lia);have:=(gE1.mp f).1;lia
  |succ d ih=>
   intro i h;have:=ih (i+1) (by lia);have:=u i (i+1) (by lia) (by lia);lia
 apply Array.ext
 ·rw[cf,p.size_eq,<- l];simp
 ·intro i h1 h2;rw[cf,p.size_eq]at h1;have m:kR ws xs i=i:=Nat.le_antisymm (b ((pairsOf vs).size-1-i) i (by lia)) (a i h1);obtain⟨x,q,e,f⟩:=C.at_ p h1;rw[m]at f;have g:(x,q)∈(pairsOf vs).toList:=(cb.mp p).mem_iff.mp (Array.mem_toList_iff.mpr (Array.mem_of_getElem? e));rw[pairsOf_toList]at g;have k:x=q:=(mem_zip_self g).1;have j:(xs.map (·.2))[i]?=Z q:=by rw[Array.getElem?_map,e];rfl
  have c:ws.toArray[i]?=Z x:=by rw[List.getElem?_toArray];exact f
  rw[aG1 (by rw[cf,p.size_eq];exact h1)]at j;rw[aG1 h2]at c;rw[Option.some.inj j,Option.some.inj c,k]
end
section
variable{prog:db}{w:df}{A:de}{E:c8->c9->Prop}{s:c9}
theorem rq(f:Bool)(x y:c8):keyLt' (tuples' f) x y=(do
  let xs<-Builtin.List.listItems x
  let ys<-Builtin.List.listItems y
  for ((p,q),i) in (xs.toList.zip ys.toList).zipIdx do
   if !(<- eqBool p q)then return<-oneLt' (f&&i == 0) p q
  return decide (xs.size<ys.size)):=rfl
theorem rl{aq:Model}{α β:Type}{f:α->Sem β}{P:α->β->Prop}:∀ {l:List α} {Q:List β->c9->Prop},(∀ v∈l,∃ r,P v r /\ ∀ Q:β->c9->Prop,Q r s->dj aq A (f v) Q E s) ->
  (∀rs,rs.length=l.length->(∀r∈rs,∃v∈l,P v r)->Q rs s)->dj aq A (l.mapM f) Q E s
 |[],Q,_,q=>by rw[List.mapM_nil];exact wP1 (q [] rfl λr a=>by cases a)
 |v::l,Q,h,q=>by
  rw[List.mapM_cons];obtain⟨r,p,a⟩:=h v mS1;refine wB1 (a _ ?_);refine wB1 (rl (λv e=>h v (mC1 _ e)) λrs c d=>?_);refine wP1 (q (r::rs) (by rw[lC1,lC1,c]) λx b=>?_);rcases aE.mp b with z|z
  ·exact⟨v,mS1,by rw[z];exact p⟩
  ·obtain⟨g,h1,h2⟩:=d x z;exact⟨g,mC1 _ h1,h2⟩
theorem A6(v:c8):firstOfTuple' v=(do
  if(<- typeOf v) != .type "tuple" then return Y
  return (<- Builtin.List.listItems v)[0]?):=rfl
theorem Cf {a:da}{vs ws:List c8}{n:Nat}{κ:SortKind}{P:Fin->c9->Prop}(ho:s.heap.get? a=some (seqObj "list" vs.toArray n))(k:vs.length<64)(hp:vs.Perm ws)
  (t:∀h',(∀b o,b≠a->s.heap.get? b=Z o->h'.get? b=Z o)->2<=vs.length->xh prog w A {s with heap:=h'} κ ws (pairsOf vs) /\ ∀Q:SortKind->c9->Prop,Q κ {s with heap:=h'}->dj (model prog w) A (keyKind' vs.toArray) Q E {s with heap:=h'})
  (h:P (.done (.ret .none)) {s with heap:=sortedHeap s.heap a vs ws.toArray}):dj (model prog w) A (Builtin.«list.sort» ⟨[.ref a],[]⟩) P E s:=by
 rw[list_sort_plain];have u:a<s.heap.objs.size:=hL1 ho;refine wB1 (listItems_at ho O ?_);refine wB1 (listUpdate_at ho O ?_);obtain⟨j,f⟩:∃j,(s.heap.update a (Obj.mapSeq λ_=> #[])).get? a=some (seqObj "list" #[] j):=⟨_,get?_update_seq ho (λ_=> #[])⟩;refine wB1 (seqEpoch_at f O (wB1 (wpAny_newTuple (wB1 (wpAny_newList (wpAny_holding ?_))))));have keep:∀b o,b≠a->s.heap.get? b=Z o->(((s.heap.update a (Obj.mapSeq λ_=> #[])).push (seqObj "tuple" vs.toArray 0)).push (seqObj "list" #[] 0)).get? b=Z o:=λb o r e=>
  hP1 _ (hP1 _ (by rw[hU1 _ _ _ _ r];exact e))
 have d:(((s.heap.update a (Obj.mapSeq λ_=> #[])).push (seqObj "tuple" vs.toArray 0)).push (seqObj "list" #[] 0)).get? a=Z (seqObj "list" #[] j):=hP1 _ (hP1 _ f);show dj (model prog w) A _ P E {s with heap:=((s.heap.update a (Obj.mapSeq λ_=> #[])).push (seqObj "tuple" vs.toArray 0)).push (seqObj "list" #[] 0)};dsimp only;have q:vs.toArray.size=vs.length:=by simp
 have i:=hp.length_eq;have g:∀xs:Array Keyed,xs.map (·.2)=ws.toArray->P (.done (.ret .none)) {s with heap:=sortedHeap s.heap a vs (xs.map (·.2))}:=λxs e=>by rw[e];exact h
 by_cases h2:vs.toArray.size<2
 ·rw [if_pos h2,if_pos h2];refine wB1 (wP1 ?_);rw [StateT.run_pure];refine wB1 (wP1 (wB1 (seqEpoch_at d rfl ?_)));have e:((vs.toArray.zip vs.toArray).map (·.2):Array c8)=ws.toArray:=by
   have:vs=ws:=by
    match vs,ws,hp,h2 with
    |[],ws,hp,_=>exact(List.nil_perm.mp hp).symm
    |[x],ws,hp,_=>exact(List.singleton_perm.mp hp).symm ▸ rfl
    |_::_::_,_,_,h2=>simp at h2;lia
   subst this;apply Array.ext';simp;exact List.map_snd_zip (nR1 _)
  refine wB1 (listUpdate_at d O ?_ (hsz2:=by
   show(Array.map (·.2) (vs.toArray.zip vs.toArray)).size<=_;rw[e,sT1,<- i,sizeLine_eq];lia))
  simp only[bne_self_eq_false,bF1,if_false];exact wP1 (g _ e)
 ·rw [if_neg h2,if_neg h2];obtain ⟨C,K⟩:=t _ keep (by lia);refine wB1 (K _ ?_);refine wB1 (wpAny_mono (Fm C (st:=SortSt.mk' κ (vs.toArray.zip vs.toArray) #[] 7 none)
   (Q:=λ_ c=>(arrOf c).Perm (pairsOf vs)/\failedOf c=Y/\Up ws (arrOf c) (pairsOf vs).size) ⟨Array.Perm.refl _,O,O,O⟩ (by rw[pairsOf_size];lia) (by rw[pairsOf_size];exact k) λc a1 a2 a3=>⟨a1,a2,a3⟩) ?_ λ_ _ e=>e)
  rintro⟨⟨⟩,c⟩ s' ⟨rfl,m,l,p⟩;have e:=Fj C m p;refine wB1 (seqEpoch_at d O ?_);refine wB1 (listUpdate_at d O ?_ (hsz2:=by
   show(Array.map (·.2) (arrOf c)).size<=_;rw[e,sT1,<- i,sizeLine_eq];lia))
  rw[l];simp only[bne_self_eq_false,bF1,if_false];exact wP1 (g _ e)
end
section
variable{prog:db}{w:df}{A:de}{E:c8->c9->Prop}{R:Result->c9->Prop}
end
section
variable{prog:db}{w:df}{A:de}{E:c8->c9->Prop}{s:c9}
end
section
variable{X:Cx}
end
section
variable{prog:db}{w:df}{A:de}{E:c8->c9->Prop}{s:c9}
end
section
variable{prog:db}{w:df}{A:de}{E:c8->c9->Prop}{R:Result->c9->Prop}
end
section
variable{X:Cx}
theorem KT.keys{K:Fg1}{H:Hp}{mu:List da}:∀{ks:List (TK×D)} {ws:List (TK×da×c8)},KT K H mu ks ws->dJ K H mu (ks.map λp=>oV p.1) (ws.map λx=>V.ref x.2.1)
 |_,_,.nil=>.nil
 |_,_,.cons ⟨z,d,k,_⟩ t=>.cons k (KT.keys t)
end
section
variable{X:Cx}{ag:List (da×Obj)}{σ:L2.St}{H:Hp}{s:c9}{a:da}{u v:HO}
end
section
variable{K:Fg1}{H H':Hp}{mu mu':List da}{S:Sto}{n:Nat}{a:da}{o:Obj}{u:HO}
end
theorem vE.lt{xs:Array Nat}(h:vE xs){a b u v:Nat}(d:a<b)(c:xs[a]?=Z u)(eb:xs[b]?=Z v):u<v:=by
 rw[<- aT1]at c eb;obtain⟨e,c⟩:=gE1.mp c;obtain⟨f,eb⟩:=gE1.mp eb;have:=List.pairwise_iff_getElem.mp h a b e f d;rw[c,eb]at this;exact this
structure Bs (xs:Array Nat)(j i:Nat):Prop where
 le:i<=xs.size
 lo:∀k v,xs[k]?=some v->k<i->v<j
 hi:∀k v,xs[k]?=some v->i<=k->j<=v
theorem Bu{xs:Array Nat}{j:Nat}(hr:vE xs):∀n lo hi:Nat,lo<=hi->hi<=xs.size->hi-lo<=n->(∀k v,xs[k]?=Z v->k<lo->v<j)->(∀k v,xs[k]?=Z v->hi<=k->j<=v)->Bs xs j (SetTable.below.go xs j n lo hi)
 |0,lo,hi,h1,h2,h,b,c=>by
  have:lo=hi:=by lia
  subst this;exact⟨h2,b,c⟩
 |n + 1,lo,hi,h1,h2,h,b,c=>by
  rw[SetTable.below.go];by_cases d:lo<hi
  ·rw[ak d];have f:(lo+hi)/2<xs.size:=by lia
   have a:=aG1 f;have i:xs.getD ((lo+hi)/2) j=xs[(lo+hi)/2]:=by simp[Array.getD,f]
   dsimp only;rw[i];by_cases hc:xs[(lo+hi)/2]<j
   ·rw[ak hc];refine Bu hr n _ _ (by lia) h2 (by lia) (λk v e g=>?_) c;rcases bT k ((lo+hi)/2)with z|z
    ·have:=hr.lt z e a;lia
    ·have:k=(lo+hi)/2:=by lia
     subst this;rw[a]at e;cases e;exact hc
   ·rw[aj hc];refine Bu hr n _ _ (by lia) (by lia) (by lia) b λk v e g=>?_;rcases bT ((lo+hi)/2) k with z|z
    ·have:=hr.lt z a e;lia
    ·have:k=(lo+hi)/2:=by lia
     subst this;rw[a]at e;cases e;lia
  ·rw[aj d];have:lo=hi:=by lia
   subst this;exact⟨h2,b,c⟩
theorem uo{xs:Array Nat}(hr:vE xs)(j:Nat):Bs xs j (SetTable.below xs j):=
 Bu hr _ 0 _ (bh _) (nR1 _) (by lia) (λ_ _ _ h=>absurd h (bv _)) λk v e h=>by
  have:=(Array.getElem?_eq_some_iff.mp e).1;lia
theorem jH{α:Type}(xs:Array α)(p:Nat)(x:α):(SetTable.insertAt xs p x).toList=xs.toList.take p++x::xs.toList.drop p:=by
 unfold SetTable.insertAt;rw[Array.toList_append,Array.toList_push,Array.toList_extract,Array.toList_extract];simp[List.extract_eq_drop_take];rw[b8 (by simp)]
theorem Cq{xs:Array Nat}(hr:vE xs){j:Nat}(hn:xs[SetTable.below xs j]? ≠ Z j):vE (SetTable.insertAt xs (SetTable.below xs j) j):=by
 have b:=uo hr j;unfold vE;rw[jH,List.pairwise_append,ca];have lo:∀v∈xs.toList.take (SetTable.below xs j),v<j:=λv g=>by
  obtain⟨k,d⟩:=bq g;rw[List.getElem?_take]at d;split at d
  ·rename_i f;exact b.lo k v (by rw[<- aT1];exact d) f
  ·cases d
 have hi:∀v∈xs.toList.drop (SetTable.below xs j),j<v:=λv g=>by
  obtain⟨k,d⟩:=bq g;rw[List.getElem?_drop,aT1]at d;have h1:=b.hi _ v d (br _ _);rcases bT j v with z|z
  ·exact z
  ·exfalso;have h:v=j:=by lia
   subst h;cases k with
   |zero=>exact hn d
   |succ k=>
    have l:SetTable.below xs v<xs.size:=by have:=(Array.getElem?_eq_some_iff.mp d).1;lia
    have e:=aG1 l;have:=b.hi _ _ e (nR1 _);have:=hr.lt (by lia) e d;lia
 refine⟨hr.sublist (List.take_sublist _ _),⟨hi,hr.sublist (List.drop_sublist _ _)⟩,λa i c hc=>?_⟩;rcases aE.mp hc with z|z
 ·rw[z];exact lo a i
 ·exact bg (lo a i) (hi c z)
structure TS (l:Bool)(t:SetTable):Prop where
 up:vE t.place
 du:t.dummies = #[]
 ld:t.led=l
theorem tE{t:SetTable}(hd:t.dummies = #[])(j:Nat):SetTable.has t.dummies j=J:=by rw[hd];rfl
theorem rR{α:Type}(f:Nat->Option α):∀l:List Nat,((l.filterMap λj=>(f j).map (j,·)).map (·.1)).Sublist l
 |[]=>.slnil
 |a::l=>by
  rw[aD];cases f a with
  |none=>exact(rR f l).cons a
  |some x=>exact(rR f l).cons₂ a
def Mu(e:Int×c8):Int:=match e.2 with
 | .int k _=>k
 |_=>0
structure Kd (es:Array (Int×c8))(ns:List Int):Prop where
 el:∀e∈es.toList,∃k t,e=(hashInt k,Value.int k t)
 pm:(es.toList.map Mu).Perm ns
theorem Kd.size{es:Array (Int×c8)}{ns:List Int}(h:Kd es ns):es.size=ns.length:=by
 have:=h.pm.length_eq;rw[lM1,aI]at this;exact this
theorem Kd.perm{es fs:Array (Int×c8)}{ns:List Int}(h:Kd es ns)(p:fs.toList.Perm es.toList):Kd fs ns:=
 ⟨λe a=>h.el e (p.mem_iff.mp a),(p.map _).trans h.pm⟩
section
variable{P:db}{w:df}{A:de}{E:c8->c9->Prop}{s:c9}{b:Bool}{p:da}{ns:List Int}
theorem zG{es fs:Array (Int×c8)}{ep:Nat}{t u:SetTable}{h:dk}(e:h.get? p=Z (stO es ep t)):(h.update p (Obj.putSet fs u)).get? p=Z (stO fs (ep+1) u):=by
 have:=hW1 (Obj.putSet fs u) e (by rw[putSet_of fs u O];rfl);rw[putSet_of fs u O]at this;exact this
end
section
variable{P:db}{w:df}{A:de}{E:c8->c9->Prop}{s:c9}
def jL(w:df):Bool:=w.params.followText "set-order"
theorem wu(x:c8){G:c8->c9->Prop}(q:G (.ref s.heap.objs.size) {s with heap:=s.heap.push (stO #[] 0 (.fresh 0 0 (!jL w)))}):
  codeAny (model P w) A (.call (.builtin "set.__new__") ⟨[.type "set",x],[]⟩) (wants G E) s:=by
 refine codeAny_of_tree (?_:dj _ A.in1 (do checkBuiltinCall "set.__new__" ⟨[.type "set",x],[]⟩;again (.builtin "set.__new__" ⟨[.type "set",x],[]⟩)) _ _ s);refine wB1 (wpAny_of_eq (PySem.F.newCall_set_1 x) (wP1 ⟨plainId_quiet PySem.F.plain_set_new _,wD1 PySem.F.entry_set_new (?_:_)⟩));rw[Around.under_plainId PySem.F.plain_set_new _];unfold Builtin.«set.__new__» Builtin.Frozenset.newClass;have a:=sub_set_self;obtain⟨c,g,d,tk,b⟩:=s;dsimp only
 wp_walk
 refine wpAny_askSetting (wP1 (?_:_));dsimp only;simp only[newObj];exact wB1 (wpAny_alloc (wP1 (wP1 q)))
set_option maxHeartbeats 3200000 in
theorem vq {l:da}{its:Array c8}{Q:c8->c9->Prop}(y:s.heap.IsList l its)
  (g:∀d:de,d.handled=A.handled->d.units<=A.units+2 -> ∀R:Result->c9->Prop,(∀s',Q (.ref s.heap.objs.size) s'->R (.ok (.ret .none)) s') ->
   codeAny (model P w) d (.builtin "set.update.loop" ⟨[.ref s.heap.objs.size,.ref (s.heap.objs.size+1)],[]⟩) R {s with heap:=(s.heap.push (stO #[] 0 (.fresh 0 0 (!jL w)))).push {cls:=.type "list_iterator",data:=.fields #[.ref l,.int 0 0]}}):
  dj (model P w) A (call (.type "set") [.ref l]) Q E s:=by
 obtain⟨V,aq,m⟩:=PySem.F.called_set.mro;have f:=PySem.F.called_set.made;have t:=PySem.F.called_set.sub
 refine wpAny_call (codeAny_of_tree (?_:dj _ _ (callAny (.type "set") _) _ _ _));refine wP1 ⟨Code.quiet_builtin _ (by decide+kernel),wD1 PySem.F.entry_type_call (?_:_)⟩;rw[Around.under_plain (weight_type_call_type "set" [.ref l] []) O];have X:=PySem.F.called_set.notType;have au:=PySem.F.called_set.canCreate;have T:=PySem.F.typeCall_set_1 (.ref l)
 repeat(any_goals (first|wp_step|assumption))
 refine codeAny_mono (wu (.ref l) (E:=E) (G:=λx o=>x = .ref s.heap.objs.size/\o={s with heap:=s.heap.push (stO #[] 0 (.fresh 0 0 (!jL w)))}) ⟨O,O⟩) λr o j=>?_;cases r with
 |error e=>exact j
 |ok F=>
  cases F with
  |ret x=>
   obtain⟨rfl,rfl⟩:=j;have k:(s.heap.push (stO #[] 0 (.fresh 0 0 (!jL w)))).get? s.heap.objs.size=Z (stO #[] 0 (.fresh 0 0 (!jL w))):=hS1 _ O;have H:Shared.TypeIs {s with heap:=s.heap.push (stO #[] 0 (.fresh 0 0 (!jL w)))} (.ref s.heap.objs.size) "set":=⟨_,k,O⟩;have L:=PySem.F.called_set.init.lookup;have ao:=PySem.F.called_set.init.bind (.ref s.heap.objs.size)
   repeat(any_goals (first|wp_step|assumption))
   refine codeAny_mono (codeAny_call_builtin (R:=wants (λr n=>r = .none/\Q (.ref s.heap.objs.size) n) E) PySem.F.called_set.init.plain PySem.F.entry_set_init (check_set_init_1 H (?_:_))) λr2 n a=>?_
   ·obtain⟨u,i,b,p,c⟩:=y;obtain⟨S,I,K,v⟩:=u;simp only at b c;subst b;subst c;have z:(s.heap.push (stO #[] 0 (.fresh 0 0 (!jL w)))).get? l=Z {cls:=.type "list",dict:=I,data:=.seq its p,slots:=v}:=hP1 _ i;have N:=PySem.F.sub_list_set;have W:=PySem.F.sub_list_frozenset;have U:(Value.type "list" == Value.type "dict")=J:=by decide
    have C:(s.heap.push (stO #[] 0 (.fresh 0 0 (!jL w)))).IsList l its:=⟨_,z,O,p,O⟩;have D:(s.heap.push (stO #[] 0 (.fresh 0 0 (!jL w)))).get? s.heap.objs.size=Z {cls:=.type "set",dict:=Y,data:=.set #[] 0 (.fresh 0 0 (!jL w)),slots:= #[]}:=k;unfold Builtin.«set.__init__» noKeywords Builtin.Frozenset.updateFrom;generalize h:pyIter=PI
    wp_walk
    subst h;refine wpAny_pyIter_list C (wB1 (wpAny_runValue (?_:_)));dsimp only;rw[show(s.heap.push (stO #[] 0 (.fresh 0 0 (!jL w)))).objs.size=s.heap.objs.size+1 from by rw[hZ1]];refine g A.in1.in1 (by simp) (nR1 _) _ λs' q=>?_;exact wP1 (wP1 ⟨O,q⟩)
   ·cases r2 with
    |error e=>exact a
    |ok B=>
     cases B with
     |ret r=>
      obtain⟨rfl,q⟩:=a
      repeat(any_goals (first|wp_step|assumption))
     |_=>exact a.elim
  |_=>exact j.elim
end
section
variable{P:db}{w:df}{A:de}{E:c8->c9->Prop}{b:Bool}
end
def Fn(t:SetTable)(i:Nat):Nat:=match i with
 |0=>0
 |i+1=>t.place.getD i 0+1
inductive BU (w:df)(h:dk)(a:da)(es:Array (Int×c8))(ep:Nat)(t:SetTable):c8->Nat->List c8->Prop
 |txt (b:jL w=true) (i:Nat) (sl:Nat):BU w h a es ep t (.int sl 0) i ((pickOrder (w.params.setOrder a ep) es).toList.map (·.2))
 |drw (b:jL w=false) (d:(!t.plain&&decide (es.size>1))=true) (i:Nat) (tp:da) (ps:List Nat) (e:h.get? tp=some {cls:=.type "tuple",data:=.seq (ps.map λj=>Value.int (j:Nat) 0).toArray}) (pm:ps.Perm (af es.size)):BU w h a es ep t (.ref tp) i (ps.map λj=>(es[j]?.map (·.2)).getD .none)
 |plc (b:jL w=false) (d:(!t.plain&&decide (es.size>1))=false) (ld:t.led=true) (up:vE t.place) (i:Nat):BU w h a es ep t (.int (Fn t i) 0) i (es.toList.map (·.2))
theorem px{α:Type}(f:Nat->Nat):∀(n k:Nat) (l:List α) (b:Array α),l.length=n->(pickOrder.go f n k l b).toList.Perm (b.toList++l)
 |0,k,l,b,h=>by
  rw[pickOrder.go,List.length_eq_zero_iff.mp h,aM]
 |n+1,k,l,b,h=>by
  have c:f k%l.length<l.length:=Nat.mod_lt _ (by lia);rw[pickOrder.go,gG1 c];refine(px f n (k+1) _ _ (by rw[List.length_eraseIdx_of_lt c];lia)).trans ?_;rw[Array.toList_push,bF];refine List.Perm.append_left _ ?_;have d:l=l.take (f k%l.length)++l[f k%l.length]::l.drop (f k%l.length+1):=by rw[List.getElem_cons_drop,cg]
  rw[ci];refine List.Perm.trans ?_ (List.Perm.of_eq d.symm);exact(List.perm_middle (l₁:=l.take (f k%l.length)) (l₂:=l.drop (f k%l.length+1)) (a:=l[f k%l.length])).symm
theorem BU.perm{w:df}{h:dk}{a:da}{es:Array (Int×c8)}{ep:Nat}{t:SetTable}{f:c8}{i:Nat}{pl:List c8}(y:BU w h a es ep t f i pl):pl.Perm (es.toList.map (·.2)):=by
 cases y with
 |txt=>exact(px _ _ _ _ _ O).map _
 |drw _ _ _ d ps e c=>
  refine(c.map _).trans ?_;have:(af es.size).map (λj=>(es[j]?.map (·.2)).getD .none)=es.toList.map (·.2):=by
   apply bX;intro j;rw[gP1,gP1,aT1 (xs:=es)];by_cases b:j<es.size
   ·rw[cj b,oP1,aG1 b];rfl
   ·rw[bY (by simpa using b),Array.getElem?_eq_none (by lia)];rfl
  rw[this]
 |plc=>exact .refl _
theorem BU.len{w:df}{h:dk}{a:da}{es:Array (Int×c8)}{ep:Nat}{t:SetTable}{f:c8}{i:Nat}{pl:List c8}(y:BU w h a es ep t f i pl):pl.length=es.size:=by
 rw[y.perm.length_eq,lM1,aI]
section
variable{P:db}{w:df}{A:de}{E:c8->c9->Prop}{s:c9}{it a:da}{f:c8}{i ep:Nat}{es:Array (Int×c8)}{t:SetTable}{pl:List c8}
end
theorem BU.keep{w:df}{h h':dk}{a:da}{es:Array (Int×c8)}{ep:Nat}{t:SetTable}{f:c8}{i:Nat}{pl:List c8}(y:BU w h a es ep t f i pl)(k:∀c o,f = .ref c->h.get? c=Z o->h'.get? c=Z o):BU w h' a es ep t f i pl:=by
 cases y with
 |txt b _ j=>exact .txt b _ j
 |drw b d _ c ps e l=>exact .drw b d _ c ps (k c _ O e) l
 |plc b d g up _=>exact .plc b d g up _
section
variable{P:db}{w:df}{A:de}{E:c8->c9->Prop}
end
section
variable{X:Cx}
end
section
variable{X:Cx}{ag:List (da×Obj)}{σ:L2.St}{H:Hp}{s:c9}{a:da}{kvs:List (Key×V)}{k:Key}{v:V}{u r:c8}{A:de}{E:c8->c9->Prop}
theorem Hn{Q:c8->c9->Prop}(I:Inv X ag σ H s)(e:H a=Z (.dK kvs))(l:kvs.length<di)(n:dN (kV k) u)(x:dN v r)(h1:∀z,gM kvs k=Z z -> ∀g s',Inv X ag σ H s'->dN z g->Q g s')(h2:gM kvs k=Y -> ∀s',Inv X ag σ (upd H a (.dK (iV kvs k v))) s'->Q r s'):dj (model X.prog X.w) A (call (.builtin "dict.setdefault") [.ref a,u,r]) Q E s:=by
 obtain⟨z,j,vs,b,i⟩:=wY I.hok e;refine call_meetsIn PySem.F.slot_dict_setdefault i.typeIs PySem.F.entry_dict_setdefault (PySem.F.args_dict_setdefault_3 _ _ _) (kt_meets_setdefault (fg X.prog X.w) a (pJ n) j r) ⟨vs,i,by rw[<- b.length];exact z,λy c=>?_,λm h' d w=>?_⟩
 ·cases ev:gM kvs k with
  |none=>
   have:=b.val k;rw[ev,c]at this;cases this
  |some z=>
   obtain⟨g,h,f⟩:=kK.some_of (v:=z) (o:=valueAt vs k) (by rw[<- ev];exact b.val k);rw[h]at c;cases c;exact h1 z ev _ _ (I.tok _) f
 ·cases ev:gM kvs k with
  |some z=>
   obtain⟨g,h,f⟩:=kK.some_of (v:=z) (o:=valueAt vs k) (by rw[<- ev];exact b.val k);rw[h]at m;cases m
  |none=>
   have p:(iV kvs k v).length<=di:=by have:=jC kvs k v;lia
   have t:∃q,h'.get? a=Z q:=let ⟨q,_,_,hq,_⟩:=d;⟨q,hq⟩
   exact h2 ev _ (lD I (by rw[e];exact True.intro) w t (Be p j (b.put k x) d))
end
def KJ(td ty tx:TE):TE:=fun σ H Q=>td σ H λx H1=>∃a,x = .ref a/\Lz H1 a/\ty σ H1 λy H2=>tx σ H2 λz H3=>∃kvs k,H3 a=Z (.dK kvs)/\kvs.length<di/\y=kV k /\
 (∀v,gM kvs k=Z v->Q v H3)/\(gM kvs k=Y->Q z (upd H3 a (.dK (iV kvs k z))))
section
variable{X:Cx}
theorem F6 {o e f:Expr}{apos cpos:Pos}{td ty tx:TE}(ho:PE X o td)(he:PE X e ty)(hf:PE X f tx)(m:M2 X o "setdefault" apos e f cpos):PE X (.Call (.Attribute o "setdefault" apos) [e,f] [] cpos) (KJ td ty tx):=by
 intro ag s σ H Q I h;refine wpAny_Call_method m.base m.few m.line PySem.F.plainAttrs_dict PySem.F.slot_dict_setdefault PySem.F.type_dict_setdefault (eY (ho ag s σ H _ I h) λu E ⟨x,H1,g,F,a,ex,d,t⟩=>?_);subst ex;obtain rfl:u=Value.ref a:=F;obtain⟨G,j,_⟩:=Ha g d;refine⟨G,j,?_⟩;rw[m.trees];refine Calls.callWith_builtin O (Calls.evalArgs_plain (Calls.spliced_cons (eY (he ag E σ H1 _ g t) λK A ⟨y,H2,D,C,r⟩=>
  Calls.spliced_cons (eY (hf ag A σ H2 _ D r) λL aq ⟨z,B,w,c,kvs,k,n,el,q,ao,p⟩=>Calls.spliced_nil ?_))))
 subst q;exact Hn w n el C c (λv l N s' b i=>⟨v,B,b,i,ao v l⟩) λl s' b=>⟨z,_,b,c,p l⟩
def n8(m a b:FE):FE:=λr S=>(m r S).bind λp=>match p.1 with
 | .ref n=>match p.2[n]? with
  |some (.dct _)=>(a r p.2).bind λq=>(b r q.2).bind λt=>match t.2[n]? with
   |some (.dct kvs)=>(rv q.1).bind λk=>if kvs.length<di then Z (match dM kvs k with|some z=>(z,t.2)|none=>(t.1,t.2.set n (.dct (g6 kvs k t.1))))else none
   |_=>Y
  |_=>Y
 |_=>Y
theorem B0 {o e f:Expr} {apos cpos:Pos} {m a b:FE} (ho:XE X o m) (he:XE X e a) (hf:XE X f b) (hm:M2 X o "setdefault" apos e f cpos:=by exact⟨O,O,O,O⟩):XE X (.Call (.Attribute o "setdefault" apos) [e,f] [] cpos) (n8 m a b):=
 ⟨ez (F6 ho.h he.h hf.h hm) <| by
  rintro σ H Q ⟨r,mu,S,d,S',he,N,hm,hc⟩;obtain⟨⟨au,y⟩,E,hm⟩:=oB1.mp hm;refine⟨r,mu,S,au,y,he,N,E,λv1 H1 mu1 j T D=>?_⟩;dsimp only at hm;split at hm
  ·rename_i n;split at hm
   ·rename_i W s;cases T with
    | @ref _ ao A=>
     refine⟨ao,O,G9 D A s,?_⟩;obtain⟨⟨aq,C⟩,ar,hm⟩:=oB1.mp hm;obtain⟨⟨V,F⟩,I,hm⟩:=oB1.mp hm;refine⟨r,mu1,y,aq,C,he.ext j,D,ar,λwq H2 p x2 r2 R=>?_⟩;refine⟨r,p,C,V,F,(he.ext j).ext x2,R,I,λP q g i x u=>?_⟩;dsimp only at hm;split at hm
     ·rename_i kvs U;obtain⟨k,K,hm⟩:=oB1.mp hm;split at hm
      ·rename_i L;have hm:=Option.some.inj hm;have h:=i.at (x2.at A);obtain⟨ws,t,w⟩:=u.dct U h;have lk:=w.look (k:=k);refine⟨ws,k,t,by rw[<- w.length];exact L,lw (r2.ext i) K,λv l=>?_,λl=>?_⟩
       ·cases e:dM kvs k with
        |none=>have:=lk.2;rw[e]at this;simp[l]at this
        |some z=>
         rw[e]at hm;cases hm;obtain⟨G,c,B⟩:=lk.1 _ e;rw[l]at c;cases c;exact hc _ q g ((j.trans x2).trans i) B u
       ·cases e:dM kvs k with
        |some z=>
         obtain⟨G,c,B⟩:=lk.1 _ e;rw[l]at c;cases c
        |none=>
         rw[e]at hm;cases hm;have put:Ext g g q (upd q _ (.dK (iV ws k P))):=Ext.put t trivial (gM1 h);exact hc _ _ g (((j.trans x2).trans i).trans put) (x.ext put) (u.put h t trivial ⟨_,dX,(w.put x).ext put⟩)
      ·cases hm
     ·cases hm
   ·cases hm
  ·cases hm⟩
end
open AutoSeq1 (wpAny_loadPart')
section
variable{prog:db}{w:df}{A:de}{E:c8->c9->Prop}{s:c9}
theorem ue{Q:List c8->c9->Prop}{r:da}{a b c:Int}{t u v:Tok}{n:Nat}(C:A.handled=none)(hr:IsRange s.heap r a b c t u v)(hsmall:Builtin.Range.small a b c=true)(hn:Builtin.Range.rangeSize a b c=n)(m:n<=2^24)(G:∀h' tk d,(∀b o',s.heap.get? b=some o'->h'.get? b=some o')->ItemsOf (fun i v=>∃t,v = .int (a+i*c) t) d n->Q d.toList {s with heap:=h',toks:=tk}):
  dj (model prog w) A (collect (.ref r)) Q E s:=by
 unfold collect;refine wB1 (wpAny_runValue (wD1 F.entry_proto_collect (?_:_)));rw [Around.under_plainId F.plain_proto_collect _];show dj _ A.in1 (newList [] >>= fun l=>again (.builtin "list.__iadd__" ⟨[l,.ref r],[]⟩)) _ _ s;refine wB1 (wO1 (?_:_));refine wP1 ⟨plainId_quiet F.plain_list_iadd _,wD1 F.entry_list_iadd (?_:_)⟩;rw [Around.under_plainId F.plain_list_iadd _];show dj _ A.in1 (Builtin.List.listExtendWith (.ref s.heap.objs.size) (.ref r) (.ref s.heap.objs.size)) _ _ _;have B:(s.heap.push {cls:=.type "list",data:=.seq ([]:List c8).toArray}).get? s.heap.objs.size=some {cls:=.type "list",data:=.seq #[] 0}:=hS1 _ rfl;have j:∀ h' tk d g,(∀ b o',s.heap.get? b=some o'->h'.get? b=some o')->h'.get? s.heap.objs.size=some {cls:=.type "list",dict:=none,data:=.seq d g,slots:= #[]}->ItemsOf (fun i v=>∃ t,v = .int (a+i*c) t) d n ->
   dj (model prog w) A (match Value.ref s.heap.objs.size with
   |Value.ref a=>do
    match (<- load a).data with
     |Data.seq xs _=>pure xs.toList
     |_=>unsupported "internal:collect"
   |_=>unsupported "internal:collect") Q E {s with heap:=h',toks:=tk}:=by
  intro h' tk d g x k p;show dj _ A (load s.heap.objs.size >>= _) _ _ _;refine wB1 (wpAny_load k (?_:_));refine wP1 (?_:_);exact G h' tk d x p
 refine wpAny_mono (wpAny_extend_range (A:=A) (R:=λz s'=>∃h' tk d g,z = .ok (.ret (.ref s.heap.objs.size))/\s'={s with heap:=h',toks:=tk}/\(∀b o',s.heap.get? b=Z o'->h'.get? b=Z o')/\h'.get? s.heap.objs.size=Z {cls:=.type "list",dict:=Y,data:=.seq d g,slots:= #[]}/\ItemsOf (λi v=>∃t,v = .int (a+i*c) t) d n)
  (s:={s with heap:=s.heap.push {cls:=.type "list",data:=.seq ([]:List c8).toArray}}) C (hP1 _ hr) hsmall hn m _ _ 0 B λh' tk d g x k p=>
   ⟨h',tk,d,g,O,O,λb o e=>x b o (nN1 (hL1 e)) (hP1 _ e),k,p⟩) (λy s' h=>?_) (λe s' h=>?_)
 ·cases y with
  |done f=>
   obtain⟨h',tk,d,g,e,rfl,q⟩:=h;cases e;exact j h' tk d g q.1 q.2.1 q.2.2
  |again g=>exact⟨h.1,codeAny_mono h.2 λr D hr=>by obtain⟨h',tk,d,g,rfl,rfl,q⟩:=hr;exact j h' tk d g q.1 q.2.1 q.2.2⟩
 ·obtain⟨_,_,_,_,e,_⟩:=h;cases e
end
theorem u6(r:da)(a b c:Int)(t u v:Tok)(n:Nat)(hsmall:Builtin.Range.small a b c=true)(hn:Builtin.Range.rangeSize a b c=n)(f:n<=2^20):
  Meets (Builtin.«tuple.__new__» ⟨[.type "tuple",.ref r],[]⟩)
   (λA R s=>A.handled=Y/\IsRange s.heap r a b c t u v /\ ∀(h':dk) (tk:Nat) (acc:Array c8),(∀b o',s.heap.get? b=Z o'->h'.get? b=Z o')->ItemsOf (λi v=>∃t,v = .int (a+i*c) t) acc n ->
    R (.ok (.ret (.ref h'.objs.size))) {s with heap:=h'.push {cls:=.type "tuple",data:=.seq acc},toks:=tk}):=
 .of_wp λprog w A R s h=>by
  obtain⟨B,g,d,m,x⟩:=s;obtain⟨y,k,h⟩:=h;have p:=sub_tuple_self;have l:=init_tuple_lookup;have q:=madeHere_tuple;have D:Shared.TypeIs ⟨B,g,d,m,x⟩ (.ref r) "range":=⟨_,k,O⟩;have j:A.in1.handled=Y:=y
  wp_walk using wpAny_loadPart' k,wpAny_typeOf D,ue j k hsmall hn (aC f (by decide))
  intro h' tk acc C o;show dj _ _ (Builtin.Tuple.tupleExact acc.toList.toArray >>= λv=>ret v) _ _ _;unfold Builtin.Tuple.tupleExact;have z:n<=di:=aC f (by decide);refine wB1 (wO1 (?_:_) (show acc.toList.toArray.size<=di by simp only[ck];rw[o.1];exact z));refine wP1 ⟨_,O,(?_:_)⟩;have e:acc.toList.toArray=acc:=by simp
  rw[e];exact h h' tk acc C o
section
variable{X:Cx}
theorem Ht(hc:X.calm=M):eA X (.type "tuple") (λxs H Q=>∃p i j,xs=[.ref p]/\H p=Z (.rng i j)/\(-(2^62)<=i/\i<2^62 /\ -(2^62)<=j/\j<2^62)/\(j-i).toNat<=2^20 /\ ∀l,H l=Y->Q (.ref l) (upd H l (.tup (j4 i (j-i).toNat)))):=by
 intro ag s σ H xs K Q I r h;obtain⟨p,i,j,rfl,D,⟨h1,h2,G,z⟩,m,q⟩:=h;obtain⟨u,rfl,y⟩:=hC r;cases y;obtain⟨t,u,v,e⟩:=I.hok p _ D;have A:(((j-i).toNat:Nat):Int)=Builtin.Range.rangeSize i j 1:=by rw[rangeSize_one];split<;>lia
 refine callType_new F.called_tuple (by decide) (F.typeCall_tuple_1 _) (F.newCall_tuple_1 _) (λf=>F.args_object_init_2 f _) F.entry_tuple_new
  (u6 p i j 1 t u v (j-i).toNat (small_one h1 h2 G z) A.symm m) ⟨I.ok.hd hc,e,λh' tk a E hi=>⟨⟨_,hS1 _ O,O⟩,(?_:_)⟩⟩
 obtain⟨g,d⟩:=hi;have c:dY (j4 i (j-i).toNat) a.toList:=qm (by rw[jv];simpa using g.symm) λk x u w C=>by
  rw[nR _ _ _ _ w];obtain⟨B,rfl⟩:=d k u (by simpa using C);exact⟨B,by rw[Int.mul_one]⟩
 have n:Inv X ag σ H {s with heap:=h',toks:=tk}:=I.kept (t':=tk) E;have ao:Inv X ag σ (upd H h'.objs.size (.tup (j4 i (j-i).toNat))) {s with heap:=h'.push {cls:=.type "tuple",data:=.seq a},toks:=tk}:=
  n.laid (t':=tk) (λb o e=>hP1 _ e) (nR1 _) (show eI X.prog X.w _ _ _ (.tup _)from⟨by rw[jv];exact aC m (by decide),a.toList,c,by simpa using IsTup.new _ _⟩)
 exact⟨.ref h'.objs.size,_,ao,O,q _ (n.hok.fresh (nR1 _))⟩
def Az(m:FA):FE:=λr S=>(m r S).bind λp=>match p.1 with
 |[.int j]=>if my 0 j=M then Z (.tup (gH 0 j.toNat),p.2)else Y
 |_=>Y
theorem sF {a:Expr}{m:FA}{e p2 b c:Pos}(hc:X.calm=true)(hg:Gl X "range")(hm:X.mg "range"=none)(hg2:Gl X "tuple")(hm2:X.mg "tuple"=none)(ha:XA X [a] m)(hs:dh [a] X.env=[(false,eval a X.env)]:=by rfl)
  (hs2:dh [.Call (.Name "range" e) [a] [] b] X.env=[(J,eval (.Call (.Name "range" e) [a] [] b) X.env)]:=by rfl):XE X (.Call (.Name "tuple" p2) [.Call (.Name "range" e) [a] [] b] [] c) (Az m):=
 ⟨ez (jX (Ht hc) hg2 hm2 (by decide+kernel) (iX (py hg hm ha.h hs) lW hs2) (by decide) (by decide) hs2) <| by
  rintro σ H Q ⟨r,mu,S,d,x,q,hs,hm,f⟩;obtain⟨⟨ds,w⟩,n,hm⟩:=oB1.mp hm;dsimp only at hm;split at hm
  ·rename_i j;split at hm
   ·rename_i i;cases hm;refine⟨r,mu,S,_,_,q,hs,n,λvs H1 mu1 k t o=>?_⟩;obtain⟨v,rfl,s⟩:=la t;cases s;refine⟨j,O,λp h=>⟨p,0,j,O,dX,(k8 i).1,(k8 i).2,λl g=>?_⟩⟩;have x2:=(k.trans (Ext.fresh (u:=.rng 0 j) h)).trans (Ext.fresh (u:=.tup (j4 0 (j-0).toNat)) g);exact f _ _ mu1 x2 (.tup (jP.of dX) (by rw[Int.sub_zero];exact nQ _ _)) ((o.fresh h).fresh g)
   ·cases hm
  ·cases hm⟩
end
section
variable{P:db}{w:df}{A:de}{E:c8->c9->Prop}{s:c9}
set_option maxHeartbeats 3200000 in
theorem yo {l:da}{its:Array c8}{Q:c8->c9->Prop}(y:s.heap.IsTuple l its)
  (f:∀m:de,m.handled=A.handled -> ∀R:Result->c9->Prop,(∀s',Q (.ref s.heap.objs.size) s'->R (.ok (.ret .none)) s') ->
   codeAny (model P w) m (.builtin "set.update.loop" ⟨[.ref s.heap.objs.size,.ref (s.heap.objs.size+1)],[]⟩) R {s with heap:=(s.heap.push (stO #[] 0 (.fresh 0 0 (!jL w)))).push {cls:=.type "tuple_iterator",data:=.fields #[.ref l,.int 0 0]}}):
  dj (model P w) A (call (.type "set") [.ref l]) Q E s:=by
 obtain⟨V,aq,k⟩:=PySem.F.called_set.mro;have d:=PySem.F.called_set.made;have t:=PySem.F.called_set.sub
 refine wpAny_call (codeAny_of_tree (?_:dj _ _ (callAny (.type "set") _) _ _ _));refine wP1 ⟨Code.quiet_builtin _ (by decide+kernel),wD1 PySem.F.entry_type_call (?_:_)⟩;rw[Around.under_plain (weight_type_call_type "set" [.ref l] []) O];have X:=PySem.F.called_set.notType;have au:=PySem.F.called_set.canCreate;have T:=PySem.F.typeCall_set_1 (.ref l)
 repeat(any_goals (first|wp_step|assumption))
 refine codeAny_mono (wu (.ref l) (E:=E) (G:=λx o=>x = .ref s.heap.objs.size/\o={s with heap:=s.heap.push (stO #[] 0 (.fresh 0 0 (!jL w)))}) ⟨O,O⟩) λr o i=>?_;cases r with
 |error e=>exact i
 |ok F=>
  cases F with
  |ret x=>
   obtain⟨rfl,rfl⟩:=i;have j:(s.heap.push (stO #[] 0 (.fresh 0 0 (!jL w)))).get? s.heap.objs.size=Z (stO #[] 0 (.fresh 0 0 (!jL w))):=hS1 _ O;have H:Shared.TypeIs {s with heap:=s.heap.push (stO #[] 0 (.fresh 0 0 (!jL w)))} (.ref s.heap.objs.size) "set":=⟨_,j,O⟩;have L:=PySem.F.called_set.init.lookup;have ao:=PySem.F.called_set.init.bind (.ref s.heap.objs.size)
   repeat(any_goals (first|wp_step|assumption))
   refine codeAny_mono (codeAny_call_builtin (R:=wants (λr n=>r = .none/\Q (.ref s.heap.objs.size) n) E) PySem.F.called_set.init.plain PySem.F.entry_set_init (check_set_init_1 H (?_:_))) λr2 n a=>?_
   ·obtain⟨u,h,b,p,c⟩:=y;obtain⟨S,I,K,v⟩:=u;simp only at b c;subst b;subst c;have z:(s.heap.push (stO #[] 0 (.fresh 0 0 (!jL w)))).get? l=Z {cls:=.type "tuple",dict:=I,data:=.seq its p,slots:=v}:=hP1 _ h;have N:=PySem.F.sub_tuple_set;have W:=PySem.F.sub_tuple_frozenset;have U:(Value.type "tuple" == Value.type "dict")=J:=by decide
    have C:(s.heap.push (stO #[] 0 (.fresh 0 0 (!jL w)))).IsTuple l its:=⟨_,z,O,p,O⟩;have D:(s.heap.push (stO #[] 0 (.fresh 0 0 (!jL w)))).get? s.heap.objs.size=Z {cls:=.type "set",dict:=Y,data:=.set #[] 0 (.fresh 0 0 (!jL w)),slots:= #[]}:=j;unfold Builtin.«set.__init__» noKeywords Builtin.Frozenset.updateFrom;generalize g:pyIter=PI
    wp_walk
    subst g;refine wpAny_pyIter_tuple C (wB1 (wpAny_runValue (?_:_)));dsimp only;rw[show(s.heap.push (stO #[] 0 (.fresh 0 0 (!jL w)))).objs.size=s.heap.objs.size+1 from by rw[hZ1]];refine f A.in1.in1 (by simp) _ λs' q=>?_;exact wP1 (wP1 ⟨O,q⟩)
   ·cases r2 with
    |error e=>exact a
    |ok B=>
     cases B with
     |ret r=>
      obtain⟨rfl,q⟩:=a
      repeat(any_goals (first|wp_step|assumption))
     |_=>exact a.elim
  |_=>exact i.elim
theorem vp{l:da}{its:Array c8}{ns:List Int}{Q:c8->c9->Prop}(p:A.handled=Y)(h:s.heap.IsTuple l its)(z:IntsAre its.toList ns)(hb:its.size+1<scanBound)(q:∀h' tk,(∀c o,s.heap.get? c=Z o->h'.get? c=Z o)->h'.SetOf (intKind P w) s.heap.objs.size (λC=>(firstMet (λi=>ns.getD i 0) its.size).any (· == C)) (firstMet (λi=>ns.getD i 0) its.size).length->Q (.ref s.heap.objs.size) {s with heap:=h',toks:=tk}):dj (model P w) A (call (.type "set") [.ref l]) Q E s:=by
 have a:l<s.heap.objs.size:=by obtain⟨o,e,_⟩:=h;exact hL1 e
 refine yo h λu G R x=>?_;have I:(s.heap.push (stO #[] 0 (.fresh 0 0 (!jL w)))).objs.size=s.heap.objs.size+1:=by rw[hZ1]
 have ao:(s.heap.push (stO #[] 0 (.fresh 0 0 (!jL w)))).get? s.heap.objs.size=Z (stO #[] 0 (.fresh 0 0 (!jL w))):=hS1 _ O;have b:∀(i:Nat) (v:c8),its[i]?=Z v -> ∃t,v = .int ((λi=>ns.getD i 0) i) t:=λi v H=>PyProof.Rows.IntsAre.int_at z i v (by rw[aT1];exact H);have m:s.heap.objs.size∉[s.heap.objs.size+1,l]:=by
  simp only[aE,cm,bK,or_false,not_or];exact⟨nN1 (bB _),nG1 a⟩
 have f:u.in1.handled=Y:=by simpa using G.trans p
 refine PyProof.Rows.codeAny_set_update_loopS ((Walks.tuple f _ l (nN1 (cq a)) its).toS) s.heap.objs.size m (λi=>ns.getD i 0) b hb (its.size-0) 0 _ (by lia) (bh _) ⟨?_,?_⟩ ?_ λs' d j=>?_
 ·refine⟨{cls:=.type "tuple_iterator",data:=.fields #[.ref l,.int 0 0]},?_,O,O⟩;have this:((s.heap.push (stO #[] 0 (.fresh 0 0 (!jL w)))).push {cls:=.type "tuple_iterator",data:=.fields #[.ref l,.int 0 0]}).get? (s.heap.push (stO #[] 0 (.fresh 0 0 (!jL w)))).objs.size=Z {cls:=.type "tuple_iterator",data:=.fields #[.ref l,.int 0 0]}:=hS1 _ O;rw[I]at this;exact this
 ·obtain⟨o,e,r⟩:=h;exact⟨o,hP1 _ (hP1 _ e),r⟩
 ·exact PyProof.Rows.SetOf_congr ((PyProof.Rows.setObjOf_fresh (knd:=intKind P w) (!jL w)).setOf (hP1 _ ao) (by unfold scanBound;lia)) (λ_=>rfl) O
 ·obtain⟨h',D,y,k,g⟩:=s';have B:D=s.gens:=d.gens;have n:y=s.drawn:=d.drawn;have F:g=s.os:=d.os;subst B;subst n;subst F;refine x _ (q h' k (λc o e=>d.heap c o ?_ (hP1 _ (hP1 _ e))) j);have:=hL1 e;simp only[aE,cm,bK,or_false,not_or];exact⟨nN1 this,nN1 (cq this)⟩
end
section
variable{X:Cx}
def g8:G1:=λd S=>match dP S d with
 |some (_,xs)=>(jG xs).bind λns=>if ns.length+1<scanBound then Z (.ref S.length,S++[.iset (ddI ns)])else Y
 |_=>Y
theorem vr{k:Nat}(hr:fI k X.A):eA X (.type "set") (rN X.K (b1 g8)):=by
 intro ag s σ H xs v Q I r h;have F:=h;obtain⟨x,mu,S,d,o,C,rfl,m,i,c,hc⟩:=wd h;unfold g8 at c;split at c
 ·rename_i b ys l;cases b with
  |true=>exact JR hr ag s σ H _ v Q I r ⟨mu,S,[d],o,C,.cons m .nil,i,(by show rK d S=_;unfold rK;rw[l];exact c),hc⟩
  |false=>
  obtain⟨ns,e,c⟩:=oB1.mp c;split at c
  ·rename_i w;cases c;obtain⟨a,vs,rfl,q,t⟩:=dI m i l;cases r with
   |cons A rt=>
    cases rt;cases A;obtain⟨f,p,D,_⟩:=I.tuple q;obtain⟨hi,n⟩:=pO t p e;have g:f.toArray.size=ns.length:=by rw[sT1,hi.length]
    refine vp (its:=f.toArray) (ns:=ns) hr.hd D (by simpa using hi) (by rw[g];exact w) λh' tk E j=>?_;rw[g,ua]at j;have B:(ddI ns).Nodup:=oG ns [] bp;have y:=lK (ddI ns);rw[y]at j;refine⟨.ref s.heap.objs.size,upd H s.heap.objs.size (.set (λk=>(ddI ns).contains k) (ddI ns).length),I.laid (λb u z=>E b u z) (nR1 _) j,O,?_⟩;exact hc _ _ (mu++[s.heap.objs.size]) (Ext.new_ I.fresh) (.ref (gx i.len _)) (i.new I.fresh ⟨dX,B⟩)
  ·cases c
 ·cases c
end
section
variable{X:Cx}{a b:Expr}{rest:List Expr}{pos:Pos}{ta tb:TE}{f g:FE}
theorem F0(ha:PE X a ta)(hb:PE X (.BoolOp .Or (b::rest) pos) tb):PE X (.BoolOp .Or (a::b::rest) pos) (fun σ H Q=>ta σ H λx H'=>∃k,BN X.K x H' k/\if k=M then Q x H' else tb σ H' Q):=by
 intro ag s σ H Q I h;refine BoolOp_or (eY (ha ag s σ H _ I h) λv j ⟨x,H1,l,g,e⟩=>?_);obtain⟨k,tk,e⟩:=e;refine eY (zd ag j σ H1 x v (λi H'=>if i=M then Q x H' else tb σ H' Q) l g ⟨k,tk,e⟩) λc m ⟨H2,f,d⟩=>?_;cases c with
 |false=>rw[aj (by decide)]at d ⊢;exact hb ag m σ H2 Q f d
 |true=>rw[ak O]at d ⊢;exact⟨x,H2,f,g,d⟩
def AC(a b:FE):FE:=λr S=>(a r S).bind λp=>(qo p.2 p.1).bind λk=>if k=M then Z p else b r p.2
theorem vM(ha:XE X a f)(hb:XE X (.BoolOp .Or (b::rest) pos) g):XE X (.BoolOp .Or (a::b::rest) pos) (AC f g):=
 ⟨ez (F0 ha.h hb.h) <| by
  rintro σ H Q ⟨r,mu,S,d,t,l,p,c,hc⟩;obtain⟨⟨q,j⟩,o,c⟩:=oB1.mp c;obtain⟨k,u,c⟩:=oB1.mp c;refine⟨r,mu,S,q,j,l,p,o,λv H1 mu1 e m h=>⟨k,ze m h u,?_⟩⟩;cases k with
  |true=>rw[ak O]at c ⊢;cases c;exact hc _ H1 mu1 e m h
  |false=>rw[aj (by decide)]at c ⊢;exact⟨r,mu1,j,d,t,l.ext e,h,c,λn H2 i x2 r2 s=>hc n H2 i (e.trans x2) r2 s⟩⟩
end
section
variable{X:Cx}
theorem KR.len{K:Fg1}{H:Hp}{mu:List da}{ks:List (Key×D)}{ws:List (Key×V)}(h:KR K H mu ks ws):ws.length=ks.length:=by
 induction h with
 |nil=>rfl
 |cons _ _ ih=>rw[lC1,lC1,ih]
def ox:G1:=λd S=>match d with
 | .ref n=>match S[n]? with
  |some (.dct kvs)=>Z (.int kvs.length,S)
  |_=>dV d S
 |_=>dV d S
theorem Hx:eA X (.builtin "len") (rN X.K (b1 ox)):=by
 intro ag s σ H xs i Q I r h;obtain⟨x,mu,S,d,g,j,c,f,b,a,hc⟩:=wd h;have k:=a;unfold ox at a;split at a
 ·rename_i n;split at a
  ·rename_i ys e;cases a;subst c;cases f with
   |ref l=>
    obtain⟨ws,m,q⟩:=b.dct e l;cases r with
    |cons p rt=>
     cases rt;cases p;refine JL I (Rd.of m) λt s' o=>⟨.int ws.length,H,o,⟨_,O⟩,?_⟩;rw[q.len];exact hc.now (.int _) b
  ·exact ei ag s σ H xs i Q I r (by subst c;exact⟨mu,S,[_],g,j,.cons f .nil,b,(show b1 dV [_] S=_ from a),hc⟩)
 ·exact ei ag s σ H xs i Q I r (by subst c;exact⟨mu,S,[_],g,j,.cons f .nil,b,(show b1 dV [_] S=_ from a),hc⟩)
end
section
variable{P:db}{w:df}{A:de}{E:c8->c9->Prop}{b:Bool}
end
section
variable{X:Cx}
end
section
variable{prog:db}{w:df}{A:de}{E:c8->c9->Prop}{s:c9}
theorem ud {l:da}{vs:List c8}{Q:List c8->c9->Prop}(d:s.heap.IsTuple l vs.toArray)
  (h:Q vs {s with heap:=(s.heap.push (seqObj "list" #[] 0)).update s.heap.objs.size (Obj.mapSeq (· ++ vs.toArray))}) (hsz:vs.length<=di):
  dj (model prog w) A (collect (.ref l)) Q E s:=by
 obtain⟨o,e,hc,n,c⟩:=id d;unfold collect;refine wB1 (wpAny_runValue (wD1 entry_proto_collect' ?_));show dj _ _ (do again (.builtin "list.__iadd__" ⟨[<- newList [],.ref l],[]⟩)) _ _ s;refine wB1 (wpAny_newList (wP1 ⟨Code.quiet_builtin _ (by decide+kernel),wD1 entry_list_iadd' ?_⟩));show dj _ _ (Builtin.List.listExtendWith (.ref s.heap.objs.size) (.ref l) (.ref s.heap.objs.size)) _ _ {s with heap:=s.heap.push (seqObj "list" #[] 0)};unfold Builtin.List.listExtendWith;have a:(s.heap.push (seqObj "list" #[] 0)).get? l=Z o:=hP1 _ e;refine wB1 (wpAny_typeOf (T:="tuple") ⟨o,a,hc⟩ ?_);have b:(Value.type "tuple" == Value.type "tuple")=M:=by rfl
 rw [if_pos (by rw [b];simp)];refine wB1 (listItems_at a c ?_);refine wB1 (listItems_at (xs:= #[]) (n:=0) (hS1 _ rfl) rfl ?_);rw [if_neg (by simp)];refine wB1 (listUpdate_at (xs:= #[]) (n:=0) (hS1 _ rfl) rfl ?_ (bh _) (by show (#[]++vs.toArray).size<=di+1;simp only [Array.size_append,sT1,bb];omega));refine wP1 ?_;show dj (model prog w) A (do
   let o<-load s.heap.objs.size
   match o.data with
   | .seq xs _=>pure xs.toList
   |_=>unsupported "internal:collect") Q E {s with heap:=(s.heap.push (seqObj "list" #[] 0)).update s.heap.objs.size (Obj.mapSeq (· ++ vs.toArray))}
 refine wB1 (wpAny_load (get?_update_seq (hS1 _ O) _) ?_);show dj _ _ (pure ((#[]:Array c8)++vs.toArray).toList) Q E _;rw[show((#[]:Array c8)++vs.toArray).toList=vs by simp];exact wP1 h
theorem nG {l:da}{vs:List c8}{Q:c8->c9->Prop}(b:s.heap.IsList l vs.toArray\/s.heap.IsTuple l vs.toArray)(g:vs.length<64)
  (h:∀P:PySem.Fin->c9->Prop,(∀a:Array c8,Q (.ref (s.heap.objs.size+1)) {s with heap:=sortedAll s.heap vs a}->P (.done (.ret .none)) {s with heap:=sortedAll s.heap vs a}) ->
   ∀e (h':dk),h'=(((s.heap.push (seqObj "list" #[] 0)).update s.heap.objs.size (Obj.mapSeq (· ++ vs.toArray))).push (seqObj "list" vs.toArray 0))->h'.get? (s.heap.objs.size+1)=Z (seqObj "list" vs.toArray 0) ->
   dj (model prog w) A.in1.in1 (Builtin.«list.sort» ⟨[.ref (s.heap.objs.size+1)],[]⟩) P e {s with heap:=h'}):
  dj (model prog w) A (call (.builtin "sorted") [.ref l]) Q E s:=by
 refine Calls.call_function_entry kind_sorted plain_sorted entry_sorted (args_sorted1 _) ?_;unfold Builtin.«sorted»;refine wB1 (m:=checkCount "sorted" 1 1 _) (wP1 ?_);have i:∀(e:c8->c9->Prop) (Q:List c8->c9->Prop),Q vs {s with heap:=(s.heap.push (seqObj "list" #[] 0)).update s.heap.objs.size (Obj.mapSeq (· ++ vs.toArray))}->dj (model prog w) A.in1 (collect (.ref l)) Q e s:=λe Q f=>by
  rcases b with b|b
  ·exact collect_list b f (by rw[sizeLine_eq];omega)
  ·exact ud b f (by rw[sizeLine_eq];omega)
 refine wB1 (i _ _ ?_);refine wB1 (wpAny_newList ?_ (by rw[sizeLine_eq];omega));have c:((s.heap.push (seqObj "list" #[] 0)).update s.heap.objs.size (Obj.mapSeq (· ++ vs.toArray))).objs.size=s.heap.objs.size+1:=by
  rw[Heap.size_update,size_push']
 have d:(((s.heap.push (seqObj "list" #[] 0)).update s.heap.objs.size (Obj.mapSeq (· ++ vs.toArray))).push (seqObj "list" vs.toArray 0)).get? (s.heap.objs.size+1)=Z (seqObj "list" vs.toArray 0):=by
  rw[<- c];exact hS1 _ O
 show dj _ _ _ _ _ {s with heap:=((s.heap.push (seqObj "list" #[] 0)).update s.heap.objs.size (Obj.mapSeq (· ++ vs.toArray))).push (seqObj "list" vs.toArray 0)};rw[c];refine wB1 (wpAny_holding (wE1 slot_list_sort ⟨_,d,O⟩ entry_list_sort (h _ ?_ _ _ O d) (args_list_sort _)));intro a f;exact⟨_,O,wP1 ⟨_,O,f⟩⟩
theorem tQ{vs:List c8}{b:da}{o:Obj}(q:s.heap.get? b=Z o):b≠s.heap.objs.size+1/\(((s.heap.push (seqObj "list" #[] 0)).update s.heap.objs.size (Obj.mapSeq (· ++ vs.toArray))).push (seqObj "list" vs.toArray 0)).get? b=Z o:=by
 have a:b<s.heap.objs.size:=hL1 q;have c:((s.heap.push (seqObj "list" #[] 0)).update s.heap.objs.size (Obj.mapSeq (· ++ vs.toArray))).objs.size=s.heap.objs.size+1:=by
  rw[Heap.size_update,size_push']
 refine⟨nN1 (cq a),?_⟩;rw[Heap.get?_push_ne _ _ _ (by rw[c];exact nN1 (cq a)),hU1 _ _ _ _ (nN1 a),Heap.get?_push_ne _ _ _ (nN1 a)];exact q
theorem GX{a b:da}{k l:Int}{t u:Tok}{d zs:List c8}{Q:Bool->c9->Prop}(ha:IsTup s.heap a (Value.int k t::d).toArray)(hb:IsTup s.heap b (Value.int l u::zs).toArray)(c:k≠l)(h:Q (decide (k<l)) s):
  dj (model prog w) A (keyLt' (tuples' M) (.ref a) (.ref b)) Q E s:=by
 rw[rq];obtain⟨o,e,m,_,f⟩:=ha;obtain⟨n,i,j,_,g⟩:=hb;refine wB1 (listItems_at e f (wB1 (listItems_at i g ?_)));rw[bS,bJ,bD];refine wB1 (wB1 ?_);dsimp only;refine wB1 (wpAny_eqBool_int ?_);rw[beq_false_of_ne c];simp only[cr,if_true];exact wB1 (oneLt_int (wP1 (wP1 (wP1 h))))
theorem GY{vs:List c8}{Q:SortKind->c9->Prop}(i:vs≠[])(h:∀ v∈vs,∃ a k t ps,v = .ref a/\IsTup s.heap a (Value.int k t::ps).toArray)(q:Q (tuples' true) s):
  dj (model prog w) A (keyKind' vs.toArray) Q E s:=by
 rw[keyKind'_eq,List.mapM_toArray,<- bind_pure_comp];refine wB1 (wB1 (rl (P:=λ_ r=>∃k t,r=Z (Value.int k t)) (λv j=>?_) λrs p f=>wP1 ?_))
 ·obtain⟨a,k,t,ps,rfl,⟨o,l,u,_,y⟩⟩:=h v j;refine⟨Z (.int k t),⟨k,t,O⟩,λQ q=>?_⟩;rw[A6];refine wB1 (wpAny_typeOf (T:="tuple") ⟨o,l,u⟩ ?_);rw[aj (by decide)];refine wB1 (listItems_at l y (wP1 ?_));simpa using q
 ·have B:rs.toArray.all (·.isSome)=true:=by
   rw[List.all_toArray,bA];intro r g;obtain⟨v,_,k,t,e⟩:=f r g;rw[e];rfl
  rw[ak B];refine wB1 (wpAny_rule ?_);rw[oneTypeOnly'_eq];have n:rs.toArray.filterMap id=(rs.filterMap id).toArray:=by simp
  rw[n,List.mapM_toArray,<- bind_pure_comp];refine wB1 (wB1 (wB1 (rl (P:=λ_ t=>t=Value.type "int") (λv j=>?_) λc b m=>wP1 ?_)))
  ·obtain⟨r,g,e⟩:=aL.mp j;obtain⟨G,_,k,t,F⟩:=f r g;rw[F]at e;cases e;exact⟨_,O,λQ q=>wpAny_typeOf (T:="int") (typeIs_int s k t) q⟩
  ·cases c with
   |nil=>
    exfalso;cases rs with
    |nil=>exact i (List.length_eq_zero_iff.mp p.symm)
    |cons r rs=>
     obtain⟨_,_,k,t,e⟩:=f r mS1;rw[e]at b;simp at b
   |cons t c=>
    have all:∀x∈t::c,x=Value.type "int":=λx d=>by obtain⟨_,_,z⟩:=m x d;exact z
    have D:=all t mS1;subst D;have C:((Value.type "int"::c).toArray.all λx=>x == Value.type "int")=M:=by
     rw[List.all_toArray,bA];intro x d;rw[all x d];rfl
    show dj _ _ (pure (if((Value.type "int"::c).toArray.all λx=>x == Value.type "int")=M then Z (Value.type "int")else Y)) _ _ _;rw[ak C];exact wP1 (wP1 q)
end
def i5:D->Option Int
 | .tup (.int k::_)=>Z k
 |_=>Y
def mz:List D->Bool
 |[]=>M
 |x::l=>(match i5 x with
  |some a=>l.all λy=>match i5 y with
   |some b=>decide (a<b)
   |none=>J
  |none=>J)&&mz l
theorem sP:∀{l:List D} {i:Nat} {x:D},mz l=M->l[i]?=Z x -> ∃k,i5 x=Z k
 |[],i,x,_,h=>by simp at h
 |y::l,0,x,h,e=>by
  cases e;rw[mz,bA1]at h;cases hy:i5 y with
  |some k=>exact⟨k,O⟩
  |none=>rw[hy]at h;cases h.1
 |y::l,i+1,x,h,e=>by
  rw[mz,bA1]at h;exact sP h.2 (by simpa using e)
theorem k9:∀{l:List D} {i j:Nat} {x y:D} {a b:Int},mz l=M->l[i]?=Z x->l[j]?=Z y->i<j->i5 x=Z a->i5 y=Z b->a<b
 |[],i,j,x,y,_,_,_,h,_,_,_,_=>by simp at h
 |z::l,0,0,_,_,_,_,_,_,_,h,_,_=>by omega
 |z::l,0,j+1,x,y,a,b,h,e1,e2,_,f1,f2=>by
  cases e1;rw[mz,bA1,f1]at h;have:=bA.mp h.1 y (gM1 (by simpa using e2));rw[f2]at this;exact of_decide_eq_true this
 |z::l,i+1,0,_,_,_,_,_,_,_,h,_,_=>by omega
 |z::l,i+1,j+1,x,y,a,b,h,e1,e2,hij,f1,f2=>by
  rw[mz,bA1]at h;exact k9 h.2 (by simpa using e1) (by simpa using e2) (by omega) f1 f2
def jI:G1:=λd S=>match dP S d with
 |some (M,xs)=>match mJ xs with
  |some ns=>if ns.length<64 then Z (.ref S.length,S++[.lst ((jb ns).map D.int)])else Y
  |none=>if(mz xs&&decide (xs.length<64))=M then Z (.ref S.length,S++[.lst xs])else Y
 |some (J,xs)=>(mJ xs).bind λns=>if ns.length<64 then Z (.ref S.length,S++[.lst ((jb ns).map D.int)])else Y
 |none=>Y
section
variable{X:Cx}{ag:List (da×Obj)}{σ:L2.St}{H:Hp}{s:c9}{mu:List da}
theorem Fv(I:Inv X ag σ H s):∀{ds:List D} {vs:List V} {its:List c8} {i:Nat} {d:D} {k:Int},dJ X.K H mu ds vs->dY vs its->ds[i]?=Z d->i5 d=Z k -> ∃b t ps,its[i]?=Z (.ref b)/\IsTup s.heap b (Value.int k t::ps).toArray:=by
 intro ds
 induction ds with
 |nil=>intro vs its i d k _ _ h;simp at h
 |cons x ds ih=>
  intro vs its i d k t l h a;cases t with
  |cons n t=>
   cases l with
   |cons c m=>
    cases i with
    |zero=>
     have:x=d:=by simpa using h
     subst this;unfold i5 at a;split at a
     ·rename_i o rest;cases a;cases n with
      |tup q j=>
       obtain⟨is,f,it,_⟩:=I.tuple q;cases j with
       |cons rk p=>
        cases rk;cases f with
        |cons g _=>
         obtain⟨tk,rfl⟩:=g;cases c;exact⟨_,tk,_,O,it⟩
     ·cases a
    |succ i=>
     obtain⟨b,tk,ps,e,h⟩:=ih t m (by simpa using h) a;exact⟨b,tk,ps,by simpa using e,h⟩
end
section
variable{X:Cx}
theorem D2:eA X (.builtin "sorted") (rN X.K (b1 jI)):=by
 intro ag s σ H xs us Q I r h;obtain⟨x,mu,S,d,r',S',rfl,r1,A,f,hc⟩:=wd h;unfold jI at f;split at f
 ·rename_i ds en;obtain⟨a,vs,rfl,q,t⟩:=dI r1 A en;obtain⟨u,rfl,r2⟩:=hC r;cases r2;obtain⟨its,w,ht,hz⟩:=I.list q;split at f
  ·rename_i ns p;split at f
   ·rename_i hl;cases f;have hI:=pM t w p;have B:its.length=ns.length:=by rw[<- w.length,<- t.length,pP p]
    refine sorted_ints ht.isList hI (by lia) λout C D hp ao=>?_;have F:C=jb ns:=qz (hp.trans (gw ns).symm) ao (nH ns);subst F;obtain⟨ep,n⟩:=sortedAll_at s.heap its out;have c:=I.hok.fresh (aX s.heap.objs.size);refine⟨.ref (s.heap.objs.size+1),_,I.laid (t':=s.toks) (o:=.lst ((jb ns).map V.int)) (λb ob q=>sortedAll_old q) (aX _) ?_,O,hc _ _ (mu++[_]) (Ext.new_ c) (.ref (gx A.len _)) (A.newL (jW _) c)⟩;refine⟨?_,out.toList,ep,pN D,by rw[ck];exact n⟩;rw[lM1,(gw ns).length_eq,sizeLine_eq];lia
   ·cases f
  ·split at f
   ·rename_i m;cases f;rw[bA1,am]at m;obtain⟨hr,hl⟩:=m;have B:its.length=ds.length:=by rw[<- w.length,<- t.length]
    have g:∀(i:Nat) (v:c8),its[i]?=Z v -> ∃b d k t ps,v = .ref b/\ds[i]?=Z d/\i5 d=Z k/\IsTup s.heap b (Value.int k t::ps).toArray:=λi v hv=>by
     have hi:=(gE1.mp hv).1;have hd:ds[i]?=Z ds[i]:=gG1 (by omega);obtain⟨k,U⟩:=sP hr hd;obtain⟨b,tk,ps,e,it⟩:=Fv I t w hd U;rw[hv]at e;cases e;exact⟨b,_,k,tk,ps,O,hd,U,it⟩
    have uq:∀{b:da} {k l:Int} {t u:Tok} {ps qs:List c8},IsTup s.heap b (Value.int k t::ps).toArray->IsTup s.heap b (Value.int l u::qs).toArray->k=l:=λh1 h2=>by
     obtain⟨o,p,_,_,ar⟩:=h1;obtain⟨o2,e2,_,_,L⟩:=h2;rw[p]at e2;cases e2;rw[ar]at L;injection L with L _;have:=congrArg Array.toList L;injection this with h1 _;injection h1
    refine nG (.inl ht.isList) (by omega) λP hP E' h' wq G=>?_;refine Cf (s:={s with heap:=h'}) (κ:=tuples' M) (ws:=its) G (by omega) (List.Perm.refl _) (λT k2 h2=>?_) ?_
    ·have keep:∀ b o,s.heap.get? b=some o->T.get? b=some o:=fun b o e=>by
      have:=tQ (vs:=its) e;rw[<- wq]at this;exact k2 b o this.1 this.2
     have kt:∀{b:da} {xs:Array c8},IsTup s.heap b xs->IsTup T b xs:=λh=>h.keeps keep;refine⟨⟨?_,?_,?_⟩,λQ q=>?_⟩
     ·refine List.pairwise_iff_getElem.mpr λi j hi hj W e=>?_;obtain⟨b,ar,au,t1,K,p,R,N,aq⟩:=g i _ (gG1 hi);obtain⟨b2,L,k3,t2,ps2,e2,f2,g2,i2⟩:=g j _ (gG1 hj);rw[p,e2]at e;cases e;have:=k9 hr R f2 W N g2;have:=uq aq i2;omega
     ·rw[pairsOf_toList];have:(its.zip its).map (·.1)=its:=List.map_fst_zip (nR1 _);rw[this]
     ·intro x y i j hx hy W E Q q;obtain ⟨b,ar,au,t1,K,rfl,R,N,aq⟩:=g i _ hx;obtain ⟨b2,L,k3,t2,ps2,rfl,f2,g2,i2⟩:=g j _ hy;have U:au≠k3/\decide (au<k3)=decide (i<j):=by
       by_cases z:i<j
       ·have:=k9 hr R f2 z N g2;exact⟨by omega,by rw[ah z,ah this]⟩
       ·have:=k9 hr f2 R (by omega) g2 N;exact⟨by omega,by rw[ai z,ai (by omega)]⟩
      exact GX (kt aq) (kt i2) U.1 (by rw[U.2];exact q)
     ·refine GY (λz=>by rw[z]at h2;simp at h2) (λv hv=>?_) q;obtain⟨i,hi⟩:=bq hv;obtain⟨b,ar,au,t1,K,rfl,R,N,aq⟩:=g i _ hi;exact⟨b,au,t1,K,O,kt aq⟩
    ·have e0:sortedHeap h' (s.heap.objs.size+1) its its.toArray=sortedAll s.heap its its.toArray:=by rw[wq];rfl
     show P _ {s with heap:=sortedHeap h' (s.heap.objs.size+1) its its.toArray};rw[e0];refine hP its.toArray ?_;obtain⟨ep,n⟩:=sortedAll_at s.heap its its.toArray;have c:=I.hok.fresh (aX s.heap.objs.size);refine⟨.ref (s.heap.objs.size+1),_,I.laid (t':=s.toks) (o:=.lst vs) (λb ob q=>sortedAll_old q) (aX _) ?_,O,hc _ _ (mu++[_]) (Ext.new_ c) (.ref (gx A.len _)) (A.newL t c)⟩;refine⟨?_,its,ep,w,n⟩;rw[w.length,sizeLine_eq];lia
   ·cases f
 ·rename_i ds en;obtain⟨ns,p,f⟩:=oB1.mp f;split at f
  ·rename_i hl;cases f;obtain⟨a,vs,rfl,q,t⟩:=dI r1 A en;obtain⟨u,rfl,r2⟩:=hC r;cases r2;obtain⟨its,w,ht,hz⟩:=I.tuple q;have hI:=pM t w p;have B:its.length=ns.length:=by rw[<- w.length,<- t.length,pP p]
   refine nG (.inr ht) (by omega) λP hP E' h' wq G=>?_;refine list_sort_tree (s:={s with heap:=h'}) G hI (by omega) λout C D hp ao=>?_;have e0:sortedHeap h' (s.heap.objs.size+1) its out=sortedAll s.heap its out:=by rw[wq];rfl
   show P _ {s with heap:=sortedHeap h' (s.heap.objs.size+1) its out};rw[e0];refine hP out ?_;have F:C=jb ns:=qz (hp.trans (gw ns).symm) ao (nH ns);subst F;obtain⟨ep,n⟩:=sortedAll_at s.heap its out;have c:=I.hok.fresh (aX s.heap.objs.size);refine⟨.ref (s.heap.objs.size+1),_,I.laid (t':=s.toks) (o:=.lst ((jb ns).map V.int)) (λb ob q=>sortedAll_old q) (aX _) ?_,O,hc _ _ (mu++[_]) (Ext.new_ c) (.ref (gx A.len _)) (A.newL (jW _) c)⟩;refine⟨?_,out.toList,ep,pN D,by rw[ck];exact n⟩;rw[lM1,(gw ns).length_eq,sizeLine_eq];lia
  ·cases f
 ·cases f
end
theorem JM{K:Fg1}{x:Str}{f:da}(h:wN1 K dg x=Z (Z (.ref f))):CV K (.fn x) (.ref f):=⟨.ref f,O,λ_ _=>.fn h⟩
section
variable{X:Cx}{f:da}{fd:dm}{ps:List Str}{k n:Nat}{sp:Sp}{dvs:List V}{ds:List c8}{CX:yA}{E:XK}{t:TA}{e:Expr}{es:List Expr}{p pos:Pos}{i:Nat}{v x:Str}
theorem zW (hN:X.N[i]? = some v)(hv:Ed X.env.scope v)(F:jQ X.prog X.w X.K X.mg X.base CX k f fd ps sp)(hr:fI k X.A)(hm:X.mg x=some (.ref f))(hk:wK1 X.K (.ref f)=true)(hb:jj X.K fd ps ds)(hd:dY dvs ds)(hx:sw CX X E)
  (ha:PA X (e::es) t) (hdb:(v == ("__debug__":Str))=J) (hcd:(v == ("__classdict__":Str))=J) (he:dh (e::es) X.env=(J,eval e X.env)::dh es X.env) (hpl:(backTo pos (dh es X.env)).any (·.1)=J):
  PE X (.Call (.Name v p) (e::es) [] pos) (fun σ H Q=>(∃a,σ[i]?=Z (Z (.ref a))/\wN1 X.K dg x=Z (Z (.ref a)))/\Eo sp dvs E t σ H Q):=by
 rintro ag s σ H Q I ⟨⟨a,y,j⟩,h⟩;have g:=wM1 I.ok.mod.kin I.ok.mod.glob j;rw[hm]at g;cases g;obtain⟨m,w,o⟩:=I.loc;obtain⟨u,r,l⟩:=o i v _ hN y hv;cases r;have d:dj (model X.prog X.w) X.A (callWith pos (.ref f) [] (backTo pos (dh (e::es) X.env)) (backToKw pos (keywordEach [] X.env))) (EP X ag σ Q) X.xe s:=by
  refine PySem.W.callWith_K (h₀:=X.base) I.ok.mod.kin hk (eY (ha pos ag s σ H _ I h) λz A ⟨vs,H1,n,r,q⟩=>⟨n.kIn,?_⟩) he hpl;exact zA F hr hb hd hx n r q
 refine wpAny_Call_Name_kw ?_;rcases l with⟨hk,hm⟩|⟨hk,c,hc,b⟩
 ·exact wpAny_Name (wpAny_loadName_local I.ok.kind hk w hm d) hdb
 ·rcases hk with hk|hk
  ·exact wpAny_Name (wpAny_loadName_cell I.ok.kind hk hc b d) hdb
  ·exact wpAny_Name (wpAny_loadName_free I.ok.kind hk hc b d hcd) hdb
def tK(i:Nat)(x:Str)(g:FN)(a:FA):FE:=λr S=>match r[i]? with
 |some (Z (.fn y))=>if y=x then mN g a r S else Y
 |_=>Y
theorem Aw {m:FN}{a:FA}{k':Nat}(i:Nat)(h:Own X.prog X.w X.K X.mg X.base k x n m)(hr:fI k' X.A)(hk:k<=k')(hN:X.N[i]? = some v)(hv:Ed X.env.scope v)(ha:MA X (e::es) a)(hdb:(v == ("__debug__":Str))=false)(hcd:(v == ("__classdict__":Str))=false)
  (he:dh (e::es) X.env=(J,eval e X.env)::dh es X.env) (hpl:(backTo pos (dh es X.env)).any (·.1)=J):ME X (.Call (.Name v p) (e::es) [] pos) (tK i x (dy n m) a):=by
 obtain⟨f,fd,ps,F,b,I,s⟩:=h;refine ez (zW (E:=E0) hN hv F (hr.mono hk) s I b .nil Ew ha hdb hcd he hpl) fun σ H Q h=>?_;obtain⟨r,mu,S,d,t,he,l,c,hc⟩:=h;unfold tK at c;split at c
 ·rename_i y w;split at c
  ·rename_i N;subst N;obtain⟨P,au,L⟩:=he.val i _ w;cases L with
   |fn u=>
    refine⟨⟨_,au,u⟩,?_⟩;obtain⟨r,mu,S,ds,t,he,l,c,hc⟩:=wy (K:=X.K) (f:=dy n m) ⟨r,mu,S,d,t,he,l,c,hc⟩;refine⟨r,mu,S,ds,t,he,l,c,λvs H' mu' ao D G=>?_⟩;have q:=hc vs H' mu' ao D G;show spM X.K n m (vs++[]) H' Q E0;rw[aM];obtain⟨j,C,o,B,z,h1,h2,g,aq⟩:=q;unfold dy at g;split at g
    ·rename_i A;exact⟨by rw[<- h1.length];exact A,ul ⟨j,C,o,B,z,h1,h2,g,aq⟩⟩
    ·cases g
  ·cases c
 ·cases c
theorem pp {m:FN}{a:FA}{k':Nat}(i:Nat)(h:Own X.prog X.w X.K X.mg X.base k x n m)(hr:fI k' X.A)(hk:k<=k')(hN:X.N[i]? = some v)(hv:Ed X.env.scope v)(ha:XA X (e::es) a)(hdb:(v == ("__debug__":Str))=false:=by decide)(hcd:(v == ("__classdict__":Str))=false:=by decide)
  (he:dh (e::es) X.env=(J,eval e X.env)::dh es X.env:=by rfl) (hpl:(backTo pos (dh es X.env)).any (·.1)=J:=by rfl):XE X (.Call (.Name v p) (e::es) [] pos) (tK i x (dy n m) a):=⟨Aw i h hr hk hN hv ha.h hdb hcd he hpl⟩
end
section
variable{prog:db}{w:df}{K:Type} [DecidableEq K] {knd:HeapKind prog w K}{A:de}{E:c8->c9->Prop}{s:c9}
theorem u7{d:da}(hd:(d == sysModules)=false):
  MeetsIn prog w (Builtin.«dict.__len__» ⟨[.ref d],[]⟩) (λ_ R s=>∃xs,s.heap.DictOfH knd d xs/\R (.ok (.ret (.int xs.length s.toks))) {s with toks:=s.toks+1}):=
 .of_wp λA R s ⟨xs,b,h⟩=>by
  obtain⟨o,es,ep,e,hc,a,c,_⟩:=b;show dj _ _ (dictSize d >>= _) _ _ s;unfold dictSize;refine wB1 (wB1 (wpAny_dictEntries e a (wP1 ?_)));show dj _ _ (Builtin.Dict.pendingCount d >>= _) _ _ s;refine wB1 (wpAny_pendingCount_other hd ?_);refine wpAny_ret_mkInt ?_;rw[Nat.add_zero,size_of_entries c];exact h
theorem yu{d:da}{xs:List (K×da×c8)}{Q:c8->c9->Prop}(hd:(d == sysModules)=J)(hm:s.heap.DictOfH knd d xs)(a:(xs.length:Int)<2^63)(h:Q (.int xs.length (s.toks+1)) {s with toks:=s.toks+1+1}):dj (model prog w) A (call (.builtin "len") [.ref d]) Q E s:=by
 refine Calls.call_function_entry kind_len plain_len entry_len (args_len1 _) ?_;unfold Builtin.«len»;refine wB1 (m:=oneArg "len" _) (wP1 ?_);refine wB1 (m:=callSpecial? (.ref d) (Str.ofString "__len__")) (wpAny_callSpecial?_slot (name:=Str.ofString "__len__") hm.typeIs F.slot_dict_len
  (call_meetsIn F.slot_dict_len hm.typeIs F.entry_dict_len (F.args_dict_len_1 _) (u7 (knd:=knd) hd) ⟨xs,hm,?_⟩))
 show dj _ _ _ _ _ {s with toks:=s.toks+1};refine wB1 (wpAny_holding (wP1 ?_));refine wB1 (wpAny_letGo ?_);show dj _ _ (if((xs.length:Nat):Int)<0 then _ else _) _ _ _;rw[aj (by omega)];show dj _ _ (if((xs.length:Nat):Int)>=2^63 then _ else _) _ _ _;rw[aj (by omega)];exact wB1 (wpAny_mkInt (wP1 ⟨_,O,h⟩))
end
section
variable{X:Cx}
def pQ:G1:=λd S=>match d with
 | .ref n=>match S[n]? with
  |some (.dcT kvs)=>Z (.int kvs.length,S)
  |_=>ox d S
 |_=>ox d S
theorem Hw:eA X (.builtin "len") (rN X.K (b1 pQ)):=by
 intro ag s σ H xs f Q I r h;obtain⟨x,mu,S,d,c,j,g,k,b,a,hc⟩:=wd h;have back:ox d S=Z (c,j)->dj (model X.prog X.w) X.A (call (.builtin "len") f) (EP X ag σ Q) X.xe s:=λa=>Hx ag s σ H xs f Q I r (by subst g;exact⟨mu,S,[d],c,j,.cons k .nil,b,(show b1 ox [d] S=_ from a),hc⟩);unfold pQ at a;split at a
 ·rename_i n;split at a
  ·rename_i ys e;cases a;subst g;cases k with
   |ref p=>
    obtain⟨ws,q,i,o⟩:=b.dcT e p;obtain⟨m,l⟩:=t9 I q i;cases r with
    |cons t rt=>
     cases rt;cases t;refine yu m l (by rw[sizeLine_eq]at o;lia) ?_;refine⟨.int ws.length,H,I.tok _,⟨_,O⟩,?_⟩;rw[<- i.length];exact hc.now (.int _) b
  ·exact back a
 ·exact back a
def j3:G2:=λd e S=>match e with
 | .ref n=>match S[n]? with
  |some (.dct [])=>match iM d with
   |some _=>Z (.bl M,S)
   |none=>fA d e S
  |_=>fA d e S
 |_=>fA d e S
theorem Ad(l:X.A.units+64<cLine):gg X (compareOp .NotIn) (r2 X.K (b2 j3)):=by
 intro ag s σ H x y u w Q I j m h;obtain⟨mu,S,d,e,r,o,p,c,g,a,hc⟩:=uz h;have back:fA d e S=Z (r,o)->dj (model X.prog X.w) X.A (compareOp .NotIn u w) (EP X ag σ Q) X.xe s:=λa=>n4 l ag s σ H x y u w Q I j m ⟨mu,S,[d,e],r,o,.cons p (.cons c .nil),g,a,hc⟩;unfold j3 at a;split at a
 ·rename_i n;split at a
  ·rename_i A;split at a
   ·rename_i k v;cases a;cases c with
    |ref B=>
     cases m;obtain⟨ws,C,D⟩:=g.dct A B;cases D;obtain⟨z,t,vs,f,q⟩:=wY I.hok C;cases f;obtain⟨b,rfl,rfl,rk,E,hi⟩:=l7 I p j v;have i:s.heap.DictOfH (iU X.prog X.w) _ []:=t5 q;refine wpAny_notIn_heap (jV l) hi t i ?_;exact⟨.bl M,H,I.tok _,O,hc.now (.bl _) g⟩
   ·exact back a
  ·exact back a
 ·exact back a
end
theorem Fu(m i:Nat):SetTable.runEnd m i-i<=9:=by unfold SetTable.runEnd;split<;>lia
theorem zz(m i:Nat):i<=SetTable.runEnd m i:=by unfold SetTable.runEnd;split<;>lia
theorem Iy{m i:Nat}(h:i<=m):SetTable.runEnd m i<=m:=by unfold SetTable.runEnd;split<;>lia
theorem wE(m i b:Nat):(SetTable.leap m i b).1<=m:=by
 unfold SetTable.leap;have:=Nat.mod_lt (i*5+1+b/32) (bM m);dsimp only;lia
theorem sX(m:Nat):∀n i b:Nat,(ge m n i b).length<=10*n
 |0,_,_=>by simp[ge]
 |n+1,i,b=>by
  rw[ge,lA1,List.length_range'];have:=sX m n (SetTable.leap m i b).1 (SetTable.leap m i b).2;have:=Fu m i;lia
theorem wh(m:Nat):∀n i b:Nat,i<=m -> ∀x∈ge m n i b,x<=m
 |0,_,_,_,x,h=>by simp[ge]at h
 |n+1,i,b,hi,x,h=>by
  rw[ge,aF]at h;rcases h with h|h
  ·rw[List.mem_range'_1]at h;have:=Iy hi;have:=zz m i
   lia
  ·exact wh m n _ _ (wE m i b) x h
def Cm(m:Nat):Nat->Nat->Nat->Nat×Nat
 |0,i,b=>(i,b)
 |n+1,i,b=>Cm m n (SetTable.leap m i b).1 (SetTable.leap m i b).2
theorem AH(m:Nat):∀n i b:Nat,(Cm m n i b).2=b/32^n
 |0,i,b=>by simp[Cm]
 |n+1,i,b=>by
  rw[Cm,AH m n];show b/32/32^n=_;rw[Nat.div_div_eq_div_mul,Nat.pow_succ,Nat.mul_comm]
theorem AL(m:Nat):∀n i b:Nat,i<=m->(Cm m n i b).1<=m
 |0,i,b,h=>h
 |n+1,i,b,h=>by rw[Cm];exact AL m n _ _ (wE m i b)
theorem pz(m:Nat):∀n k i b x:Nat,x∈ge m k (Cm m n i b).1 (Cm m n i b).2->x∈ge m (n+k) i b
 |0,k,i,b,x,h=>by rw[bN];exact h
 |n+1,k,i,b,x,h=>by
  rw[Cm]at h;rw[show n+1+k=(n+k)+1 by lia,ge];exact mA1 _ (pz m n k _ _ x h)
def wa(m:Nat):Nat->Nat->Nat
 |0,i=>i
 |n+1,i=>wa m n ((i*5+1)%(m+1))
def zy(m:Nat):Nat->Nat->List Nat
 |0,_=>[]
 |k+1,i=>i::zy m k ((i*5+1)%(m+1))
theorem wI{m j:Nat}:∀{k i:Nat},j∈zy m k i -> ∃n,n<k/\wa m n i=j
 |0,i,h=>by simp[zy]at h
 |k+1,i,h=>by
  rw[zy,aE]at h;rcases h with h|h
  ·exact⟨0,bM k,h.symm⟩
  ·obtain⟨n,a,e⟩:=wI h;exact⟨n+1,Nat.succ_lt_succ a,e⟩
theorem rB(m:Nat):∀a b i:Nat,wa m (a+b) i=wa m b (wa m a i)
 |0,b,i=>by rw[bN];rfl
 |a+1,b,i=>by rw[show a+1+b=(a+b)+1 by lia,wa,wa,rB m a b]
theorem rA(m:Nat):∀n k i:Nat,n<k->wa m n i∈ge m k i 0
 |0,k+1,i,_=>by rw[wa,ge];exact aG _ (List.mem_range'_1.mpr ⟨nR1 _,by lia⟩)
 |n+1,k+1,i,h=>by
  rw[wa,ge];refine mA1 _ ?_;have e:SetTable.leap m i 0=((i*5+1)%(m+1),0):=rfl;rw[e];exact rA m n k _ (Nat.lt_of_succ_lt_succ h)
def Ix(m:Nat):Bool:=((af (m+1)).all λj=>(zy m (m+1) 0).contains j)&&wa m (m+1) 0 == 0
theorem xE.orb{m:Nat}(h:xE m):Ix m=M:=by
 rcases h with rfl|rfl|rfl
 ·decide+kernel
 ·decide+kernel
 ·decide+kernel
theorem xE.full{m:Nat}(h:xE m){i j:Nat}(hi:i<=m)(g:j<=m):j∈ge m (m+2) i 0:=by
 have f:=h.orb;unfold Ix at f;rw[bA1,bA,beq_iff_eq]at f;have at_:∀x,x<=m -> ∃n,n<m+1/\wa m n 0=x:=λx d=>wI (by simpa using f.1 x (aB.mpr (Nat.lt_succ_of_le d)));obtain⟨a,k,c⟩:=at_ i hi;obtain⟨b,l,eb⟩:=at_ j g;rcases bT b a with z|z
 ·have e:wa m (b+(m+1)-a) i=j:=by
   rw[<- c,<- rB,show a+(b+(m+1)-a)=(m+1)+b by lia,rB,f.2,eb]
  rw[<- e];exact rA m _ _ i (by lia)
 ·have e:wa m (b-a) i=j:=by rw[<- c,<- rB,show a+(b-a)=b by lia,eb]
  rw[<- e];exact rA m _ _ i (by lia)
theorem D4(h:Int):SetTable.bits h<2^64:=by
 unfold SetTable.bits;have h1:=Int.emod_nonneg h (show(2^64:Int)≠0 by decide);have h2:=Int.emod_lt_of_pos h (show(0:Int)<2^64 by decide);have:((h%(2^64:Int)).toNat:Int)<2^64:=by rw[Int.toNat_of_nonneg h1];exact h2
 exact_mod_cast this
theorem vR{m:Nat}(hm:xE m)(h:Int){j:Nat}(a:j<=m):j∈mW m h:=by
 unfold mW SetTable.turns;rw[show m+15=13+(m+2) by lia];apply pz;rw[AH,Nat.div_eq_of_lt (bg (D4 h) (by decide))];have hi:=AL m 13 (SetTable.bits h%(m+1)) (SetTable.bits h) (by have:=Nat.mod_lt (SetTable.bits h) (bM m);lia);exact hm.full hi a
theorem vQ(m:Nat)(h:Int):(mW m h).length<=10*SetTable.turns m:=sX _ _ _ _
theorem yQ{m:Nat}(h:Int):∀x∈mW m h,x<=m:=wh _ _ _ _ (by have:=Nat.mod_lt (SetTable.bits h) (bM m);lia)
def KN(m:Nat)(p:SetTable.Probe):SetTable.Probe:=SetTable.advance {SetTable.fresh 0 0 M with mask:=m} p
def ju(m:Nat):SetTable.Probe->List Nat->Prop
 |_,[]=>True
 |p,x::L=>p.j=x/\p.dummy=Y/\ju m (KN m p) L
theorem nD(m i b:Nat)(L:List Nat)(h:ju m {j:=(SetTable.leap m i b).1,more:=SetTable.runEnd m (SetTable.leap m i b).1-(SetTable.leap m i b).1,i:=(SetTable.leap m i b).1,perturb:=(SetTable.leap m i b).2,dummy:=none} L):
  ∀more j:Nat,ju m {j,more,i,perturb:=b,dummy:=Y} (bm j (more+1)++L)
 |0,j=>by
  refine⟨O,O,?_⟩;exact h
 |more+1,j=>by
  rw[List.range'_succ];refine⟨O,O,?_⟩;exact nD m i b L h more (j+1)
theorem nC(m:Nat):∀n i b:Nat,ju m {j:=i,more:=SetTable.runEnd m i-i,i,perturb:=b,dummy:=Y} (ge m n i b)
 |0,_,_=>trivial
 |n+1,i,b=>by
  rw[ge];exact nD m i b _ (nC m n _ _) _ _
theorem xw(t:SetTable)(h:Int):ju t.mask (t.probeStart h) (mW t.mask h):=nC _ _ _ _
theorem oK{xs:Array Nat}(hr:vE xs){j:Nat}(f:j∈xs.toList):xs[SetTable.below xs j]?=Z j:=by
 have b:=uo hr j;obtain⟨k,a⟩:=bq f;rw[aT1]at a;have d:¬ k<SetTable.below xs j:=λz=>by have:=b.lo _ _ a z;lia
 have c:SetTable.below xs j<xs.size:=by have:=(Array.getElem?_eq_some_iff.mp a).1;lia
 have e:=aG1 c;have h1:=b.hi _ _ e (nR1 _);rcases bT (SetTable.below xs j) k with z|z
 ·have:=hr.lt z e a;lia
 ·have:k=SetTable.below xs j:=by lia
  rw[<- this];exact a
theorem qr{t:SetTable}(hr:vE t.place){j:Nat}(a:j∈t.place.toList):t.slot j = .live (SetTable.below t.place j):=by
 unfold SetTable.slot;dsimp only;rw[oK hr a];simp
theorem zr{t:SetTable}(hd:t.dummies = #[]){j:Nat}(a:j∉t.place.toList):t.slot j = .empty:=by
 unfold SetTable.slot;have:(t.place[SetTable.below t.place j]? == Z j)=J:=by
  rw[beq_eq_false_iff_ne];intro z;rw[<- aT1]at z;exact a (gM1 z)
 dsimp only;rw[this,tE hd];simp
theorem wN{t:SetTable}{f:Nat->Int}{h:Int}(hr:vE t.place)(hd:t.dummies = #[]):∀ (L:List Nat) (p:SetTable.Probe) (n:Nat),ju t.mask p L->L.length<=n->(∃ x∈L,x∉t.place.toList) ->
  ∃b x a,L=b++x::a/\(∀y∈b,y∈t.place.toList/\f (SetTable.below t.place y)≠h) /\
   ((x∉t.place.toList/\SetTable.probe.go t f h n p=Z (.empty x Y))\/(∃q,x∈t.place.toList/\f (SetTable.below t.place x)=h/\SetTable.probe.go t f h n p=Z (.candidate x (SetTable.below t.place x) q)/\ju t.mask q a))
 |[],p,n,_,_,d=>by obtain⟨x,d,_⟩:=d;cases d
 |x::L,p,0,_,hl,_=>by simp at hl
 |x :: L,p,n+1,j,hl,d=>by
  obtain⟨rfl,o,j⟩:=j;rw[SetTable.probe.go];by_cases c:p.j∈t.place.toList
  ·rw[qr hr c];dsimp only;by_cases i:f (SetTable.below t.place p.j)=h
   ·refine⟨[],p.j,L,O,(λy g=>by cases g),.inr ⟨t.advance p,c,i,?_,j⟩⟩;rw[i];simp
   ·have r:(f (SetTable.below t.place p.j) == h)=false:=beq_eq_false_iff_ne.mpr i;rw [r];obtain ⟨y,g,l⟩:=d;have k:∃ x∈L,x∉t.place.toList:=by
     rcases aE.mp g with e|e
     ·subst e;exact absurd c l
     ·exact⟨y,e,l⟩
    obtain⟨b,x,a,e,h1,h2⟩:=wN hr hd L (t.advance p) n j (by simpa using hl) k;refine⟨p.j::b,x,a,by rw[e];rfl,λz m=>?_,?_⟩
    ·rcases aE.mp m with e|e
     ·subst e;exact⟨c,i⟩
     ·exact h1 z e
    ·simpa using h2
  ·rw[zr hd c];refine⟨[],p.j,L,O,(λy g=>by cases g),.inl ⟨c,?_⟩⟩;rw[o]
theorem wD{α:Type}[DecidableEq α]:∀(l l':List α),l.Nodup->(∀x∈l,x∈l')->l.length<=l'.length
 |[],_,_,_=>bh _
 |x::l,l',hn,hs=>by
  obtain⟨h1,h2⟩:=aN.mp hn;have c:x∈l':=hs x (mS1);have:=wD l (l'.erase x) h2 λy b=>by
   have a:y≠x:=λz=>by subst z;exact h1 b
   exact(List.mem_erase_of_ne a).mpr (hs y (mC1 _ b))
  rw[List.length_erase_of_mem c]at this;have:=List.length_pos_of_mem c;rw[lC1];lia
theorem Cp{m:Nat}(occ:List Nat)(b:occ.length<=m):∃j,j<=m/\j∉occ:=by
 apply Classical.byContradiction;intro z;have:=wD (af (m+1)) occ List.nodup_range λx a=>Classical.byContradiction λq=>z ⟨x,by have:=aB.mp a;lia,q⟩;rw[cu]at this;lia
theorem xD.more{m:Nat}{occ a:List Nat}{h:Int}{j:Nat}(r:xD m occ h j)(k:∀x∈occ,x∈a):xD m a h j:=by
 obtain⟨c,b,e,f⟩:=r;exact⟨c,b,e,λy d=>k y (f y d)⟩
theorem sTT.fits{es:Array (Int×c8)}{t:SetTable}(h:sTT es t):t.fits es.size=M:=by
 unfold SetTable.fits SetTable.fill;rw[h.du,h.sz];have:=h.fl;simp;exact this
theorem BX{α β:Type}(a:Array α)(b:Array β)(p:Nat)(x:α)(y:β)(c:a.size=b.size):(SetTable.insertAt a p x).toList.zip (SetTable.insertAt b p y).toList=(a.toList.zip b.toList).take p++(x,y)::(a.toList.zip b.toList).drop p:=by
 rw[jH,jH,List.zip_append (by rw[aR,aR];simp[c]),bS];rw[show List.take p (a.toList.zip b.toList)=(a.toList.take p).zip (b.toList.take p) by simp only[List.zip_eq_zipWith,List.take_zipWith]];rw[show List.drop p (a.toList.zip b.toList)=(a.toList.drop p).zip (b.toList.drop p) by simp only[List.zip_eq_zipWith,List.drop_zipWith]]
theorem nh{α:Type}(a:Array α)(p:Nat)(x y:α):y∈(SetTable.insertAt a p x).toList↔y=x\/y∈a.toList:=by
 rw[jH,aF,aE];have:=cg p a.toList;constructor
 ·rintro(h|h|h)
  ·exact .inr (cv h)
  ·exact .inl h
  ·exact .inr (cx h)
 ·rintro(h|h)
  ·exact .inr (.inl h)
  ·rw[<- this,aF]at h;rcases h with h|h
   ·exact .inl h
   ·exact .inr (.inr h)
theorem hE{α:Type}(a:Array α)(p:Nat)(x:α):(SetTable.insertAt a p x).size=a.size+1:=by
 rw[<- aI,jH,lA1,lC1,<- bj,<- lA1,cg,aI]
theorem sTT.put{es:Array (Int×c8)}{t:SetTable}(h:sTT es t){j:Nat}{e:Int×c8}(g:j<=t.mask)(hn:j∉t.place.toList)(hr:xD t.mask t.place.toList e.1 j)(hs:es.size+1<=t.mask):sTT (SetTable.insertAt es (t.put j).2 e) (t.put j).1:=by
 have f:(t.put j).1.mask=t.mask:=rfl;have d:(t.put j).1.place=SetTable.insertAt t.place (SetTable.below t.place j) j:=rfl;refine⟨h.mks,?_,?_,?_,?_,?_,?_⟩
 ·rw[d];exact Cq h.up λz=>hn (by rw[<- aT1]at z;exact gM1 z)
 ·show(if SetTable.has t.dummies j=M then _ else t.dummies) = #[];rw[tE h.du,aj (by decide)];exact h.du
 ·rw[d,hE,hE,h.sz]
 ·intro x b;rw[d,nh]at b;rcases b with rfl|b
  ·exact g
  ·exact h.le x b
 ·rw[hE,f];exact hs
 ·rw[d,f];show∀z∈(SetTable.insertAt t.place (SetTable.below t.place j) j).toList.zip (SetTable.insertAt es (SetTable.below t.place j) e).toList,_;rw[BX _ _ _ _ _ h.sz];have a:∀x∈t.place.toList,x∈(SetTable.insertAt t.place (SetTable.below t.place j) j).toList:=λx b=>(nh _ _ _ _).mpr (.inr b);intro z c;rw[aF,aE]at c;rcases c with c|rfl|c
  ·exact(h.rc z (cv c)).more a
  ·exact hr.more a
  ·exact(h.rc z (cx c)).more a
theorem sTT.fresh(l:Bool):sTT #[] (SetTable.fresh 0 0 l):=⟨.inl O,.nil,O,O,(λj h=>by simp[SetTable.fresh]at h),bh _,λz h=>by simp[SetTable.fresh]at h⟩
theorem wS(m:Nat)(a:Array (Option Nat)):∀n i b:Nat,SetTable.layClean.free m a n i b=(ge m n i b).find? λj=>(a.getD j (Z 0)).isNone
 |0,i,b=>by rw[SetTable.layClean.free,ge];rfl
 |n+1,i,b=>by
  rw[SetTable.layClean.free,ge,List.find?_append,List.range'_eq_map_range,List.find?_map];rw[show SetTable.runEnd m i+1-i=SetTable.runEnd m i-i+1 by have:=zz m i;lia];show(match List.find? (λk=>(a.getD (i+k) (Z 0)).isNone) (af (SetTable.runEnd m i-i+1))with
   |some k=>Z (i+k)
   |none=>_)=(Option.map (λk=>i+k) (List.find? (λk=>(a.getD (i+k) (Z 0)).isNone) (af (SetTable.runEnd m i-i+1)))).or _
  cases List.find? (λk=>(a.getD (i+k) (Z 0)).isNone) (af (SetTable.runEnd m i-i+1))with
  |some k=>rfl
  |none=>exact wS m a n _ _
structure sLO (m:Nat)(hs:List Int)(ow:Array (Option Nat)):Prop where
 sz:ow.size=m+1
 ct:ow.toList.countP (·.isSome)=hs.length
 all:∀q:Nat,q<hs.length -> ∃j:Nat,ow[j]?=some (some q)
 rc:∀j q:Nat,ow[j]?=some (some q) -> ∃h,hs[q]?=some h /\ ∃pre post,mW m h=pre++j::post /\ ∀y∈pre,∃q':Nat,ow[y]?=some (some q')
theorem pW(k:Nat):∀(l:List (Option Nat)) (j:Nat),l[j]?=Z Y->(l.set j (Z k)).countP (·.isSome)=l.countP (·.isSome)+1
 |[],j,h=>by simp at h
 |x::l,0,h=>by
  have:x=Y:=by simpa using h
  subst this;simp
 |x::l,j+1,h=>by
  rw[cy,List.countP_cons,List.countP_cons,pW k l j (by simpa using h)];lia
theorem Dj{m:Nat}{hs:List Int}{b:Array (Option Nat)}(hm:xE m)(h:sLO m hs b)(ao:hs.length<=m)(x:Int):
  ∃j,SetTable.layClean.free m b (SetTable.turns m) (SetTable.bits x%(m+1)) (SetTable.bits x)=Z j/\sLO m (hs++[x]) (b.setIfInBounds j (Z hs.length)):=by
 rw[wS];show∃j,(mW m x).find? _=Z j/\_;have I:∃j:Nat,b[j]?=Z Y:=by
  apply Classical.byContradiction;intro z;have:b.toList.countP (·.isSome)=b.toList.length:=List.countP_eq_length.mpr λa G=>by
   obtain⟨j,w⟩:=bq G;cases a with
   |some q=>rfl
   |none=>exact absurd ⟨j,by rw[<- aT1];exact w⟩ z
  rw[h.ct,show b.toList.length=b.size from rfl,h.sz]at this;lia
 obtain⟨u,B⟩:=I;have p:u<=m:=by have:=(Array.getElem?_eq_some_iff.mp B).1;rw[h.sz]at this;lia
 cases hf:(mW m x).find? λj=>(b.getD j (Z 0)).isNone with
 |none=>
  exfalso;have:=List.find?_eq_none.mp hf u (vR hm x p);rw[cA,B]at this;simp at this
 |some j=>
  obtain⟨r,s,k,e,D⟩:=List.find?_eq_some_iff_append.mp hf;have C:=yQ (m:=m) x;have w:j<=m:=C j (by rw[e];simp);have f:j<b.size:=by rw[h.sz];lia
  have at_:∀y,y<=m->(b.getD y (Z 0)).isNone=J -> ∃q,b[y]?=Z (Z q):=λy g n=>by
   have l:y<b.size:=by rw[h.sz];lia
   rw[cA,aG1 l]at n;rw[aG1 l];cases hc:b[y]with
   |none=>rw[hc]at n;cases n
   |some q=>exact⟨q,O⟩
  have v:b[j]?=Z Y:=by
   rw[cA,aG1 f]at r;rw[aG1 f];cases hc:b[j]with
   |none=>rfl
   |some q=>rw[hc]at r;cases r
  have keep:∀y q,b[y]?=Z (Z q)->(b.setIfInBounds j (Z hs.length))[y]?=Z (Z q):=λy q c=>by
   have:j≠y:=λz=>by subst z;rw[v]at c;cases c
   rw[Array.getElem?_setIfInBounds_ne this];exact c
  have new:(b.setIfInBounds j (Z hs.length))[j]?=Z (Z hs.length):=by
   rw[Array.getElem?_setIfInBounds_self_of_lt f]
  refine⟨j,O,?_,?_,?_,?_⟩
  ·rw[Array.size_setIfInBounds];exact h.sz
  ·rw[Array.toList_setIfInBounds,pW _ _ _ (by rw[aT1];exact v),h.ct];simp
  ·intro q n;rw[lA1,aY]at n;rcases bT q hs.length with z|z
   ·obtain⟨y,c⟩:=h.all q z;exact⟨y,keep y q c⟩
   ·have:q=hs.length:=by lia
    subst this;exact⟨j,new⟩
  ·intro y q c;by_cases g:j=y
   ·subst g;rw[new]at c;cases c;refine⟨x,by simp,s,k,e,λy g=>?_⟩;obtain⟨q,eq⟩:=at_ y (C y (by rw[e];simp[g])) (by have:=D y g;simpa using this);exact⟨q,keep y q eq⟩
   ·rw[Array.getElem?_setIfInBounds_ne g]at c;obtain⟨h',A,i,d,H,F⟩:=h.rc y q c;refine⟨h',?_,i,d,H,λz E=>?_⟩
    ·rw[gL1 (gE1.mp A).1];exact A
    ·obtain⟨t,o⟩:=F z E;exact⟨t,keep z t o⟩
def wb(m:Nat)(acc:Option (Array (Option Nat)×Nat))(h:Int):Option (Array (Option Nat)×Nat):=do
 let (owner,k)<-acc
 let j<-SetTable.layClean.free m owner (SetTable.turns m) (SetTable.bits h%(m+1)) (SetTable.bits h)
 pure (owner.setIfInBounds j (Z k),k+1)
theorem wB{m:Nat}(hm:xE m):∀(rest hs:List Int) (b:Array (Option Nat)),sLO m hs b->hs.length+rest.length<=m+1 -> ∃a,rest.foldl (wb m) (Z (b,hs.length))=Z (a,hs.length+rest.length)/\sLO m (hs++rest) a
 |[],hs,b,h,_=>⟨b,O,by rw[aM];exact h⟩
 |x::rest,hs,b,h,hl=>by
  rw[lC1]at hl;obtain⟨j,e,h'⟩:=Dj hm h (by lia) x;obtain⟨a,d,c⟩:=wB hm rest (hs++[x]) _ h' (by rw[lA1,aY];lia);refine⟨a,?_,by rw[bF]at c;exact c⟩;rw[b6];have:wb m (Z (b,hs.length)) x=Z (b.setIfInBounds j (Z hs.length),(hs++[x]).length):=by
   show(SetTable.layClean.free m b (SetTable.turns m) (SetTable.bits x%(m+1)) (SetTable.bits x) >>= λj=>_)=_;rw[e,lA1,aY];rfl
  rw[this,d,lA1,aY,lC1]
  congr 2;lia
theorem GV{m:Nat}(hm:xE m)(hs:Array Int)(b:hs.size<=m+1):∃ow,SetTable.layClean m hs=Z ow/\sLO m hs.toList ow:=by
 have d:sLO m [] (Array.replicate (m+1) Y):=by
  refine⟨Array.size_replicate,?_,(λq h=>absurd h (bv _)),λj q h=>?_⟩
  ·rw[Array.toList_replicate,bb,List.countP_eq_zero];intro a c;rw[(bC.mp c).2];simp
  ·exfalso;rw[Array.getElem?_replicate]at h;split at h<;>simp at h
 obtain⟨ow,e,h⟩:=wB hm hs.toList [] _ d (by simpa using b);refine⟨ow,?_,by simpa using h⟩;unfold SetTable.layClean;rw[<- Array.foldl_toList];show Option.map _ (List.foldl (wb m) (Z (Array.replicate (m+1) Y,0)) hs.toList)=_;have e:List.foldl (wb m) (Z (Array.replicate (m+1) Y,0)) hs.toList=_:=e;rw[e];rfl
theorem tZ{α β:Type}(f:α->Option β)(g:α->β):∀l:List α,(∀a∈l,f a=Z (g a))->l.filterMap f=l.map g
 |[],_=>rfl
 |a::l,h=>by
  rw[aD,h a mS1];dsimp only;rw[mP1,tZ f g l λb c=>h b (mC1 _ c)]
theorem vJ{α β γ:Type}(f:α->β)(g:α->γ):∀l:List α,(l.map f).zip (l.map g)=l.map λa=>(f a,g a)
 |[]=>rfl
 |a::l=>by rw[mP1,mP1,bS,vJ f g l];rfl
theorem kF{α β:Type}{f g:α->Option β}:∀l:List α,(∀a∈l,f a=g a)->l.filterMap f=l.filterMap g
 |[],_=>rfl
 |a::l,h=>by rw[aD,aD,h a mS1,kF l λb c=>h b (mC1 _ c)]
theorem tN:∀(l:List (Option Nat)) (s:Nat),((bm s l.length).filterMap λj=>(l.getD (j-s) Y).map (j,·)).length=l.countP (·.isSome)
 |[],s=>rfl
 |x::l,s=>by
  rw[lC1,List.range'_succ,aD,List.countP_cons];have ih:=tN l (s+1);have e:(List.filterMap (λj=>Option.map (λx=>(j,x)) ((x::l).getD (j-s) Y)) (bm (s+1) l.length))=List.filterMap (λj=>(l.getD (j-(s+1)) Y).map (j,·)) (bm (s+1) l.length):=by
   refine kF _ λj a=>?_;rw[List.mem_range'_1]at a;rw[show j-s=(j-(s+1))+1 by lia];rfl
  rw[e,cB];cases x with
  |none=>simpa using ih
  |some q=>simpa using ih
theorem Dq{m fi mo:Nat}{l p:Bool}(hm:xE m){es:Array (Int×c8)}(G:es.size<=m):∃u b,SetTable.laid m fi mo l p (es.map (·.1))=Z (u,b)/\(b.filterMap (es[·]?)).size=es.size/\sTT (b.filterMap (es[·]?)) u/\(∀e,e∈(b.filterMap (es[·]?)).toList↔e∈es.toList)/\u.led=l/\u.mask=m:=by
 obtain⟨g,e,h⟩:=GV hm (es.map (·.1)) (by rw[cf];lia);have c:(es.map (·.1)).toList.length=es.size:=by simp
 generalize s:(af (m+1)).filterMap (λj=>(g.getD j Y).map (j,·))=a;refine⟨{mask:=m,place:=(a.map (·.1)).toArray,dummies:= #[],finger:=fi,led:=l,moves:=mo,plain:=p},(a.map (·.2)).toArray,?_,?_⟩
 ·unfold SetTable.laid;rw[e,<- s];rfl
 have mem:∀j q,(j,q)∈a↔g[j]?=Z (Z q):=λj q=>by
  rw[<- s,aL];constructor
  ·rintro⟨ao,o,e⟩;obtain⟨A,eq,e⟩:=oM1.mp e;cases e;rw[aB]at o;have n:j<g.size:=by rw[h.sz];exact o
   rw[cA,aG1 n]at eq;rw[aG1 n];have:g[j]=Z q:=by simpa using eq
   rw[this]
  ·intro e;have n:=(Array.getElem?_eq_some_iff.mp e).1;refine⟨j,aB.mpr (by rw[h.sz]at n;exact n),?_⟩;rw[cA,e];rfl
 have lt:∀z∈a,z.2<es.size:=λz f=>by
  obtain⟨h',t,_⟩:=h.rc z.1 z.2 ((mem _ _).mp f);have:=(gE1.mp t).1;rw[c]at this;exact this
 have C:a.length=es.size:=by
  have:=tN g.toList 0;rw[show g.toList.length=g.size from rfl,h.sz,h.ct,c]at this;rw[<- this,<- s,List.range_eq_range']
  congr 1
  refine kF _ λj _=>?_;simp[cA]
 have i:((a.map (·.2)).toArray.filterMap (es[·]?)).toList=a.map λz=>(es[z.2]?).getD (0,.none):=by
  rw[Array.toList_filterMap];rw[aU];exact tZ _ _ _ λz f=>by
   show es[z.2]?=_;rw[aG1 (lt z f)];rfl
 have sz:((a.map (·.2)).toArray.filterMap (es[·]?)).size=es.size:=by rw[<- aI,i,lM1,C]
 refine⟨sz,⟨hm,?_,O,?_,?_,?_,?_⟩,λe=>?_,O,O⟩
 ·unfold vE;rw[<- s];exact List.pairwise_lt_range.sublist (by simpa using rR (λj=>g.getD j Y) (af (m+1)))
 ·rw[sz,sT1,lM1,C]
 ·intro j r;simp only[cc]at r;obtain⟨z,f,rfl⟩:=r;have:=(Array.getElem?_eq_some_iff.mp ((mem z.1 z.2).mp f)).1;rw[h.sz]at this;show _<=m;lia
 ·rw[sz];exact G
 ·rw [i];show ∀ z∈(a.map (·.1)).zip _,xD m (a.map (·.1)) _ _;rw [vJ];intro z f;obtain ⟨y,B,rfl⟩:=cc.mp f;obtain ⟨h',t,v,k,D,I⟩:=h.rc y.1 y.2 ((mem _ _).mp B);have:((es[y.2]?).getD (0,.none)).1=h':=by
   have d:=lt y B;rw[Array.toList_map,gP1,aT1,aG1 d]at t;rw[aG1 d];simpa using t
  rw[this];exact⟨v,k,D,λx F=>by obtain⟨A,E⟩:=I x F;exact cc.mpr ⟨(x,A),(mem _ _).mpr E,O⟩⟩
 ·rw[i,cc];constructor
  ·rintro⟨z,f,rfl⟩;rw[aG1 (lt z f)];simp
  ·intro H;obtain⟨q,w⟩:=bq H;rw[aT1]at w;have d:=(Array.getElem?_eq_some_iff.mp w).1;obtain⟨j,r⟩:=h.all q (by rw[c];exact d);exact⟨(j,q),(mem _ _).mpr r,by rw[w];rfl⟩
theorem Hd{prog:db}{w:df}:∀(n:Nat) {k:TK} {A:de} {E:c8->c9->Prop} {s:c9} {v:c8} {Q:Bool->c9->Prop},k.dep<=n->eV s.heap k v->Q M s->dj (model prog w) A (hashByValue n v) Q E s:=by
 intro n
 induction n with
 |zero=>
  intro k A E s v Q d r h;cases r with
  |non=>exact wP1 h
  |int i t=>exact wP1 h
  |tup _ _ _ _=>simp[TK.dep]at d
 |succ n ih=>
  intro k A E s v Q d r h;cases r with
  |non=>exact wP1 h
  |int i t=>exact wP1 h
  | @tup a o b m xs f p u l=>
   have z:s.TypeIs (.ref a) "tuple":=⟨o,f,p⟩;rw[TK.dep]at d;unfold hashByValue;refine wB1 (wpAny_specialOf z F.slot_tuple_hash.lookup ?_);show dj _ _ (seqItems? (.ref a) >>= _) _ _ s;refine wB1 (wpAny_seqItems f u ?_);refine wB1 ?_;show dj _ _ (forIn b _ _) _ _ s;rw[<- bW];refine wpAny_forIn_list _ (λrest r s'=>r.1=Y/\s'=s /\ ∃ks,fc s.heap ks rest/\TK.depAll ks<=n) _ ?_ ?_ _ _ ⟨O,O,xs,l,by lia⟩
   ·rintro v rest r s' ⟨c,rfl,ks,x,q⟩;cases x with
    | @cons j _ e _ g y=>
     rw[TK.depAll]at q;refine wB1 (ih (k:=j) (by lia) g ?_);simp only[b0,bF1,if_false];exact wP1 ⟨O,O,e,y,by lia⟩
   ·rintro⟨B,r2⟩ s' ⟨c,rfl,_⟩;simp only at c;subst c;exact wP1 h
theorem Bn{prog:db}{w:df}:∀(n:Nat) {k:TK} {A:de} {E:c8->c9->Prop} {s:c9} {v:c8} {Q:Bool->c9->Prop},k.dep<=n->eV s.heap k v->Q J s->dj (model prog w) A (ofAClassStatement n v) Q E s:=by
 intro n
 induction n with
 |zero=>
  intro k A E s v Q d r h;cases r with
  |non=>exact wP1 h
  |int i t=>exact wP1 h
  |tup _ _ _ _=>simp[TK.dep]at d
 |succ n ih=>
  intro k A E s v Q d r h;cases r with
  |non=>exact wP1 h
  |int i t=>exact wP1 h
  | @tup a o b m xs f p u l=>
   have z:s.TypeIs (.ref a) "tuple":=⟨o,f,p⟩;rw[TK.dep]at d;unfold ofAClassStatement;refine wB1 (wpAny_typeOf z ?_);show dj _ _ (pure M >>= _) _ _ s;refine wB1 (wP1 ?_);simp only[b0,bF1,if_false];refine wB1 (wpAny_seqItems f u ?_);refine wB1 ?_;show dj _ _ (forIn b _ _) _ _ s;rw[<- bW];refine wpAny_forIn_list _ (λrest r s'=>r.1=Y/\s'=s /\ ∃ks,fc s.heap ks rest/\TK.depAll ks<=n) _ ?_ ?_ _ _ ⟨O,O,xs,l,by lia⟩
   ·rintro v rest r s' ⟨c,rfl,ks,x,q⟩;cases x with
    | @cons j _ e _ g y=>
     rw[TK.depAll]at q;refine wB1 (ih (k:=j) (by lia) g ?_);simp only[bF1,if_false];exact wP1 ⟨O,O,e,y,by lia⟩
   ·rintro⟨B,r2⟩ s' ⟨c,rfl,_⟩;simp only at c;subst c;exact wP1 h
def Cn(h:dk)(k:TK)(e:Int×c8):Prop:=∃a,e=(k.hash,.ref a)/\eV h k (.ref a)/\k.dep<=8
section
variable{prog:db}{w:df}{A:de}{E:c8->c9->Prop}{s:c9}
theorem Ck{k:TK}{x:da}{Q:Bool->c9->Prop}(hk:eV s.heap k (.ref x))(hd:k.dep<=8)(l:List c8)(he:∀v∈l,∃b a,v = .ref a/\eV s.heap b (.ref a)/\b.dep<=8)(h:Q J s):dj (model prog w) A (searchCouldBeSeen (.ref x) l) Q E s:=by
 unfold searchCouldBeSeen;refine wB1 ?_;refine wpAny_forIn_list _ (λrest r s'=>r.1=Y/\s'=s /\ ∀v∈rest,∃b a,v = .ref a/\eV s.heap b (.ref a)/\b.dep<=8) _ ?_ ?_ _ _ ⟨O,O,he⟩
 ·rintro v rest r s' ⟨c,rfl,e⟩;obtain⟨b,a,rfl,h1,h2⟩:=e v mS1;have tl:∀v∈rest,∃b a,v=Value.ref a/\eV s'.heap b (.ref a)/\b.dep<=8:=λv h=>e v (mC1 _ h);dsimp only;by_cases d:(x == a)=M
  ·rw[d];exact wP1 ⟨O,O,tl⟩
  ·rw[cC]at d;rw[d];show dj _ _ (eqIsQuiet 8 (.ref x) >>= _) _ _ _;refine wB1 (nS 8 hd hk ?_);refine wB1 (nS 8 h2 h1 ?_);refine wB1 (Bn 8 hd hk ?_);refine wB1 (Bn 8 h2 h1 ?_);exact wP1 ⟨O,O,tl⟩
 ·rintro⟨f,r2⟩ s' ⟨c,rfl,_⟩;simp only at c;subst c;exact wP1 h
theorem pT{α:Type}{occ:List α}{a c:α}(hc:c∉occ)(ha:a∈occ):∀{b d B D:List α},(∀y∈d,y∈occ)->d++a::B=b++c::D->a∈b
 |[],[],B,D,_,e=>by
  simp at e;obtain⟨rfl,_⟩:=e;exact absurd ha hc
 |[],z::d,B,D,h,e=>by
  simp at e;obtain⟨rfl,_⟩:=e;exact absurd (h z mS1) hc
 |z::b,[],B,D,_,e=>by
  simp at e;obtain⟨rfl,_⟩:=e;exact mS1
 |z::b,z'::d,B,D,h,e=>by
  simp at e;exact mC1 _ (pT hc ha (λy f=>h y (mC1 _ f)) e.2)
theorem Bv{xs:Array Nat}(hr:vE xs){i j:Nat}(h:xs[i]?=Z j):SetTable.below xs j=i:=by
 have e:=oK hr (gM1 (by rw[aT1];exact h));rcases cD (SetTable.below xs j) i with z|z|z
 ·have:=hr.lt z e h;lia
 ·exact z
 ·have:=hr.lt z h e;lia
theorem Gh{m:Nat}(h:xE m):(m%2 == 0)=J:=by rcases h with rfl|rfl|rfl<;>rfl
theorem KM(au:Bool){a:da}{es:Array (Int×c8)}{ep:Nat}{t:SetTable}{k:TK}{x:da}(hu:A.units+8<cLine)(ho:s.heap.get? a=some (stO es ep t))(ht:sTT es t)(he:∀ e∈es.toList,∃ k',Cn s.heap k' e)(hk:eV s.heap k (.ref x))(hd:k.dep<=8){Q:SetFound->c9->Prop}(q1:(∃e∈es.toList,Cn s.heap k e) -> ∀i,Q (.there (if au=true then none else some i)) s)(q2:∀j p m,mW t.mask k.hash=p++j::m->(∀y∈p,y∈t.place.toList)->j∉t.place.toList->(∀e∈es.toList,¬ Cn s.heap k e)->Q (.free j false) s):
  ∀(n:Nat) (L c:List Nat) (b:Option SetTable.Probe),mW t.mask k.hash=c++L->ju t.mask (b.getD (t.probeStart k.hash)) L->L.length<n->(∀y∈c,y∈t.place.toList /\ ∀e,es[SetTable.below t.place y]?=Z e -> ¬ Cn s.heap k e)->dj (model prog w) A (setSearchFrom a (.ref x) k.hash au n b) Q E s:=by
 have hf:=ht.fits;have U:t.place.toList.length<=t.mask:=by rw[aI,ht.sz];exact ht.fl
 intro n
 induction n with
 |zero=>intro L _ _ _ _ h;exact absurd h (bv _)
 |succ n ih=>
  intro L c b S hs hl W;have hx:∃y∈L,y∉t.place.toList:=by
   obtain⟨j,hj,P⟩:=Cp t.place.toList U;have:=vR ht.mks k.hash hj;rw[S,aF]at this;rcases this with z|z
   ·exact absurd (W j z).1 P
   ·exact⟨j,z,P⟩
  have hL:L.length<=10*SetTable.turns t.mask:=by
   have:=vQ t.mask k.hash;rw[S,lA1]at this;lia
  obtain⟨p,y,m,e,h1,h2⟩:=wN (f:=λi=>(es[i]?.map (·.1)).getD 0) (h:=k.hash) ht.up ht.du L _ _ hs hL hx;unfold setSearchFrom;refine wB1 (wpAny_setState_of ho O hf ?_);dsimp only;rw[show t.gaveWay=J from Gh ht.mks];simp only[bF1,if_false];rcases h2 with⟨P,hg⟩|⟨q,V,hh,hg,hq⟩
  ·generalize H:SetTable.probe t _ k.hash (b.getD (t.probeStart k.hash))=met;have H:=H.symm.trans hg;subst H;refine wP1 (q2 y (c++p) m (by rw[S,e,bF]) (λz R=>?_) P λe' he' g=>?_)
   ·rcases aF.mp R with u|u
    ·exact(W z u).1
    ·exact(h1 z u).1
   ·obtain⟨i,hi⟩:=bq he';have ao:es[i]?=Z e':=by rw[<- aT1];exact hi
    have aq:=(Array.getElem?_eq_some_iff.mp ao).1;have hpi:i<t.place.size:=by rw[ht.sz];exact aq
    have G:=aG1 hpi;have R:(t.place[i],e')∈t.place.toList.zip es.toList:=by
     refine gM1 (i:=i) ?_;rw[List.getElem?_zip_eq_some];exact⟨by rw[aT1];exact G,hi⟩
    obtain⟨N,T,_⟩:=id g;obtain⟨pre1,post1,C,f1⟩:=ht.rc _ R;dsimp only at C;rw[show e'.1=k.hash from by rw[T],S,e,<- bF]at C;have hm:=pT (occ:=t.place.toList) P (gM1 (by rw[aT1];exact G)) f1 C.symm;have ar:=Bv ht.up G;rcases aF.mp hm with u|u
    ·exact(W _ u).2 e' (by rw[ar];exact ao) g
    ·refine(h1 _ u).2 ?_;rw[ar,ao,T];rfl
  ·generalize H:SetTable.probe t _ k.hash (b.getD (t.probeStart k.hash))=met;have H:=H.symm.trans hg;subst H;have ar:=oK ht.up V;have aq:SetTable.below t.place y<es.size:=by rw[<- ht.sz];exact(Array.getElem?_eq_some_iff.mp ar).1
   have l:=aG1 aq;generalize es[SetTable.below t.place y]=e0 at l;have D:e0∈es.toList:=gM1 (by rw [aT1];exact l);obtain ⟨k',N,rfl,g,F⟩:=he e0 D;dsimp only;have B:dj (model prog w) A (do
     let equal<-holding [Value.ref N] (eqBool (Value.ref N) (.ref x))
     let (es',_,t')<-setState a
     if(au&&equal)=M then return SetFound.there Y
     let Z same:=t'.sameMemory t.moves t.mask|unsupported "set.changed-during-lookup:is-the-new-block-at-the-old-address"
     let still<-match (if same=M then t'.slot y else .empty)with
      | .live wq=>match es'[wq]? with
       |some (_,y')=>do pure (if(<- isSame y' (.ref N))=M then Z wq else Y)
       |none=>pure Y
      |_=>pure Y
     match still with
     |none=>do rule "set.search.anew";setSearchFrom a (.ref x) k.hash au n Y
     |some wq=>if equal=M then return .there (Z wq)else setSearchFrom a (.ref x) k.hash au n (Z q)) Q E s:=by
    refine wB1 (wpAny_holding (EM 8 F hu g hk _ _ _ _ ?_));refine wB1 (wpAny_setState_of ho O hf ?_);dsimp only;by_cases I:k'=k
    ·subst I;rw[ah O];cases au with
     |true=>exact wP1 (q1 ⟨_,D,N,O,g,F⟩ 0)
     |false=>
      simp only[aK,bF1,if_false];rw[show t.sameMemory t.moves t.mask=Z M from by unfold SetTable.sameMemory;simp];dsimp only;rw[ak O,qr ht.up V];dsimp only;rw[l];dsimp only;refine wB1 ?_;refine wpAny_of_eq (a:=M) (by unfold isSame;simp) ?_;rw[ak O];refine wB1 (wP1 ?_);exact wP1 (q1 ⟨_,D,N,O,g,F⟩ _)
    ·rw[ai I];simp only[bZ,bF1,if_false];rw[show t.sameMemory t.moves t.mask=Z M from by unfold SetTable.sameMemory;simp];dsimp only;rw[ak O,qr ht.up V];dsimp only;rw[l];dsimp only;refine wB1 ?_;refine wpAny_of_eq (a:=M) (by unfold isSame;simp) ?_;rw[ak O];refine wB1 (wP1 ?_);dsimp only;refine ih m (c++p++[y]) (Z q) ?_ hq ?_ λz R=>?_
     ·rw[S,e];simp
     ·rw[e]at hl;simp at hl;lia
     ·rcases aF.mp R with u|u
      ·rcases aF.mp u with X|X
       ·exact W z X
       ·refine⟨(h1 z X).1,λC d K=>(h1 z X).2 ?_⟩;obtain⟨a1,rfl,_⟩:=K;rw[d];rfl
      ·have:z=y:=by simpa using u
       subst this;refine⟨V,λC d K=>I ?_⟩;rw[l]at d;obtain⟨a1,r,hi1,_⟩:=K;cases d;injection r with _ r;injection r with r;subst r;exact g.inj hi1
   by_cases o:t.led=M
   ·rw[o];simp only[b0,bF1,if_false];rw[l];exact B
   ·rw[cC]at o;rw[o];simp only[cr,if_true];refine wB1 (Ck hk hd _ (λv hv=>?_) ?_)
    ·obtain⟨C,d,rfl⟩:=cc.mp hv;rw[Array.toList_filter]at d;obtain⟨k1,a1,rfl,g1,g2⟩:=he C ((aA.mp d).1);exact⟨k1,a1,O,g1,g2⟩
    ·simp only[bF1,if_false];rw[l];exact B
end
theorem eV.keepsS{h h':dk}{p:da}{es:Array (Int×c8)}{ep:Nat}{t:SetTable}(ho:h.get? p=some (stO es ep t))(hs:∀ a o,a≠p->h.get? a=some o->h'.get? a=some o):∀ {k:TK} {v:c8},eV h k v->eV h' k v:=fun f=>f.rec (motive_1:=fun k v _=>eV h' k v) (motive_2:=fun k v _=>fc h' k v) .non .int
  (λ{a} _ _ _ _ d e c _ ih=>.tup (hs a _ (λz=>by subst z;rw[d]at ho;cases ho;cases c) d) e c ih) .nil (λ_ _ a b=>.cons a b)
theorem eV.grows{h h':dk}(hs:∀ a o,h.get? a=some o->h'.get? a=some o):∀ {k:TK} {v:c8},eV h k v->eV h' k v:=fun e=>e.rec (motive_1:=fun k v _=>eV h' k v) (motive_2:=fun k v _=>fc h' k v) .non .int
  (λ{a} _ _ _ _ f c d _ ih=>.tup (hs a _ f) c d ih) .nil (λ_ _ a b=>.cons a b)
def j9(ks:List TK)(k:TK):List TK:=if k∈ks then ks else ks++[k]
def ddK(ks:List TK):List TK:=ks.foldl j9 []
theorem Bg(ks:List TK)(k:TK):(j9 ks k).length<=ks.length+1:=by unfold j9;split<;>simp
theorem md:∀(ns a:List TK),(ns.foldl j9 a).length<=a.length+ns.length
 |[],a=>by simp
 |n::ns,a=>by
  rw[b6];have h1:=md ns (j9 a n);have h2:=Bg a n;rw[lC1];lia
theorem Cn.keep{h h':dk}{p:da}{es:Array (Int×c8)}{ep:Nat}{t:SetTable}(ho:h.get? p=Z (stO es ep t))(hs:∀a o,a≠p->h.get? a=Z o->h'.get? a=Z o){k:TK}{e:Int×c8}(x:Cn h k e):Cn h' k e:=by
 obtain⟨a,d,c,b⟩:=x;exact⟨a,d,c.keepsS ho hs,b⟩
theorem rQ{es:Array (Int×c8)}{t:SetTable}(h:sTT es t):t.tooFull=decide (es.size*5>=t.mask*3):=by
 unfold SetTable.tooFull SetTable.fill;rw[h.du,h.sz];rfl
def vG(h:dk)(xs:List (TK×da×c8)):Prop:=∀z∈xs,eV h z.1 (.ref z.2.1)/\z.1.dep<=8
theorem vG.el{h:dk}{xs:List (TK×da×c8)}{es:Array (Int×c8)}(c:vG h xs)(a:∀e∈es.toList,∃z∈xs,e=(z.1.hash,.ref z.2.1)):∀e∈es.toList,∃d,Cn h d e:=λe f=>by
 obtain⟨z,b,rfl⟩:=a e f;exact⟨z.1,z.2.1,O,(c z b).1,(c z b).2⟩
theorem vG.found{h:dk}{xs:List (TK×da×c8)}{es:Array (Int×c8)}{k:TK}(g:vG h xs)(i:∀e∈es.toList,∃z∈xs,e=(z.1.hash,.ref z.2.1))(d:∀z∈xs,(z.1.hash,Value.ref z.2.1)∈es.toList):(∃e∈es.toList,Cn h k e)↔k∈xs.map (·.1):=by
 constructor
 ·rintro⟨e,j,a,l,f,_⟩;obtain⟨z,c,b⟩:=i e j;rw[l]at b;injection b with _ b;injection b with b;refine cc.mpr ⟨z,c,?_⟩;have:=(g z c).1;rw[<- b]at this;exact this.inj f
 ·intro f;obtain⟨z,c,rfl⟩:=cc.mp f;exact⟨_,d z c,z.2.1,O,(g z c).1,(g z c).2⟩
section
variable{P:db}{w:df}{A:de}{E:c8->c9->Prop}{s:c9}{p:da}{xs:List (TK×da×c8)}
theorem y3{m:Nat}(h:xE m):SetTable.turns m<=142:=by unfold SetTable.turns;rcases h with z|z|z<;>rw[z]<;>decide
def lM(xs:List (TK×da×c8))(k:TK)(x:da):List (TK×da×c8):=if k∈xs.map (·.1)then xs else xs++[(k,x,.none)]
theorem Lp{k:TK}{x:da}{Q:Bool->c9->Prop}(hu:A.units+8<cLine)(hS:uv p xs s.heap)(S:vG s.heap xs)(hb:xs.length<76)(hk:eV s.heap k (.ref x))(hd:k.dep<=8)(q:∀c h',Heap.SameBut p s.heap h'->uv p (lM xs k x) h'->Q c {s with heap:=h'}):dj (model P w) A (setAddHashed p (.ref x) k.hash) Q E s:=by
 obtain⟨nd,es,ep,t,L,v,I,g,D,R⟩:=id hS;have hf:=v.fits;unfold setAddHashed setAddHashedIn;refine wpAny_holding (wB1 (wpAny_setState_of L O hf ?_));dsimp only;rw[show byScan (Value.ref x) es=J from rfl];simp only[bF1,if_false];unfold setSearch;refine wB1 (KM M hu L v (S.el g) hk hd ?q1 ?q2 100000 (mW t.mask k.hash) [] Y O (xw t k.hash) ?ln (λy hy=>by cases hy))
 case q1=>
  intro h _;have T:=(S.found g D).mp h;have B:lM xs k x=xs:=by unfold lM;rw[ak T]
  rw[B]at q;exact wP1 (q _ s.heap (Heap.SameBut.refl p s.heap) hS)
 case q2=>
  intro j X H ew hp hj U;dsimp only;have hn:k∉xs.map (·.1):=λz=>by obtain⟨e,r,h⟩:=(S.found g D).mpr z;exact U e r h
  have B:lM xs k x=xs++[(k,x,.none)]:=by unfold lM;rw[aj hn]
  rw[B]at q;refine wB1 (wpAny_setState_of L O hf ?_);dsimp only;have ar:j<=t.mask:=yQ k.hash j (by rw[ew];simp);rw[rQ v]at I;have I:¬ es.size*5>=t.mask*3:=by simpa using I
  have F:es.size+1<=t.mask:=by rcases v.mks with z|z|z<;>rw[z]at I ⊢ <;> lia
  have C:sTT (SetTable.insertAt es (t.put j).2 (k.hash,.ref x)) (t.put j).1:=v.put ar hj ⟨X,H,ew,hp⟩ F;have z1:(SetTable.insertAt es (t.put j).2 (k.hash,Value.ref x)).size=(xs++[(k,x,Value.none)]).length:=by rw[hE,R,lA1];rfl
  have n:(SetTable.insertAt es (t.put j).2 (k.hash,Value.ref x)).size<=di:=by rw[z1,lA1,sizeLine_eq];simp;lia
  have sb:=Heap.SameBut.update s.heap p (Obj.putSet (SetTable.insertAt es (t.put j).2 (k.hash,.ref x)) (t.put j).1);have N:=zG (fs:=SetTable.insertAt es (t.put j).2 (k.hash,.ref x)) (u:=(t.put j).1) L;have K:((xs++[(k,x,Value.none)]).map (·.1)).Nodup:=by
   rw[cE,bw];exact⟨nd,by simp,λa ha b hb e=>by simp at hb;subst hb;subst e;exact hn ha⟩
  have e1:∀e∈(SetTable.insertAt es (t.put j).2 (k.hash,Value.ref x)).toList,∃z∈xs++[(k,x,Value.none)],e=(z.1.hash,.ref z.2.1):=λe r=>by
   rw[nh]at r;rcases r with rfl|r
   ·exact⟨_,mA1 _ mS1,O⟩
   ·obtain⟨z,h1,h2⟩:=g e r;exact⟨z,aG _ h1,h2⟩
  have a1:∀z∈xs++[(k,x,Value.none)],(z.1.hash,Value.ref z.2.1)∈(SetTable.insertAt es (t.put j).2 (k.hash,Value.ref x)).toList:=λz au=>by
   rw[nh];rcases aF.mp au with W|W
   ·exact .inr (D z W)
   ·rw[cm.mp W];exact .inl O
  have tail:dj (model P w) A (do
    storeSet p (SetTable.insertAt es (t.put j).2 (k.hash,.ref x)) (t.put j).1
    if (!false&&(t.put j).1.tooFull)=true then do
      setRelay p (SetTable.grown (es.size+1))
      pure M
     else pure M) Q E s:=by
   refine wB1 (wpAny_storeSet_of L O ?_ n);by_cases f:(t.put j).1.tooFull=M
   ·rw [f];simp only [cr,bL,if_true];refine wB1 ?_;unfold setRelay;refine wB1 (wpAny_setState_of (s:={s with heap:=s.heap.update p _}) N rfl C.fits ?_);dsimp only;have aq:=f;rw [rQ C,hE] at aq;have aq:(es.size+1)*5>=t.mask*3:=of_decide_eq_true aq;have e4:∃ m,xE m/\SetTable.sizeAbove (SetTable.grown (es.size+1))=m+1/\es.size+1<=m/\(es.size+1)*5<m*3:=by
     rcases v.mks with z|z|z<;>rw[z]at I aq
     ·have:es.size=4:=by lia
      rw[this];exact⟨31,.inr (.inl O),O,by decide,by decide⟩
     ·have:es.size=18:=by lia
      rw[this];exact⟨127,.inr (.inr O),O,by decide,by decide⟩
     ·lia
    obtain⟨m,hm,em,wq,hm2⟩:=e4;rw[aj (by rw[em,sizeLine_eq];rcases hm with z|z|z<;>rw[z]<;>decide)];obtain⟨t2,d,er,i,ao,o,_,V⟩:=Dq (m:=m) (fi:=(t.put j).1.finger) (mo:=(t.put j).1.movedTo m) (l:=(t.put j).1.led) (p:=(t.put j).1.plain) hm (es:=SetTable.insertAt es (t.put j).2 (k.hash,.ref x)) (by rw[hE];exact wq);refine wB1 ?_;rw[show(t.put j).1.relaid ((SetTable.insertAt es (t.put j).2 (k.hash,Value.ref x)).map (·.1)) (SetTable.grown (es.size+1))=Z (t2,d)from by unfold SetTable.relaid;rw[em,Nat.add_sub_cancel];exact er];have z2:(d.filterMap ((SetTable.insertAt es (t.put j).2 (k.hash,Value.ref x))[·]?)).size=(xs++[(k,x,Value.none)]).length:=i.trans z1;show dj _ _ (if((d.filterMap ((SetTable.insertAt es (t.put j).2 (k.hash,Value.ref x))[·]?)).size != (SetTable.insertAt es (t.put j).2 (k.hash,Value.ref x)).size)=M then _ else _) _ _ _;rw[i];simp only[bne_self_eq_false,bF1,if_false];refine wP1 ?_;dsimp only;refine wpAny_storeSet_of N O ?_ (by rw[i];exact n);refine wP1 (q _ _ (sb.trans (Heap.SameBut.update _ p _)) ⟨K,_,_,_,zG N,ao,?_,λe r=>e1 e ((o e).mp r),λz au=>(o _).mpr (a1 z au),z2⟩);rw[rQ ao,V,i,hE];exact ai (by lia)
   ·rw[cC]at f;rw[f];simp only[bZ,bF1,if_false];exact wP1 (q _ _ sb ⟨K,_,_,_,N,C,f,e1,a1,z1⟩)
  by_cases G:(t.put j).1.plain=M
  ·rw[G];simp only[if_true];refine wB1 (Hd 8 hd hk ?_);exact tail
  ·rw[cC]at G;rw[G];simp only[bF1,if_false];refine wB1 (wP1 ?_);exact tail
 case ln=>
  have:=vQ t.mask k.hash;have:=y3 v.mks;lia
end
def uu(p:da)(n:Nat)(h:dk):Prop:=∃es ep t,h.get? p=Z (stO es ep t)/\t.fits es.size=M/\es.size=n/\n<=76
theorem fc.mem{h:dk}:∀{ks:List TK} {vs:List c8},fc h ks vs -> ∀(i:Nat) (v:c8),vs[i]?=Z v -> ∃k,ks[i]?=Z k/\eV h k v
 |_,_,.nil,i,v,e=>by simp at e
 |_,_,.cons r t,0,v,e=>by simp at e;subst e;exact⟨_,O,r⟩
 |_,_,.cons r t,i+1,v,e=>fc.mem t i v (by simpa using e)
def uM(k:TK):Bool:=match k with
 | .tup _=>decide (k.dep<=8)
 |_=>J
theorem za{h:dk}{k:TK}{v:c8}(hk:uM k=M)(h1:eV h k v):k.dep<=8 /\ ∃a,v = .ref a:=by
 cases h1 with
 |non=>cases hk
 |int=>cases hk
 | @tup a=>exact⟨by simpa[uM]using hk,a,O⟩
section
variable{P:db}{w:df}{A:de}{E:c8->c9->Prop}
theorem xA{p l it:da}{its:Array c8}{ns:List TK}{R:Result->c9->Prop}(hh:A.handled=none)(hu:A.units+20<cLine)(hT:∀ k∈ns,uM k=true)(hb:ns.length<=76)(n1:p≠l)(L:p≠it)(n3:it≠l):
  ∀(k i:Nat) (s:c9) (xs:List (TK×da×c8)),its.size-i=k->i<=its.size->s.heap.IsListIter it l i->s.heap.IsList l its->fc s.heap ns its.toList->uv p xs s.heap->vG s.heap xs->xs.map (·.1)=(ns.take i).foldl j9 [] ->
  (∀h' tk,(∀c o,c≠p->c≠it->s.heap.get? c=Z o->h'.get? c=Z o)->uu p (ddK ns).length h'->R (.ok (.ret .none)) {s with heap:=h',toks:=tk})->codeAny (model P w) A (.builtin "set.update.loop" ⟨[.ref p,.ref it],[]⟩) R s:=by
 intro k
 induction k with
 |zero=>
  intro i s xs hk hi st N H K ar m q;have e:i=its.size:=by lia
  subst e;refine wD1 PyProof.Rows.F.entry_set_update_loop (?_:_);rw[Around.under_plainId PyProof.Rows.F.plain_set_update_loop _];show dj _ A.in1 (pyNext (.ref it) >>= _) _ _ s;refine wB1 (wpAny_pyNext_list_end (by simpa using hh) st N (by simp) λh' eb=>wP1 ?_);refine q h' s.toks (λc o _ hc e=>eb c o hc e) ?_;have D:its.size=ns.length:=by rw[<- aI];exact H.split.symm
  obtain⟨_,es,ep,t,I,tt,_,_,_,y⟩:=K;rw[D,bV]at m;have wq:xs.length=(ddK ns).length:=by have:=congrArg List.length m;rw[lM1]at this;exact this
  refine⟨es,ep,t,eb p _ L I,tt.fits,y.trans wq,?_⟩;have:=md ns [];unfold ddK;simp at this;lia
 |succ k ih=>
  intro i s xs hk hi st N H K ar m q;have F:i<its.size:=by lia
  have hx:=aG1 F;obtain⟨B,ek,n⟩:=H.mem i _ (by rw[aT1];exact hx);have U:B∈ns:=gM1 ek;obtain⟨hd,aq,ex⟩:=za (hT B U) n;refine wD1 PyProof.Rows.F.entry_set_update_loop (?_:_);rw[Around.under_plainId PyProof.Rows.F.plain_set_update_loop _];show dj _ A.in1 (pyNext (.ref it) >>= _) _ _ s;refine wB1 (wpAny_pyNext_list_item st N hx λh' W au=>?_);rw[ex]at n ⊢;have d:∀{k:TK} {v:c8},eV s.heap k v->eV h' k v:=λT=>by
   refine T.rec (motive_1:=λk v _=>eV h' k v) (motive_2:=λk v _=>fc h' k v) .non .int (λ{a} _ _ _ _ e1 c1 d1 _ ih=>.tup ((au.2 a λz=>?_).trans e1) c1 d1 ih) .nil (λ_ _ a b=>.cons a b);subst z;obtain⟨o,e2,c2,_⟩:=st;rw[e1]at e2;cases e2;rw[c1]at c2;exact absurd c2 (by decide)
  show dj _ A.in1 (holding [Value.ref aq] (setAdd p (.ref aq)) >>= _) _ _ _;refine wB1 (wpAny_holding ?_);unfold setAdd;have G:A.in1.units=A.units+1:=rfl;refine wpAny_holding (wB1 (rH B (by rw[G];lia) (d n) ?_));obtain⟨es,ep,t,C⟩:∃es ep t,h'.get? p=some (stO es ep t):=by
   obtain⟨_,es,ep,t,I,_⟩:=K;exact⟨es,ep,t,by rw[au.2 p L];exact I⟩
  have hS':uv p xs h':=by
   obtain⟨nd,es,ep,t,I,rr⟩:=K;exact⟨nd,es,ep,t,by rw[au.2 p L];exact I,rr⟩
  have u:vG h' xs:=λz y=>⟨d (ar z y).1,(ar z y).2⟩;have V:=md (ns.take i) [];have X:xs.length=((ns.take i).foldl j9 []).length:=by have:=congrArg List.length m;rw[lM1]at this;exact this
  refine Lp (s:={s with heap:=h',toks:=s.toks+B.draws}) (by rw[G];lia) hS' u (by
   have D:its.size=ns.length:=by rw[<- aI];exact H.split.symm
   rw[X];rw[aR,bb]at V;lia) (d n) hd λc h2 j hS2=>?_
  have ef:j9 ((ns.take i).foldl j9 []) B=(ns.take (i+1)).foldl j9 []:=by
   rw[cF,ek,List.foldl_append];rfl
  have ao:(lM xs B aq).map (·.1)=(ns.take (i+1)).foldl j9 []:=by
   rw[<- ef,<- m];unfold lM j9;by_cases S:B∈xs.map (·.1)
   ·rw[ak S,ak S]
   ·rw[aj S,aj S,cE];rfl
  have kk:∀c o,c≠p->c≠it->s.heap.get? c=Z o->h2.get? c=Z o:=λc o h1 h3 e=>by rw[j.2 c h1];show h'.get? c=_;rw[au.2 c h3];exact e
  have keepIt:∀o,h'.get? it=Z o->h2.get? it=Z o:=λo e=>by rw[j.2 it (Ne.symm L)];exact e
  have tks:∀{h E:dk} {a:List TK} {b:List c8},(∀{k v},eV h k v->eV E k v)->fc h a b->fc E a b:=λ{h E a b} f T=>by
   induction a generalizing b with
   |nil=>cases T;exact .nil
   |cons k a ih=>cases T with|cons r t=>exact .cons (f r) (ih t)
  refine wP1 ⟨plainId_quiet PyProof.Rows.F.plain_set_update_loop _,ih (i+1) {s with heap:=h2,toks:=s.toks+B.draws} (lM xs B aq) (by lia) F (W.at keepIt) ?_ ?_ hS2 ?_ ao λh3 tk k3 x3=>?_⟩
  ·obtain⟨o,e,r⟩:=N;exact⟨o,kk l o (Ne.symm n1) (Ne.symm n3) e,r⟩
  ·exact tks (λx=>(d x).keepsS C λa o g e=>by rw[j.2 a g];exact e) H
  ·intro z y;unfold lM at y;split at y
   ·exact⟨(u z y).1.keepsS C λa o g e=>by rw[j.2 a g];exact e,(u z y).2⟩
   ·rcases aF.mp y with Q|Q
    ·exact⟨(u z Q).1.keepsS C λa o g e=>by rw[j.2 a g];exact e,(u z Q).2⟩
    ·rw[cm.mp Q];exact⟨(d n).keepsS C λa o g e=>by rw[j.2 a g];exact e,hd⟩
  ·exact q h3 tk (λc o h1 h4 e=>k3 c o h1 h4 (kk c o h1 h4 e)) x3
theorem yp{s:c9}{l:da}{its:Array c8}{ns:List TK}{Q:c8->c9->Prop}(y:A.handled=Y)(ao:A.units+24<cLine)(i:s.heap.IsList l its)(G:fc s.heap ns its.toList)(H:∀ k∈ns,uM k=M)(hb:ns.length<=76)(q:∀h' tk,(∀c o,s.heap.get? c=Z o->h'.get? c=Z o)->uu s.heap.objs.size (ddK ns).length h'->Q (.ref s.heap.objs.size) {s with heap:=h',toks:=tk}):dj (model P w) A (call (.type "set") [.ref l]) Q E s:=by
 have g:l<s.heap.objs.size:=by obtain⟨o,e,_⟩:=i;exact hL1 e
 refine vq i λK u I R p=>?_;have F:(s.heap.push (stO #[] 0 (.fresh 0 0 (!jL w)))).objs.size=s.heap.objs.size+1:=by rw[hZ1]
 have C:(s.heap.push (stO #[] 0 (.fresh 0 0 (!jL w)))).get? s.heap.objs.size=Z (stO #[] 0 (.fresh 0 0 (!jL w))):=hS1 _ O;have j:∀{h d:dk} {a:List TK} {b:List c8},(∀{k v},eV h k v->eV d k v)->fc h a b->fc d a b:=λ{h d a b} f m=>by
  induction a generalizing b with
  |nil=>cases m;exact .nil
  |cons k a ih=>cases m with|cons r t=>exact .cons (f r) (ih t)
 refine xA (its:=its) (ns:=ns) (u.trans y) (by lia) H hb (nG1 g) (nN1 (bB _)) (nG1 (cq g)) _ 0 _ [] rfl (bh _) ?_ ?_ ?_ ?_ (λz B=>by cases B) O λh' tk k x=>p _ (q h' tk (λc o e=>k c o (nN1 (hL1 e)) (nN1 (cq (hL1 e))) (hP1 _ (hP1 _ e))) x)
 ·refine⟨{cls:=.type "list_iterator",data:=.fields #[.ref l,.int 0 0]},?_,O,O⟩;have this:((s.heap.push (stO #[] 0 (.fresh 0 0 (!jL w)))).push {cls:=.type "list_iterator",data:=.fields #[.ref l,.int 0 0]}).get? (s.heap.push (stO #[] 0 (.fresh 0 0 (!jL w)))).objs.size=Z {cls:=.type "list_iterator",data:=.fields #[.ref l,.int 0 0]}:=hS1 _ O;rw[F]at this;exact this
 ·obtain⟨o,e,r⟩:=i;exact⟨o,hP1 _ (hP1 _ e),r⟩
 ·exact j (λx=>x.grows λa o e=>hP1 _ (hP1 _ e)) G
 ·exact⟨bp,#[],0,_,hP1 _ C,sTT.fresh _,O,(λe n=>by simp at n),(λk D=>by cases D),O⟩
end
def pH:List D->Option (List TK)
 |[]=>Z []
 |d::ds=>(iM d).bind λk=>(pH ds).map (k :: ·)
theorem tP:∀{ds:List D} {ks:List TK},pH ds=Z ks->ky ks=ds/\(∀k∈ks,uM k=M)/\ks.length=ds.length
 |[],ks,h=>by cases h;exact⟨O,(λk i=>by cases i),O⟩
 |d::ds,ks,h=>by
  rw[pH]at h;obtain⟨k,c,h⟩:=oB1.mp h;obtain⟨g,l,h⟩:=oM1.mp h;subst h;obtain⟨h1,h2,xs,j⟩:=nj c;obtain⟨m,e,f⟩:=tP l;refine⟨by rw[ky,h1,m],λb a=>?_,by simp[f]⟩;rcases aE.mp a with z|z
  ·subst z;subst j;simpa[uM]using h2
  ·exact e b z
def jJ:G1:=λd S=>match dP S d with
 |some (M,xs)=>(pH xs).bind λks=>if ks.length<=76 then Z (.int (ddK ks).length,S)else Y
 |_=>Y
section
variable{X:Cx}
def ID(X:Cx)(vs:List V)(H:Hp)(Q:VK):Prop:=∃a xs ks mu,vs=[.ref a]/\lP X.K H a xs/\dJ X.K H mu (ky ks) xs/\(∀k∈ks,uM k=M)/\ks.length<=76 /\ ∀p,H p=Y->Q (.ref p) (upd H p (.ext (uu p (ddK ks).length)))
def IE(X:Cx)(vs:List V)(H:Hp)(Q:VK):Prop:=∃a n,vs=[.ref a]/\H a=Z (.ext (uu a n))/\Q (.int n) H
theorem Hu(hc:X.calm=M)(w:X.A.units+64<cLine):eA X (.type "set") (ID X):=by
 intro ag s σ H xs n Q I r h;obtain⟨a,vs,ks,mu,rfl,d,g,l,i,q⟩:=h;obtain⟨u,rfl,r2⟩:=hC r;cases r2;obtain⟨m,f,p,v⟩:=I.list d;have j:=uN I ks g f;refine yp (I.ok.hd hc) (by lia) p.isList (by simpa using j) l i λh' tk keep c=>?_;have b:=I.hok.fresh (nR1 s.heap.objs.size);refine⟨.ref s.heap.objs.size,_,I.laid (t':=tk) (o:=.ext (uu s.heap.objs.size (ddK ks).length)) keep (nR1 _) ⟨c,?_,λh1 h2 ⟨es,ep,t,e,r⟩ k=>⟨es,ep,t,k _ e,r⟩⟩,O,q _ b⟩;obtain⟨es,ep,t,e,_⟩:=c;exact⟨_,e⟩
theorem Hv:eA X (.builtin "len") (IE X):=by
 intro ag s σ H xs f Q I r h;obtain⟨a,n,rfl,d,q⟩:=h;obtain⟨u,rfl,r2⟩:=hC r;cases r2;obtain⟨⟨es,ep,t,e,b,c,g⟩,_⟩:=(show eI X.prog X.w H s.heap a (.ext (uu a n))from I.hok a _ d);refine PySem.call_len_set e (by first|exact rfl|exact⟨rfl,rfl,rfl⟩|exact⟨rfl,rfl⟩) rfl b (by lia) ?_;refine⟨.int es.size,H,I.tok _,⟨_,O⟩,?_⟩;rw[c];exact q
theorem yJ (hc:X.calm=true)(n:X.A.units+64<cLine){o:Expr}{m:FE}{p p2 pos b:Pos}(hg:Gl X "len")(hm:X.mg "len"=none)(hg2:Gl X "set")(hm2:X.mg "set"=none)(ho:XE X o m)
  (he:dh [.Call (.Name "set" p2) [o] [] b] X.env=[(J,eval (.Call (.Name "set" p2) [o] [] b) X.env)]:=by rfl) (c:dh [o] X.env=[(J,eval o X.env)]:=by rfl):XE X (.Call (.Name "len" p) [.Call (.Name "set" p2) [o] [] b] [] pos) (mN (b1 jJ) (dr m dt)):=
 ⟨ez (nV Hv hg hm (by decide+kernel) (iX (jX (Hu hc n) hg2 hm2 (by decide+kernel) (iX ho.h lW c) (he:=c)) lW he) (he:=he)) <| by
  rintro σ H Q ⟨r,mu,S,d,F,he,k,hm,f⟩;obtain⟨⟨ds,D⟩,e,hm⟩:=oB1.mp hm;obtain⟨⟨l,E⟩,C,e⟩:=oB1.mp e;cases e;dsimp only[b1,jJ]at hm;split at hm
  ·rename_i xs A;obtain⟨ns,y,hm⟩:=oB1.mp hm;split at hm
   ·rename_i j;cases hm;refine⟨r,mu,S,l,_,he,k,C,λv H1 mu1 B x h=>?_⟩;obtain⟨a,vs,rfl,q,t⟩:=dI x h A;obtain⟨w,i,_⟩:=tP y;refine⟨a,vs,ns,mu1,O,q,by rw[w];exact t,i,j,λp g=>?_⟩;refine⟨p,(ddK ns).length,O,dX,?_⟩;have z:Ext mu1 mu1 H1 (upd H1 p (.ext (uu p (ddK ns).length))):=Ext.fresh g;have s:=h.fresh (u:=.ext (uu p (ddK ns).length)) g;exact f _ _ mu1 (B.trans z) (.int _) s
   ·cases hm
  ·cases hm⟩
end
section
variable{X:Cx}{pos:Pos}
theorem gn(i:Nat){x:Str}(hN:X.N.Nodup)(hi:X.N[i]?=Z x:=by rfl)(hx:yw X.env.scope x:=by first|exact Or.inl rfl|exact Or.inr rfl)(hf:X.fn x=M\/X.env.scope.names.lookup x=Z .local:=by first|exact .inl rfl|exact .inr rfl|assumption):XG X (.Name x pos) (gN i):=qO i hN hi hx hf
theorem ce{op:CmpOp}{x y:Expr}{f:FN}{a b:FE}(ho:gg X (compareOp op) (r2 X.K f))(hx:XE X x a)(hy:XE X y b)(hm:behindInMarks op y=J:=by exact Ag _):XE X (.Compare x [op] [y] pos) (m2 f a b):=B1 ho hx hy hm
theorem ct{op:CmpOp}{x y:Expr}{f:FN}{a b:FE}(ho:gg X (compareOp op) (r2 X.K f))(hx:XE X x a)(hy:XE X y b)(hm:behindInMarks op y=J:=by exact Ag _):XT X (.Compare x [op] [y] pos) (mB (m2 f a b)):=qX ho hx hy hm
theorem kc{a:dq}{i:Nat}{l:List Nat}(x:Str)(r:∀i∈l,∃x,X.N[i]?=Z x/\a.names.lookup x=Z .free/\(X.env.kindOf x=Z .cell\/X.env.kindOf x=Z .free)/\(x,NameKind.cell)∉a.names)(h1:X.N[i]?=Z x:=by rfl)(h2:a.names.lookup x=Z .free:=by rfl)(b:X.env.kindOf x=Z .cell\/X.env.kindOf x=Z .free:=by first|exact Or.inl rfl|exact Or.inr rfl)(c:(x,NameKind.cell)∉a.names:=by decide+kernel):∀j∈i::l,∃x,X.N[j]?=Z x/\a.names.lookup x=Z .free/\(X.env.kindOf x=Z .cell\/X.env.kindOf x=Z .free)/\(x,NameKind.cell)∉a.names:=List.forall_mem_cons.mpr ⟨⟨x,h1,h2,b,c⟩,r⟩
end
structure d7 (K:Fg1)(x:Str)(st:dn)(f:da):Prop where
 ns:wN1 K dg x=some (some (.ref f))
 fn:∃fd,xi K x x st f fd
theorem JI{K:Fg1}{x:Str}{st:dn}{f:da}{i:c8}{g h:Option da}{e:Array (Option c8)}{kV d j b ct:c8}(a:wN1 K dg x=Z (Z (.ref f)))(l:K.lookup f=Z ⟨i,g,.func (wF1 x x (ix st) (ft st) (dQ st) .none kV d j h b ct),e⟩)(c:wC1 K b x=M)(k:wK1 K (.ref f)=M):d7 K x st f:=⟨a,_,A3 l c k⟩
theorem xo{P:db}{w:df}{K:Fg1}{mg:Str->Option c8}{base h:dk}{x:Str}{st:dn}{f:da}{N ps:List Str}{k n:Nat}{b:FS}(X:K.In h)(G:h.Ns dg mg)(F:d7 K x st f)(S:gD N ps (dQ st))(hb:∀(kV g l:c8) (j:Option da) (a ct:c8) (e:List c8),e.length=ps.length->bindArgs (wF1 x x (ix st) (ft st) (dQ st) .none kV g l j a ct) ⟨e,[]⟩=pure (ps.zip e))(c:∀(f:da) (a:c8) (A:de) (d:List Env) (s:c9) (H:Hp) (E:XK),fI k (A.deeper (envOfC x (dQ st) s.heap.objs.size f a)) ->
   vz (m5 uw P w K mg base N x (dQ st) f a A d s H E).nox (ft st) b)(hn:ps.length=n):Own P w K mg base (k+1) x n (ig N.length b):=by
 obtain⟨fd,i⟩:=F.fn;exact vK i (i.binds hb) (wM1 X G F.ns) S hn (c f)
section
variable{X:Cx}{ag:List (da×Obj)}{σ:L2.St}{H:Hp}{s:c9}{mu:List da}
end
section
variable{P:db}{w:df}{A:de}{E:c8->c9->Prop}{s:c9}{a x:da}{xs:List (TK×da×c8)}{k:TK}
end
section
variable{X:Cx}
end
section
variable{X:Cx}{o e:Expr}{es:List Expr}{to:TE}{t:TA}{name:Str}{apos cpos:Pos}{id:String}{r:V->List V->Hp->VK->Prop}
end
section
variable{X:Cx}
end
def xT(f g k:FN)(a b c d:FE):FE:=λr S=>(a r S).bind λp=>(b r p.2).bind λq=>(f [p.1,q.1] q.2).bind λt=>match t.1 with
 | .bl j=>if j=true then (c r t.2).bind fun z=>(g [q.1,z.1] z.2).bind fun t2=>match t2.1 with
   | .bl j2=>if j2=M then(d r t2.2).bind λy=>k [z.1,y.1] y.2 else Z (.bl J,t2.2)
   |_=>Y
  else Z (.bl J,t.2)
 |_=>Y
def vX(r r' r'':R2)(ta tb tc td:TE):TE:=fun σ H Q=>ta σ H λx H1=>tb σ H1 λy H2=>r x y H2 λz H3=>∃k,z = .bl k /\
 (if k=M then tc σ H3 λw' H4=>r' y w' H4 λz2 H5=>∃k2,z2 = .bl k2/\(if k2=M then td σ H5 λw2 H6=>r'' w' w2 H6 Q else Q (.bl J) H5)else Q (.bl J) H3)
section
variable{X:Cx}{x y z u:Expr}{pos:Pos}{f g k:FN}{a b c d:FE}{op op' op'':CmpOp}{ta tb tc td:TE}
theorem xG{r g b:R2}(ho:gg X (compareOp op) r)(ho':gg X (compareOp op') g)(a:gg X (compareOp op'') b)(ha:PE X x ta)(hb:PE X y tb)(hc:PE X z tc)(hd:PE X u td)(hm:lastMarks [op,op',op''] [y,z,u]=J):PT X (.Compare x [op,op',op''] [y,z,u] pos) (Em (vX r g b ta tb tc td)):=by
 intro ag s σ H Q I h;refine isTrue_chain (eY (ha ag s σ H _ I h) λv s1 ⟨x,H1,I1,U,K⟩=>test_link (eY (hb ag s1 σ H1 _ I1 K) λu S ⟨y,H2,T,r2,G⟩=>
  eY (ho ag S σ H2 x y v u _ T U r2 G) λd s3 ⟨z,j,i,B,k,e,t⟩=>?_)) hm
 subst e;cases B;refine wpAny_truthy_bool ?_;cases k with
 |false=>
  obtain⟨V,f,c⟩:=t;cases f;exact ite_ff ⟨j,i,c⟩
 |true=>
  refine ite_tt (test_link (eY (hc ag s3 σ j _ i t) λp s4 ⟨l,R,W,n,D⟩=>eY (ho' ag s4 σ R y l u p _ W r2 n D) λd' C ⟨z2,q,m,E,ao,e2,o⟩=>?_));subst e2;cases E;refine wpAny_truthy_bool ?_;cases ao with
  |false=>
   obtain⟨V,f,c⟩:=o;cases f;exact ite_ff ⟨q,m,c⟩
  |true=>
   refine ite_tt (test_last (eY (hd ag C σ q _ m o) λN au ⟨wq,H6,ar,F,P⟩=>eY (a ag au σ H6 l wq p N _ ar n F P) λd2 s7 ⟨z4,H7,A,w,k3,L,aq⟩=>?_));subst L;cases w;exact wpAny_truthy_bool ⟨H7,A,aq⟩
theorem Dh{K:Fg1}{σ:L2.St}{H:Hp}{Q:VK}(h:tM K (xT f g k a b c d) σ H Q):vX (r2 K f) (r2 K g) (r2 K k) (tM K a) (tM K b) (tM K c) (tM K d) σ H Q:=by
 obtain⟨r,mu,S,X,S',q,hs,e,hc⟩:=h;obtain⟨⟨E,z⟩,P,e⟩:=oB1.mp e;obtain⟨⟨u,F⟩,e2,e⟩:=oB1.mp e;obtain⟨⟨N,B⟩,ar,e⟩:=oB1.mp e;refine⟨r,mu,S,E,z,q,hs,P,λv1 H1 mu1 l r1 s1=>?_⟩;refine⟨r,mu1,z,u,F,q.ext l,s1,e2,λv2 H2 t x2 r2 s2=>?_⟩;refine⟨t,F,[E,u],N,B,.cons (r1.ext x2) (.cons r2 .nil),s2,ar,λv3 H3 n i R aq=>?_⟩;cases N with
 |bl j=>
  cases R;refine⟨j,O,?_⟩;cases j with
  |false=>cases e;exact hc _ H3 n ((l.trans x2).trans i) (.bl J) aq
  |true=>
   obtain⟨⟨w,y⟩,e4,e⟩:=oB1.mp e;obtain⟨⟨D,C⟩,T,e⟩:=oB1.mp e;refine⟨r,n,B,w,y,q.ext ((l.trans x2).trans i),aq,e4,λv4 H4 x p L s4=>?_⟩;refine⟨x,y,[u,w],D,C,.cons ((r2.ext i).ext p) (.cons L .nil),s4,T,λv5 H5 m o U A=>?_⟩;cases D with
   |bl I=>
    cases U;refine⟨I,O,?_⟩;cases I with
    |false=>cases e;exact hc _ H5 m ((((l.trans x2).trans i).trans p).trans o) (.bl J) A
    |true=>
     obtain⟨⟨ao,G⟩,e6,e⟩:=oB1.mp e;refine⟨r,m,C,ao,G,q.ext ((((l.trans x2).trans i).trans p).trans o),A,e6,λv6 H6 s x6 W wq=>?_⟩;exact⟨s,G,[w,ao],X,S',.cons ((L.ext o).ext x6) (.cons W .nil),wq,e,λV H7 v x7 au s7=>hc V H7 v ((((((l.trans x2).trans i).trans p).trans o).trans x6).trans x7) au s7⟩
   |_=>cases e
 |_=>cases e
theorem uE(ho:gg X (compareOp op) (r2 X.K f))(ho':gg X (compareOp op') (r2 X.K g))(e:gg X (compareOp op'') (r2 X.K k))(hx:XE X x a)(hy:XE X y b)(hz:XE X z c)(n:XE X u d)(hm:lastMarks [op,op',op''] [y,z,u]=false:=by with_unfolding_all rfl):
  XT X (.Compare x [op,op',op''] [y,z,u] pos) (mB (xT f g k a b c d)):=
 ⟨qC (xG ho ho' e hx.h hy.h hz.h n.h hm) fun σ H Q h=>by
  obtain⟨r,mu,S,d,o,l,m,hm,hc⟩:=EA h;exact Dh ⟨r,mu,S,d,o,l,m,hm,λv H' mu' i p j=>hc v H' mu' i p j⟩⟩
end
structure Blt (L:List Str)(mg:Str->Option c8):Prop where
 h:∀x∈L,mg x=none
theorem bz{L:List Str}{mg:Str->Option c8}{x:Str}(B:Blt L mg)(h:x∈L:=by decide):mg x=Y:=B.h x h
theorem sk{N P:List Str}{sc:dq}(h1:sc.kind = .function:=by rfl)(h2:sc.isCoroutine=J:=by rfl)(e:sc.isGenerator=J:=by rfl)(b:N.Nodup:=by decide+kernel)(d:N.take P.length=P:=by rfl)(c:∀x∈P,sc.names.lookup x=Z .local\/sc.names.lookup x=Z .cell:=by decide+kernel)(a:∀y∈sc.names,y.2 ≠ .free:=by decide+kernel):gD N P sc:=⟨h1,h2,e,b,d,c,a⟩
def J9(K:Fg1):List Str->Prop
 |[]=>True
 |x::l=>wN1 K dg x=Z Y/\J9 K l
theorem J9.blt{K:Fg1}{mg:Str->Option c8}{h:dk}(X:K.In h)(G:h.Ns dg mg):∀{L:List Str},J9 K L->Blt L mg
 |[],_=>⟨λ_ m=>nomatch m⟩
 |_::_,z=>⟨λ_ m=>match m with
  | .head _=>PySem.W.mg_none_of X G z.1
  | .tail _ m=>(J9.blt X G z.2).h _ m⟩
def Ko:List Str->Bool
 |[]=>M
 |x::l=> !l.contains x&&Ko l
theorem kl:∀{l:List Str},Ko l=M->l.Nodup
 |[],_=>bp
 |x::l,h=>by
  obtain⟨a,b⟩:=(bA1 _ _).mp h;exact aN.mpr ⟨λm=>(by rw[List.contains_iff_mem.mpr m]at a;cases a),kl b⟩
section
variable{X:Cx}{pos:Pos}{k:Nat}{x:Str}{i:Nat}{e y:Expr}{es:List Expr}{m b:FE}{a:FA}{p:Pos}
theorem xv (hN:X.N[i]?=Z x:=by rfl)(hv:Ed X.env.scope x:=by first|exact Or.inl rfl|exact Or.inr (Or.inl rfl)|exact Or.inr (Or.inr rfl))(hd:(x == ("__debug__":Str))=J:=by decide)(hcd:(x == ("__classdict__":Str))=J:=by decide):XE X (.Name x pos) (mV i):=LY i hN hv hd hcd
theorem gq(hN:Ko X.N=M:=by rfl)(hi:X.N[i]?=Z x:=by rfl)(hx:yw X.env.scope x:=by first|exact Or.inl rfl|exact Or.inr rfl)(hf:X.fn x=M\/X.env.scope.names.lookup x=Z .local:=by first|exact .inl rfl|exact .inr rfl|assumption):XG X (.Name x pos) (gN i):=qO i (kl hN) hi hx hf
theorem sq(he:XE X e m)(hN:Ko X.N=M:=by rfl)(hi:X.N[i]?=Z x:=by rfl)(hx:yw X.env.scope x:=by first|exact Or.inl rfl|exact Or.inr rfl)(hs:swapsWith e (Z (.Name x p)) pos.line X.env=pure J:=by rfl)(hf:X.fn x=M\/X.env.scope.names.lookup x=Z .local:=by first|exact .inl rfl|exact .inr rfl|assumption):XS X (.Assign [.Name x p] e pos) (dL m (gN i)):=qY i (kl hN) hi hx he hs hf
theorem jq(hx:XE X e m)(hy:XE X y b)(hr:fI k X.A:=by assumption)(hs:nr y:=by intro _ _;rfl):XE X (.Subscript e y pos) (m2 (b2 dD) m b):=qJ (qP hr.units) hx hy hs
theorem oq{au:Prop}(o:X.A.units+64<cLine->au)(hr:fI k X.A:=by assumption):au:=o hr.units
theorem wn {k' n:Nat}{f:FN}(h:Own X.prog X.w X.K X.mg X.base k x n f)(ha:XA X (e::es) a)(hr:fI k' X.A:=by assumption)(hk:k<=k':=by first|decide|omega)(hg:Gl X x:=by rfl)(hdb:(x == ("__debug__":Str))=J:=by decide)(he:dh (e::es) X.env=(J,eval e X.env)::dh es X.env:=by rfl)(hpl:(backTo pos (dh es X.env)).any (·.1)=J:=by rfl):XE X (.Call (.Name x p) (e::es) [] pos) (mN (dy n f) a):=qH h hr hk hg ha hdb he hpl
theorem cn {id:String}{f:FN}(hc:eA X (.builtin id) (rN X.K f))(ha:XA X (e::es) a)(hm:X.mg x=Y:=by exact bz (by assumption))(hg:Gl X x:=by rfl)(hv:bootBuiltins x=Z (.builtin id):=by decide+kernel)(hn:x≠"__name__":=by decide)(hdb:(x == ("__debug__":Str))=J:=by decide)(he:dh (e::es) X.env=(J,eval e X.env)::dh es X.env:=by rfl)(hpl:(backTo pos (dh es X.env)).any (·.1)=J:=by rfl):XE X (.Call (.Name x p) (e::es) [] pos) (mN f a):=qD hc hg hm hv ha hn hdb he hpl
theorem cz {T:String}{f:FN}(hc:eA X (.type T) (rN X.K f))(ha:XA X (e::es) a)(hm:X.mg x=Y:=by exact bz (by assumption))(hg:Gl X x:=by rfl)(hv:bootBuiltins x=Z (.type T):=by decide+kernel)(hn:x≠"__name__":=by decide)(hdb:(x == ("__debug__":Str))=J:=by decide)(he:dh (e::es) X.env=(J,eval e X.env)::dh es X.env:=by rfl)(hpl:(backTo pos (dh es X.env)).any (·.1)=J:=by rfl):XE X (.Call (.Name x p) (e::es) [] pos) (mN f a):=qE hc hg hm hv ha hn hdb he hpl
theorem a1(h:XE X e m)(hs:dh [e] X.env=(J,eval e X.env)::dh [] X.env:=by rfl):XA X [e] (dr m dt):=qA h qN hs
theorem a2(h:XE X e m)(g:XE X y b)(hs:dh [e,y] X.env=(J,eval e X.env)::dh [y] X.env:=by rfl)(hs2:dh [y] X.env=(J,eval y X.env)::dh [] X.env:=by rfl):XA X [e,y] (dr m (dr b dt)):=qA h (a1 g hs2) hs
theorem a3{z:Expr}{c:FE}(h:XE X e m)(g:XE X y b)(l:XE X z c)(hs:dh [e,y,z] X.env=(J,eval e X.env)::dh [y,z] X.env:=by rfl)(hs2:dh [y,z] X.env=(J,eval y X.env)::dh [z] X.env:=by rfl)(a:dh [z] X.env=(J,eval z X.env)::dh [] X.env:=by rfl):XA X [e,y,z] (dr m (dr b (dr c dt))):=qA h (a2 g l hs2 a) hs
theorem ir (ha:XA X [e] a)(hm:X.mg "range"=Y:=by exact bz (by assumption))(hg:Gl X "range":=by rfl)(hs:dh [e] X.env=[(J,eval e X.env)]:=by rfl):XI X y (.Call (.Name "range" p) [e] [] pos) (sA a):=uF hg hm ha hs
theorem ie {elts:List Expr}{b:Nat}{tpos:Pos}(ha:XA X [e] a)(hm:X.mg "enumerate"=Y:=by exact bz (by assumption))(hg:Gl X "enumerate":=by rfl)(hs:dh [e] X.env=[(J,eval e X.env)]:=by rfl):XI X (.Tuple elts b tpos) (.Call (.Name "enumerate" p) [e] [] pos) (om a):=yI hg hm ha hs
theorem ii {T:Ty}{p2:Pos}(h:XE X e m)(hm:X.mg "isinstance"=Y:=by exact bz (by assumption))(hm2:X.mg x=Y:=by exact bz (by assumption))(hg:Gl X "isinstance":=by rfl)(hg2:Gl X x:=by rfl)(hv2:bootBuiltins x=Z (.type T.nm):=by decide+kernel)(hn:x≠"__name__":=by decide)(hd:(x == ("__debug__":Str))=J:=by decide)(hs1:dh [e,.Name x p2] X.env=(J,eval e X.env)::dh [.Name x p2] X.env:=by rfl)(hs2:dh [.Name x p2] X.env=(J,eval (.Name x p2) X.env)::dh [] X.env:=by rfl)(hpl:(backTo pos (dh [.Name x p2] X.env)).any (·.1)=J:=by rfl):XE X (.Call (.Name "isinstance" p) [e,.Name x p2] [] pos) (iK T m):=uG T hg hm hg2 hm2 hv2 h hn hd hs1 hs2 hpl
structure Lm (X:Cx)(name:Str)(id:String)(f:FN):Prop where
 s:Slot "list" name id
 t:typeOf (.builtin id)=pure (.type "method_descriptor")
 m:HP X id (λx xs H Q=>rN X.K f (x::xs) H Q)
theorem ap{X:Cx}:Lm X "append" "list.append" (b2 gJ):=⟨PySem.F.slot_list_append,PySem.F.type_list_append,Ib⟩
theorem lq{f:FN}{name:Str}{apos:Pos}{id:String}(s:Lm X name id f)(ho:XE X y m)(ha:XA X (e::es) a)(hbase:attributeBase y name X.env (eval y X.env)=eval y X.env:=by rfl)(hfew:((backTo pos (dh (e::es) X.env)).all (λx=> !x.1)&&(backToKw pos (keywordEach [] X.env)).all (λx=>x.1.isSome)&&decide ((e::es).length+([]:List Keyword).length+(if([]:List Keyword).isEmpty then 0 else 1)<30))=M:=by rfl)(hline:(apos.endLine == pos.line)=M:=by rfl)(hs:dh (e::es) X.env=(J,eval e X.env)::dh es X.env:=by rfl)(hplain:(backTo pos (dh es X.env)).any (·.1)=J:=by rfl):XS X (.Expr (.Call (.Attribute y name apos) (e::es) [] pos) p) (eU (mH f m a)):=yH (qe s.s s.t s.m ho ha hbase hfew hline hs hplain)
theorem fo{tg iter:Expr}{a:List dn}{m:FI}{g:FG}{b:FS}(hi:XI X tg iter m)(hg:XG X tg g)(hb:vz X a b)(hp:PassesOwn (model X.prog X.w) X.A X.env X.xe:=by exact PassesOwn.never)(hc:X.calm=M:=by rfl)(hs:∀x,foldedSetIterable iter X.env x=pure x:=by intro _;rfl):XS X (.For tg iter a [] pos) (eZ m g b):=qW hp hc hi hg hb hs
theorem tg2{d:Expr}{g h:FG}{a:Nat}(h1:XG X e g)(h2:XG X d h)(hc:X.calm=M:=by rfl)(hs:(assignEach [e,d] X.env).map (·.2)=assign e X.env::(assignEach [d] X.env).map (·.2):=by rfl)(hs2:(assignEach [d] X.env).map (·.2)=assign d X.env::(assignEach [] X.env).map (·.2):=by rfl)(hn:(assignEach [e,d] X.env).length=2:=by rfl)(hst:(assignEach [e,d] X.env).findIdx? (·.1)=Y:=by rfl):XG X (.Tuple [e,d] a pos) (gT 2 (fB g (fB h jl))):=vL hc (g9 h1 (g9 h2 sE hs2) hs) hn hst
def Kp(x:Str):List (Str×NameKind)->Bool
 |[]=>M
 |(y,.cell)::l=> !(y == x)&&Kp x l
 |_::l=>Kp x l
omit k i in
theorem Ak:∀{l:List (Str×NameKind)},Kp x l=M->(x,NameKind.cell)∉l
 |[],_,m=>nomatch m
 |(y,c)::l,h,m=>by
  rcases aE.mp m with e|a
  ·cases e;have h:=((bA1 _ _).mp h).1;rw[beq_self_eq_true]at h;cases h
  ·cases c with
   |cell=>exact Ak ((bA1 _ _).mp h).2 a
   |_=>exact Ak (l:=l) h a
theorem kz{a:dq}{l:List Nat}(r:∀i∈l,∃x,X.N[i]?=Z x/\a.names.lookup x=Z .free/\(X.env.kindOf x=Z .cell\/X.env.kindOf x=Z .free)/\(x,NameKind.cell)∉a.names)(h1:X.N[i]?=Z x:=by rfl)(h2:a.names.lookup x=Z .free:=by rfl)(b:X.env.kindOf x=Z .cell\/X.env.kindOf x=Z .free:=by first|exact Or.inl rfl|exact Or.inr rfl)(c:Kp x a.names=M:=by rfl):∀j∈i::l,∃x,X.N[j]?=Z x/\a.names.lookup x=Z .free/\(X.env.kindOf x=Z .cell\/X.env.kindOf x=Z .free)/\(x,NameKind.cell)∉a.names:=kc x r h1 h2 b (Ak c)
def LP(X:Cx)(sc:dq):List (Str×da):=(ka X.env.cells sc.names []).getD []
theorem fk{elt tg iter:Expr}{ifs:List Expr}{scope:dq}(T:List Str){keep:List Nat}{m:FI}{g:FG}{t:FT}{e:FE}(hi:XI X tg iter m)(hb:∀ {s H d},Ls (cxC X scope (LP X scope) T keep s H d) X.K tg ifs elt g t e)(free:∀i∈keep,∃x,X.N[i]?=Z x/\scope.names.lookup x=Z .free/\(X.env.kindOf x=Z .cell\/X.env.kindOf x=Z .free)/\(x,NameKind.cell)∉scope.names:=by first|exact cG _|exact kz (cG _)|exact kz (kz (cG _))|exact kz (kz (kz (cG _)))|exact kz (kz (kz (kz (cG _)))))(hc:X.calm=M:=by rfl)(b:scope.kind = .function:=by rfl)(a:∀x∈scope.names,x.2 = .local->scope.names.lookup x.1=Z .local:=by decide+kernel)(c:ka X.env.cells scope.names []=Z (LP X scope):=by rfl)(hs:∀x,foldedSetIterable iter X.env x=pure x:=by intro _;rfl):XE X (.ListComp elt [⟨tg,iter,ifs,0⟩] scope pos) (eO T.length keep m g t (ej e)):=qZ hc ⟨b,a,free⟩ c hi (λ_ _ _=>hb) hs
end
theorem xq{P:db}{w:df}{K:Fg1}{mg:Str->Option c8}{base h:dk}{x:Str}{st:dn}{f:da}{k n:Nat}{b:FS}(N:List Str)(X:K.In h)(G:h.Ns dg mg)(F:d7 K x st f)(c:∀{f:da} {a:c8} {A:de} {d:List Env} {s:c9} {H:Hp} {E:XK},fI k (A.deeper (envOfC x (dQ st) s.heap.objs.size f a)) ->
   vz (m5 uw P w K mg base N x (dQ st) f a A d s H E).nox (ft st) b)(S:gD N (N.take n) (dQ st):=by exact sk)(hb:∀(kV i m:c8) (l:Option da) (a ct:c8) (e:List c8),e.length=(N.take n).length->bindArgs (wF1 x x (ix st) (ft st) (dQ st) .none kV i m l a ct) ⟨e,[]⟩=pure ((N.take n).zip e):=by
   intro _ _ _ _ _ _ e g;first|exact LM g λ_=>rfl|exact LK g λ_ _=>rfl|exact K4 g λ_ _ _=>rfl|exact Ms g λ_ _ _ _=>rfl)(hn:(N.take n).length=n:=by rfl):Own P w K mg base (k+1) x n (ig N.length b):=xo X G F S hb (λ_ _ _ _ _ _ _ j=>c j) hn
def W{α:Type}(o:Option α)(Q:α->Prop):Prop:=∃x,o=Z x/\Q x
section
variable{α β:Type}{Q:α->Prop}
theorem dB{x:α}:W (Z x) Q↔Q x:=⟨λ⟨_,e,h⟩=>(by cases e;exact h),λh=>⟨x,O,h⟩⟩
theorem kJ:W (Y:Option α) Q↔False:=⟨λ⟨_,e,_⟩=>(by cases e),False.elim⟩
theorem dw{o:Option β}{f:β->Option α}:W (o.bind f) Q↔W o λx=>W (f x) Q:=by
 cases o with
 |none=>exact⟨λ⟨_,e,_⟩=>(by cases e),λ⟨_,e,_⟩=>(by cases e)⟩
 |some x=>exact⟨λh=>⟨x,O,h⟩,λ⟨_,e,h⟩=>by cases e;exact h⟩
theorem kw{o:Option β}{f:β->α}:W (o.map f) Q↔W o λx=>Q (f x):=by
 cases o with
 |none=>exact⟨λ⟨_,e,_⟩=>(by cases e),λ⟨_,e,_⟩=>(by cases e)⟩
 |some x=>exact⟨λ⟨_,e,h⟩=>(by cases e;exact⟨x,O,h⟩),λ⟨_,e,h⟩=>(by cases e;exact⟨_,O,h⟩)⟩
theorem qf{c:Prop}[Decidable c]{a b:Option α}:W (if c then a else b) Q↔if c then W a Q else W b Q:=by split<;>exact Iff.rfl
theorem W.mono{o:Option α}{Q':α->Prop}(h:W o Q)(k:∀x,Q x->Q' x):W o Q':=let ⟨x,e,q⟩:=h;⟨x,e,k x q⟩
theorem W.of{o:Option α}{x:α}(e:o=Z x)(h:Q x):W o Q:=⟨x,e,h⟩
end
theorem dS{a b:FS}{r:Ev}{S:Sto}{Q:Fl×Ev×Sto->Prop}(R:Ev->Sto->Prop)(h1:W (a r S) λp=>p.1 = .nx/\R p.2.1 p.2.2)(h2:∀r S,R r S->W (b r S) Q):W (dH a b r S) Q:=by
 obtain⟨⟨f,h,g⟩,e,c,d⟩:=h1;dsimp only at c d;subst c;unfold dH;rw[e];exact h2 h g d
theorem jm{n:Nat}{b:FS}{ds:List D}{S:Sto}{Q:D×Sto->Prop}(h:W (b (fh n ds) S) fun p=>match p.1 with
  | .rt d=>Q (d,p.2.2)
  | .nx=>Q (.non,p.2.2)
  |_=>False):W (ig n b ds S) Q:=by
 obtain⟨⟨f,c,a⟩,e,q⟩:=h;unfold ig;rw[e];cases f with
 |rt d=>exact⟨_,O,q⟩
 |nx=>exact⟨_,O,q⟩
 |bk=>exact q.elim
 |ct=>exact q.elim
theorem oJ{n:Nat}{f:FN}{ds:List D}{S:Sto}{Q:D×Sto->Prop}(hn:ds.length=n)(a:D.unds 0 ds=J)(h:W (f ds S) λp=>Q (gc S.length p)):W (dy n f ds S) Q:=by
 obtain⟨⟨d,b⟩,e,q⟩:=h;exact⟨_,pY e hn a,q⟩
theorem iP{n:Nat}{f:FN}{ds:List D}{S:Sto}{Q:D×Sto->Prop}(hn:ds.length=n)(c:D.unds 0 ds=M)(h:W (f ds []) λp=>p.1.und 0=M/\Q (p.1,S)):W (dy n f ds S) Q:=by
 obtain⟨⟨d,g⟩,e,a,b⟩:=h;exact⟨_,yn e hn c a,b⟩
mutual
theorem kS{n:Nat}:∀{d:D},d.und 0=M->d.und n=M
 | .non,_=>rfl
 | .bl _,_=>rfl
 | .int _,_=>rfl
 | .str _,_=>rfl
 | .tup xs,h=>by rw[D.und]at h ⊢;exact jT h
 | .rol xs,h=>by rw[D.und]at h ⊢;exact jT h
 | .fn _,_=>rfl
 | .ref k,h=>by simp[D.und]at h
theorem jT{n:Nat}:∀{ds:List D},D.unds 0 ds=M->D.unds n ds=M
 |[],_=>rfl
 |d::ds,h=>by
  rw[D.unds,bA1]at h ⊢;exact⟨kS h.1,jT h.2⟩
end
theorem uk{n:Nat}{f:FN}{ds:List D}{o:Ob}{T:Sto}{Q:D×Sto->Prop}(hn:ds.length=n)(b:D.unds 0 ds=J)(a:T.all (Ob.und (T.length+1))=M)(h:W (f ds (o::T)) λp=>∃d o' G,p=(d,o'::(T++G))/\d.und 0=M/\o'.und (T.length+1)=M/\Q (d,o'::T)):W (dy n f ds (o::T)) Q:=by
 refine oJ hn b (h.mono ?_);rintro p ⟨d,o',G,rfl,g,c,q⟩;have e:(o'::(T++G)).take (T.length+1)=o'::T:=by simp
 unfold gc;dsimp only[lC1];rw[ak (by rw[e,kS g,bO,c,a];rfl),e];exact q
theorem eH{c:List (Nat×List D)}{g:FG}{b:FS}{Q:Fl×Ev×Sto->Prop}(I:Nat->Ev->Sto->Prop):∀ (items:List D) (k:Nat) (r:Ev) (S:Sto),I k r S ->
  (∀i r S,I i r S->pc S c=M) ->
  (∀i d,items[i]?=Z d -> ∀r S,I (k+i) r S->W (g d r S) λp=>W (b p.1 p.2) λq=>q.1 = .nx/\I (k+i+1) q.2.1 q.2.2) ->
  (∀r S,I (k+items.length) r S->Q (.nx,r,S))->W (jf c g b items r S) Q
 |[],k,r,S,hi,hok,_,hq=>by rw[jf];dsimp only;rw[ak (hok _ _ _ hi),dB];exact hq r S (by simpa using hi)
 |d::ds,k,r,S,hi,hok,hs,hq=>by
  rw[jf];dsimp only;rw[ak (hok _ _ _ hi),dw];obtain⟨p,h,h1⟩:=hs 0 d O r S (by simpa using hi);refine⟨p,h,?_⟩;dsimp only;rw[dw];obtain⟨⟨f,o,l⟩,n,h2,e⟩:=h1;refine⟨_,n,?_⟩;dsimp only at h2 e ⊢;subst h2;refine eH I ds (k+1) o l (by simpa using e) hok (λi m j r S a=>?_) λr S a=>hq r S (by rw[lC1,show k+(ds.length+1)=k+1+ds.length by lia];exact a);have:=hs (i+1) m (by simpa using j) r S (by rw[show k+(i+1)=k+1+i by lia];exact a);rw[show k+(i+1)+1=k+1+i+1 by lia]at this;exact this
theorem iw{c:List (Nat×List D)}{g:FG}{t:FT}{e:FE}{Q:List D×Ev×Sto->Prop}(I:Nat->List D->Ev->Sto->Prop):∀ (items:List D) (k:Nat) (a:List D) (r:Ev) (S:Sto),I k a r S ->
  (∀i a r S,I i a r S->pc S c=M) ->
  (∀i d,items[i]?=Z d -> ∀a r S,I (k+i) a r S->W (g d r S) λp=>W (t p.1 p.2) λb=>if b.1=M then W (e p.1 b.2) λx=>I (k+i+1) (a++[x.1]) p.1 x.2 else I (k+i+1) a p.1 b.2) ->
  (∀xs r S,I (k+items.length) (a++xs) r S->Q (xs,r,S))->W (gt c g t (ej e) items r S) Q
 |[],k,a,r,S,hi,hok,_,hq=>by rw[gt];dsimp only;rw[ak (hok _ _ _ _ hi),dB];exact hq [] r S (by simpa using hi)
 |d::ds,k,a,r,S,hi,hok,hs,hq=>by
  rw[gt];dsimp only;rw[ak (hok _ _ _ _ hi),dw];obtain⟨p,m,h1⟩:=hs 0 d O a r S (by simpa using hi);refine⟨p,m,?_⟩;dsimp only;rw[dw];obtain⟨⟨b,o⟩,q,h2⟩:=h1;refine⟨_,q,?_⟩;have step:∀i h,ds[i]?=Z h -> ∀a r S,I (k+1+i) a r S->W (g h r S) λp=>W (t p.1 p.2) λb=>if b.1=M then W (e p.1 b.2) λx=>I (k+1+i+1) (a++[x.1]) p.1 x.2 else I (k+1+i+1) a p.1 b.2:=λi h n a r S f=>by
   have:=hs (i+1) h (by simpa using n) a r S (by rw[show k+(i+1)=k+1+i by lia];exact f);rw[show k+(i+1)+1=k+1+i+1 by lia]at this;exact this
  dsimp only at h2 ⊢;cases b with
  |true=>
   rw[ak O]at h2 ⊢;rw[dw,ej,kw];obtain⟨⟨x,s⟩,l,j⟩:=h2;refine⟨_,l,?_⟩;dsimp only at j ⊢;rw[kw];refine iw I ds (k+1) (a++[x]) p.1 s (by simpa using j) hok step λxs r S f=>?_;refine hq _ r S ?_;rw[lC1,show k+(ds.length+1)=k+1+ds.length by lia];simpa using f
  |false=>
   rw[aj (by decide)]at h2 ⊢;refine iw I ds (k+1) a p.1 o (by simpa using h2) hok step λxs r S f=>?_;refine hq _ r S ?_;rw[lC1,show k+(ds.length+1)=k+1+ds.length by lia];exact f
theorem Fd{S:Sto}{b:Bool}:qo S (.bl b)=Z b:=rfl
theorem Kh{S:Sto}:qo S .non=Z J:=rfl
theorem Ki{S:Sto}{i:Int}:qo S (.int i)=Z (i != 0):=rfl
theorem DQ{x y:Int}{S:Sto}:gEq (.int x) (.int y) S=Z (.bl (x == y),S):=rfl
theorem DM{x y:Int}{S:Sto}:gNe (.int x) (.int y) S=Z (.bl (!(x == y)),S):=rfl
theorem DO{x y:Int}{S:Sto}:gLt (.int x) (.int y) S=Z (.bl (decide (x<y)),S):=rfl
theorem DP{x y:Str}{S:Sto}:gEq (.str x) (.str y) S=Z (.bl (x == y),S):=rfl
theorem DH{x y:Str}{S:Sto}:gNe (.str x) (.str y) S=Z (.bl (!(x == y)),S):=rfl
theorem ite_and'{c p:Prop}[Decidable c]:(if c then p else False)↔c/\p:=by split<;>simp[*]
def yB(j:Int):Bool:=decide (-(2^62)<=j)&&decide (j<2^62)
theorem fX{n:Nat}(h:n<2^60):yB n=M:=by
 unfold yB;rw[bA1,am,am];lia
theorem sj{j:Int}(h: -(2^60)<=j)(h':j<2^60):yB j=M:=by
 unfold yB;rw[bA1,am,am];lia
def IB(p:List D×Sto)(Q:yx×Sto->Prop):Prop:=match p.1 with
 |[.int j]=>yB j=M/\Q (⟨gH 0 j.toNat,[]⟩,p.2)
 |_=>False
def Km(p:List D×Sto)(Q:yx×Sto->Prop):Prop:=match p.1 with
 |[.int i,.int j]=>yB i=M/\yB j=M/\Q (⟨gH i (j-i).toNat,[]⟩,p.2)
 |_=>False
theorem xc{m:FA}{r:Ev}{S:Sto}{Q:yx×Sto->Prop}:W (sA m r S) Q↔W (m r S) λp=>IB p Q:=by
 unfold sA;rw[dw];constructor
 ·refine λh=>h.mono λp q=>?_;unfold IB;split at q
  ·rename_i j e
   try rw[e]
   rw[qf]at q;split at q
   ·rename_i hc;exact⟨by unfold yB;rw[bA1,am,am];exact hc,dB.mp q⟩
   ·exact(kJ.mp q).elim
  ·exact(kJ.mp q).elim
 ·refine λh=>h.mono λp q=>?_;unfold IB at q;split at q
  ·rename_i j e;obtain⟨a,b⟩:=q;unfold yB at a;rw[bA1,am,am]at a
   try rw[e]
   try dsimp only
   rw[ak a];exact dB.mpr b
  ·exact q.elim
theorem J0{m:FA}{r:Ev}{S:Sto}{Q:yx×Sto->Prop}:W (HU m r S) Q↔W (m r S) λp=>Km p Q:=by
 unfold HU;rw[dw];constructor
 ·refine λh=>h.mono λp q=>?_;unfold Km;split at q
  ·rename_i i j e
   try rw[e]
   rw[qf]at q;split at q
   ·rename_i hc;refine⟨?_,?_,dB.mp q⟩
    ·unfold yB;rw[bA1,am,am];exact⟨hc.1,hc.2.1⟩
    ·unfold yB;rw[bA1,am,am];exact hc.2.2
   ·exact(kJ.mp q).elim
  ·exact(kJ.mp q).elim
 ·refine λh=>h.mono λp q=>?_;unfold Km at q;split at q
  ·rename_i i j e;obtain⟨a,b,c⟩:=q;unfold yB at a b;rw[bA1,am,am]at a b
   try rw[e]
   try dsimp only
   rw[ak ⟨a.1,a.2,b⟩];exact dB.mpr c
  ·exact q.elim
def fits(n:Nat):Bool:=decide (n<=di)
theorem dG{n:Nat}(h:n<=100000):fits n=M:=by unfold fits;rw[am];exact aC h (by decide)
theorem t3{n:Nat}:fits n=M↔n<=di:=by unfold fits;rw[am]
theorem MD:fits 0=M:=dG (by decide)
theorem MC:fits 1=M:=dG (by decide)
theorem LO:fits 2=M:=dG (by decide)
theorem MB:fits 3=M:=dG (by decide)
theorem Mz:fits 4=M:=dG (by decide)
theorem My:fits 5=M:=dG (by decide)
theorem Mx:fits 6=M:=dG (by decide)
theorem MM:fits 7=M:=dG (by decide)
theorem ML:fits 8=M:=dG (by decide)
theorem iB{α:Type}{n:Nat}{o:Option α}{Q:α->Prop}:W (if n<=di then o else Y) Q↔fits n=M/\W o Q:=by
 rw[t3,qf];split
 ·rename_i h;exact⟨λq=>⟨h,q⟩,λq=>q.2⟩
 ·rename_i h;exact⟨λq=>(kJ.mp q).elim,λq=>absurd q.1 h⟩
theorem ss{a:FA}{r:Ev}{S:Sto}{Q:D×Sto->Prop}:W (dR a r S) Q↔W (a r S) λp=>fits p.1.length=M/\Q (.tup p.1,p.2):=by
 unfold dR;rw[dw];exact⟨λh=>h.mono λp q=>(iB.mp q).imp_right dB.mp,λh=>h.mono λp q=>iB.mpr (q.imp_right dB.mpr)⟩
theorem BF{a:FA}{r:Ev}{S:Sto}{Q:D×Sto->Prop}:W (eP a r S) Q↔W (a r S) λp=>fits p.1.length=M/\Q (.ref p.2.length,p.2++[.lst p.1]):=by
 unfold eP;rw[dw];exact⟨λh=>h.mono λp q=>(iB.mp q).imp_right dB.mp,λh=>h.mono λp q=>iB.mpr (q.imp_right dB.mpr)⟩
theorem lO{k:Nat}{keep:List Nat}{m:FI}{g:FG}{t:FT}{b:FV}{r:Ev}{S:Sto}{Q:D×Sto->Prop}:W (eO k keep m g t b r S) Q↔W (m r S) λp=>W (gt p.1.chk g t b p.1.items (l9 k keep r) p.2) λq=>fits q.1.length=M/\Q (.ref q.2.2.length,q.2.2++[.lst q.1]):=by
 unfold eO;rw[dw];refine⟨λh=>h.mono λp q=>?_,λh=>h.mono λp q=>?_⟩
 ·rw[dw]at q;exact q.mono λz w=>(iB.mp w).imp_right dB.mp
 ·rw[dw];exact q.mono λz w=>iB.mpr (w.imp_right dB.mpr)
theorem HJ{xs ys:List D}{S:Sto}{Q:D×Sto->Prop}:W (eu (.tup xs) (.tup ys) S) Q↔fits (xs.length+ys.length)=M/\Q (.tup (xs++ys),S):=
 ⟨λq=>(iB.mp q).imp_right dB.mp,λq=>iB.mpr (q.imp_right dB.mpr)⟩
theorem BM{x y:Int}{S:Sto}{Q:D×Sto->Prop}:W (eu (.int x) (.int y) S) Q↔Q (.int (x+y),S):=dB
theorem BK{a b:Nat}{xs ys:List D}{S:Sto}{Q:D×Sto->Prop}(h1:S[a]?=Z (.lst xs))(h2:S[b]?=Z (.lst ys)):W (eu (.ref a) (.ref b) S) Q↔fits (xs.length+ys.length)=M/\Q (.ref S.length,S++[.lst (xs++ys)]):=by
 rw[eu];simp only[h1,h2];exact⟨λq=>(iB.mp q).imp_right dB.mp,λq=>iB.mpr (q.imp_right dB.mpr)⟩
theorem ji{n:Nat}{v:D}{xs:List D}{S:Sto}{Q:D×Sto->Prop}(h:S[n]?=Z (.lst xs)):W (gJ (.ref n) v S) Q↔fits (xs.length+1)=M/\Q (.non,S.set n (.lst (xs++[v]))):=by
 rw[gJ];simp only[h];rw[qf,t3];split
 ·rename_i a;exact⟨λq=>⟨a,dB.mp q⟩,λq=>dB.mpr q.2⟩
 ·rename_i a;exact⟨λq=>(kJ.mp q).elim,λq=>absurd q.1 a⟩
theorem iR{n:Nat}{i:Nat}{xs:List D}{x:D}{S:Sto}{Q:D×Sto->Prop}(h:S[n]?=Z (.lst xs))(hx:xs[i]?=Z x)(q:Q (x,S)):W (dD (.ref n) (.int i) S) Q:=by
 refine W.of (x:=(x,S)) ?_ q;have a:=(gE1.mp hx).1;simp only[dD,m3,BS,h,dP,vw,xZ,oS1,ak (show(0:Int)<=i by lia)];rw[ak (by lia)];simp[hx]
theorem lN{i:Nat}{xs:List D}{x:D}{S:Sto}{Q:D×Sto->Prop}(hx:xs[i]?=Z x)(q:Q (x,S)):W (dD (.tup xs) (.int i) S) Q:=by
 refine W.of (x:=(x,S)) ?_ q;have a:=(gE1.mp hx).1;simp only[dD,m3,BS,dP,vw,xZ,oS1,ak (show(0:Int)<=i by lia)];rw[ak (by lia)];simp[hx]
theorem Mp:aP 0 (Y:Option D)=[]:=rfl
theorem Mo:aP 1 (Y:Option D)=[Y]:=rfl
theorem Me:aP 2 (Y:Option D)=[Y,Y]:=rfl
theorem Mc:aP 3 (Y:Option D)=[Y,Y,Y]:=rfl
theorem Mb:aP 4 (Y:Option D)=[Y,Y,Y,Y]:=rfl
theorem Ma:aP 5 (Y:Option D)=[Y,Y,Y,Y,Y]:=rfl
theorem L9:aP 6 (Y:Option D)=[Y,Y,Y,Y,Y,Y]:=rfl
theorem MK:aP 7 (Y:Option D)=[Y,Y,Y,Y,Y,Y,Y]:=rfl
theorem L8:aP 8 (Y:Option D)=[Y,Y,Y,Y,Y,Y,Y,Y]:=rfl
theorem MJ:aP 9 (Y:Option D)=[Y,Y,Y,Y,Y,Y,Y,Y,Y]:=rfl
theorem Mn:aP 10 (Y:Option D)=[Y,Y,Y,Y,Y,Y,Y,Y,Y,Y]:=rfl
theorem Mm:aP 11 (Y:Option D)=[Y,Y,Y,Y,Y,Y,Y,Y,Y,Y,Y]:=rfl
theorem KO:aP 12 (Y:Option D)=[Y,Y,Y,Y,Y,Y,Y,Y,Y,Y,Y,Y]:=rfl
theorem Iz:aP 13 (Y:Option D)=[Y,Y,Y,Y,Y,Y,Y,Y,Y,Y,Y,Y,Y]:=rfl
theorem Ml:aP 14 (Y:Option D)=[Y,Y,Y,Y,Y,Y,Y,Y,Y,Y,Y,Y,Y,Y]:=rfl
theorem Mk:aP 15 (Y:Option D)=[Y,Y,Y,Y,Y,Y,Y,Y,Y,Y,Y,Y,Y,Y,Y]:=rfl
theorem Mj:aP 16 (Y:Option D)=[Y,Y,Y,Y,Y,Y,Y,Y,Y,Y,Y,Y,Y,Y,Y,Y]:=rfl
theorem Mh:aP 17 (Y:Option D)=[Y,Y,Y,Y,Y,Y,Y,Y,Y,Y,Y,Y,Y,Y,Y,Y,Y]:=rfl
theorem Mg:aP 18 (Y:Option D)=[Y,Y,Y,Y,Y,Y,Y,Y,Y,Y,Y,Y,Y,Y,Y,Y,Y,Y]:=rfl
theorem Mf:aP 19 (Y:Option D)=[Y,Y,Y,Y,Y,Y,Y,Y,Y,Y,Y,Y,Y,Y,Y,Y,Y,Y,Y]:=rfl
theorem Md:aP 20 (Y:Option D)=[Y,Y,Y,Y,Y,Y,Y,Y,Y,Y,Y,Y,Y,Y,Y,Y,Y,Y,Y,Y]:=rfl
theorem eD{α:Type}{T G:List α}{k:Nat}:(T++G)[T.length+k]?=G[k]?:=by rw[gR1 (by lia)];congr 1;lia
theorem dF{α:Type}{T G:List α}:(T++G)[T.length]?=G[0]?:=by rw[gR1 (by lia)];congr 1;lia
theorem DL{S:Sto}{i j:Nat}{xs:List D}(h:S[i]?=Z (.lst xs))(h':S[j]?=Z (.lst [])):gNe (.ref i) (.ref j) S=Z (.bl (!xs.isEmpty),S):=by
 unfold gNe d4;rw[show(60:Nat)=59+1 from rfl,kG];simp only[dP,h,h'];cases xs with
 |nil=>simp[A9]
 |cons x xs=>simp
theorem nf:∀(n:Nat) (lo:Int),gH lo n=(af n).map λi:Nat=>D.int (lo+i)
 |0,lo=>rfl
 |n+1,lo=>by
  rw[gH,nf n (lo+1),List.range_succ_eq_map,mP1,bt]
  congr 1
  ·simp
  ·apply cH;intro i _;simp only[Function.comp_apply,cI]
   congr 1
   push_cast
   lia
theorem lj(n:Nat):gH 0 n=(af n).map λi:Nat=>D.int i:=by
 rw[nf];apply cH;intro i _;simp
theorem j6{α:Type}{c:List (Nat×List D)}{g:FG}{t:FT}{e:FE}{S:Sto}{f:α->D}{Q:List D×Ev×Sto->Prop}(F:α->D)(P:Ev->Prop)(d:pc S c=true):∀ (xs:List α) (r:Ev),P r ->
  (∀a∈xs,∀r,P r->W (g (f a) r S) λp=>W (t p.1 p.2) λb=>b.1=M/\W (e p.1 b.2) λx=>x.1=F a/\x.2=S/\P p.1) ->
  (∀i,P i->Q (xs.map F,i,S))->W (gt c g t (ej e) (xs.map f) r S) Q
 |[],r,hr,_,h=>by rw[aZ,gt];dsimp only;rw[ak d,dB];exact h r hr
 |a::xs,r,hr,hs,h=>by
  rw[mP1,gt];dsimp only;rw[ak d,dw];obtain⟨p,l,⟨b,u,s,⟨x,k,n,m,q⟩⟩⟩:=hs a mS1 r hr;refine⟨p,l,?_⟩;dsimp only;rw[dw];refine⟨b,u,?_⟩;dsimp only;rw[ak s,dw,ej,kw];refine⟨x,k,?_⟩;dsimp only;rw[m,kw];refine j6 F P d xs p.1 q (λa o=>hs a (mC1 _ o)) λi j=>?_;have:=h i j;rw[mP1,<- n]at this;exact this
theorem rT{α:Type}{c:List (Nat×List D)}{g:FG}{t:FT}{e:FE}{S:Sto}{f:α->D}{Q:List D×Ev×Sto->Prop}(k:α->Bool)(F:α->D)(P:Ev->Prop)(d:pc S c=true):∀ (xs:List α) (r:Ev),P r ->
  (∀a∈xs,∀r,P r->W (g (f a) r S) λp=>W (t p.1 p.2) λb=>b.1=k a/\b.2=S/\P p.1/\(k a=M->W (e p.1 S) λx=>x.1=F a/\x.2=S)) ->
  (∀j,P j->Q ((xs.filter k).map F,j,S))->W (gt c g t (ej e) (xs.map f) r S) Q
 |[],r,hr,_,h=>by rw[aZ,gt];dsimp only;rw[ak d,dB];exact h r hr
 |a::xs,r,hr,hs,h=>by
  rw[mP1,gt];dsimp only;rw[ak d,dw];obtain⟨p,v,⟨b,w,s,o,q,l⟩⟩:=hs a mS1 r hr;refine⟨p,v,?_⟩;dsimp only;rw[dw];refine⟨b,w,?_⟩;dsimp only;cases hk:k a with
  |true=>
   rw[s,hk,ak O,dw,ej,kw,o];obtain⟨x,u,l,n⟩:=l hk;refine⟨x,u,?_⟩;dsimp only;rw[n,kw];refine rT k F P d xs p.1 q (λa m=>hs a (mC1 _ m)) λj i=>?_;have:=h j i;rw[bc,hk,ak O,mP1,<- l]at this;exact this
  |false=>
   rw[s,hk,aj (by decide),o];refine rT k F P d xs p.1 q (λa m=>hs a (mC1 _ m)) λj i=>?_;have:=h j i;rw[bc,hk,aj (by decide)]at this;exact this
theorem oR{α:Type}{f:α->Bool}:∀xs:List α,Mi.BC (xs.map λx=>D.bl (f x))=Z (xs.all f)
 |[]=>rfl
 |x::xs=>by rw[mP1,Mi.BC,oR xs];rfl
mutual
theorem yX{n m:Nat}(h:n<=m):∀{d:D},d.und n=M->d.und m=M
 | .non,_=>rfl
 | .bl _,_=>rfl
 | .int _,_=>rfl
 | .str _,_=>rfl
 | .tup xs,q=>by rw[D.und]at q ⊢;exact il h q
 | .rol xs,q=>by rw[D.und]at q ⊢;exact il h q
 | .fn _,_=>rfl
 | .ref k,q=>by simp[D.und]at q ⊢;lia
theorem il{n m:Nat}(h:n<=m):∀{ds:List D},D.unds n ds=M->D.unds m ds=M
 |[],_=>rfl
 |d::ds,q=>by
  rw[D.unds,bA1]at q ⊢;exact⟨yX h q.1,il h q.2⟩
end
theorem fP{n m:Nat}(h:n<=m):∀{o:Ob},o.und n=M->o.und m=M
 | .lst xs,q=>by rw[Ob.und]at q ⊢;exact il h q
 | .dct xs,q=>by rw[Ob.und]at q ⊢;exact il h q
 | .dcT xs,q=>by rw[Ob.und]at q ⊢;exact il h q
 | .dcF xs,q=>by rw[Ob.und]at q ⊢;exact il h q
 | .iset _,_=>rfl
 | .tst _,_=>rfl
theorem Ll{k:Nat}{T G:Sto}(h:T.all (Ob.und (T.length+k))=M)(hg:G.all (Ob.und 0)=M):(T++G).all (Ob.und ((T++G).length+k))=M:=by
 rw[cJ,bA1];rw[bA]at h hg;refine⟨bA.mpr λo a=>fP (by rw[lA1];lia) (h o a),bA.mpr λo a=>fP (bh _) (hg o a)⟩
theorem su{n:Nat}{xs:List Int}{S:Sto}{Q:D×Sto->Prop}(h:S[n]?=Z (.iset xs))(q:Q (.int xs.length,S)):W (ou (.ref n) S) Q:=by
 refine W.of ?_ q;unfold ou;simp only[h]
theorem eR{α:Type}{n:Nat}{f:α->D}:∀{xs:List α},(∀x∈xs,(f x).und n=M)->D.unds n (xs.map f)=M
 |[],_=>rfl
 |x::xs,h=>by rw[mP1,D.unds,h x mS1,eR λy a=>h y (mC1 _ a)];rfl
theorem LQ{x:Nat}:x+1+1=x+2:=rfl
theorem MV{x:Nat}:x+2+1=x+3:=rfl
theorem MU{x:Nat}:x+3+1=x+4:=rfl
theorem MR{x:Nat}:x+4+1=x+5:=rfl
theorem MQ{x:Nat}:x+5+1=x+6:=rfl
theorem MP{x:Nat}:x+6+1=x+7:=rfl
theorem MF{x:Nat}:x+1+2=x+3:=rfl
theorem fz{xs:List D}{S:Sto}:dV (.tup xs) S=Z (.int xs.length,S):=rfl
theorem Kq{xs:List D}{S:Sto}:dV (.rol xs) S=Z (.int xs.length,S):=rfl
theorem Jr{S:Sto}:dV (.str "") S=Z (.int 0,S):=rfl
theorem jU{xs:List D}{S:Sto}:dP S (.tup xs)=Z (J,xs):=rfl
theorem Kk{xs:List D}{S:Sto}:dP S (.rol xs)=Z (M,xs):=rfl
theorem DZ{xs:List D}{S:Sto}:jK S (.tup xs)=[]:=rfl
theorem Kt{xs:List D}{S:Sto}:jK S (.rol xs)=[]:=rfl
theorem gj{n:Nat}{xs:List D}{S:Sto}(h:S[n]?=Z (.lst xs)):dP S (.ref n)=Z (M,xs):=by simp only[dP,h]
theorem r0{n:Nat}{xs:List D}{S:Sto}(h:S[n]?=Z (.lst xs)):jK S (.ref n)=[(n,xs)]:=by simp only[jK,h]
def sW(S:Sto)(d:D)(Q:List D×List (Nat×List D)->Prop):Prop:=W (dP S d) λq=>Q (q.2,jK S d)
theorem kB{xs:List D}{S:Sto}{Q:List D×List (Nat×List D)->Prop}:sW S (.tup xs) Q↔Q (xs,[]):=dB
theorem d5{n:Nat}{xs:List D}{S:Sto}{Q:List D×List (Nat×List D)->Prop}(h:S[n]?=Z (.lst xs))(q:Q (xs,[(n,xs)])):sW S (.ref n) Q:=by
 unfold sW;rw[gj h,r0 h,dB];exact q
theorem ml{m:FE}{r:Ev}{S:Sto}{Q:yx×Sto->Prop}:W (gU m r S) Q↔W (m r S) λp=>sW p.2 p.1 λq=>Q (⟨q.1,q.2⟩,p.2):=by
 unfold gU;rw[dw];refine⟨λh=>h.mono λp q=>?_,λh=>h.mono λp q=>?_⟩
 ·rw[dw]at q;exact q.mono λz w=>dB.mp w
 ·rw[dw];exact W.mono (show W (dP p.2 p.1) _ from q) λz w=>dB.mpr w
theorem HH{d:D}{S:Sto}{Q:D×Sto->Prop}:W (Mi.gTup d S) Q↔sW S d λq=>Q (.tup q.1,S):=by
 unfold Mi.gTup;rw[kw];exact Iff.rfl
theorem JY{n:Nat}{S:Sto}{Q:D×Sto->Prop}:W (dV (.ref n) S) Q↔sW S (.ref n) λq=>Q (.int q.1.length,S):=by
 unfold dV sW;rw[kw]
def pD(e:Nat×Nat):D:=.tup [.int e.1,.int e.2]
theorem vi{S:Sto}{n:Nat}{a b:Nat×Nat}:kG S (n+2) (pD a) (pD b)=Z (a == b):=by
 obtain⟨a1,a2⟩:=a;obtain⟨b1,b2⟩:=b;rw[kG];have d:∀x y:Nat,kG S (n+1) (.int x) (.int y)=Z ((x:Int) == (y:Int)):=λx y=>rfl;have c:∀x y:Nat,((x:Int) == (y:Int))=(x == y):=λx y=>by
  rw[bP,beq_iff_eq,beq_iff_eq];lia
 simp[pD,dP,A9,d,c];rfl
theorem wW{S:Sto}{n:Nat}{e:Nat×Nat}:∀b:List (Nat×Nat),ye (kG S (n+2)) (pD e) (b.map pD)=Z (b.map λa=>a == e)
 |[]=>rfl
 |a::b=>by rw[mP1,ye,vi,wW b];rfl
theorem HG{S:Sto}{n j:Nat}{row:List (Nat×Nat)}{e:Nat×Nat}{Q:D×Sto->Prop}(h:S[n]?=Z (.lst (row.map pD)))(b:row.length<1000)(a:row.findIdx? (· == e)=Z j)(q:Q (.int j,S)):W (A2 (.ref n) (pD e) S) Q:=by
 refine W.of ?_ q;unfold A2 d4;simp only[h,show(60:Nat)=58+2 from rfl,wW,oS1,lM1];rw[ak (by lia),List.findIdx?_map];simp[Function.comp_def,a]
theorem gX{f:FN}{o:FE}{a:FA}{r:Ev}{S:Sto}{Q:D×Sto->Prop}(h:W (o r S) λp=>∃n xs,p.1 = .ref n/\p.2[n]?=Z (.lst xs)/\W (a r p.2) λq=>W (f (.ref n::q.1) q.2) Q):W (mH f o a r S) Q:=by
 unfold mH;rw[dw];refine h.mono ?_;rintro⟨d,b⟩ ⟨n,xs,rfl,e,q⟩;dsimp only at e q ⊢;rw[e];dsimp only;rw[dw];exact q
theorem qy:∀{k n i:Nat},i<k->(j5 n k)[i]?=Z (.ref (n+i))
 |k+1,n,0,_=>rfl
 |k+1,n,i+1,h=>by rw[j5,gC1,qy (Nat.lt_of_succ_lt_succ h),show n+1+i=n+(i+1) by lia]
theorem lb:∀k n:Nat,(j5 n k).length=k
 |0,_=>rfl
 |k+1,n=>by rw[j5,lC1,lb]
def tot(E:List (List (Nat×Nat))):Nat:=(E.map List.length).sum
def nmD(rs:List Nat):List D:=rs.map λi:Nat=>D.int i
theorem ea(rs:List Nat):(nmD rs).length=rs.length:=by simp[nmD]
theorem fy(rs:List Nat):D.unds 0 (nmD rs)=M:=eR λ_ _=>rfl
theorem rF{S:Sto}{n:Nat}{x:Nat}:∀cs:List Nat,BQ (kG S (n+1)) (.int x) (nmD cs)=Z (cs.contains x)
 |[]=>rfl
 |c::cs=>by
  have b:kG S (n+1) (.int c) (.int x)=Z ((c:Int) == (x:Int)):=rfl;have a:((c:Int) == (x:Int))=(x == c):=by
   rw[bP,beq_iff_eq,beq_iff_eq];lia
  have ih:=rF (S:=S) (n:=n) (x:=x) cs;rw[nmD,mP1,BQ,b,a];rw[nmD]at ih;rw[ih,b7];rfl
theorem wL{S:Sto}{x:Nat}{cs:List Nat}:m4 (.int x) (.tup (nmD cs)) S=Z (.bl (cs.contains x),S):=by
 simp only[m4,ve,HV,dP,oS1,d4,show(60:Nat)=59+1 from rfl,rF,oP1]
theorem AO{κ:Type}[DecidableEq κ]{k:κ}:dM ([]:List (κ×D)) k=Y:=rfl
theorem fM{κ:Type}[DecidableEq κ]{k a:κ}{d:D}{r:List (κ×D)}:dM ((a,d)::r) k=if a=k then Z d else dM r k:=by
 unfold dM;rw[a0];by_cases h:a=k
 ·simp[h]
 ·simp[h]
theorem oa{κ:Type}[DecidableEq κ]{k:κ}{b:List (κ×D)}:∀{a:List (κ×D)},dM (a++b) k=(dM a k).or (dM b k)
 |[]=>rfl
 |(x,d)::a=>by
  rw[bi,fM,fM,oa (a:=a)];split<;>rfl
theorem j0{κ:Type}[DecidableEq κ]{k:κ}:∀{a:List (κ×D)},(a.any λp=>decide (p.1=k))=J->dM a k=Y
 |[],_=>rfl
 |(x,d)::a,h=>by
  simp only[ba,Bool.or_eq_false_iff,decide_eq_false_iff_not]at h;rw[fM,aj h.1];exact j0 h.2
theorem l5{κ:Type}[DecidableEq κ]{k k':κ}{v:D}:∀{a:List (κ×D)},(a.any λp=>decide (p.1=k))=M->dM (a.map λp=>if p.1=k then(p.1,v)else p) k'=if k'=k then Z v else dM a k'
 |[],h=>by simp at h
 |(x,d)::a,h=>by
  rw[mP1];by_cases f:x=k
  ·subst f;rw[ak (show(x,d).1=x from rfl)];rw[fM,fM];by_cases e:k'=x
   ·subst e;simp
   ·rw[aj (Ne.symm e),aj (Ne.symm e),aj e];by_cases g:(a.any λp=>decide (p.1=x))=M
    ·rw[l5 g,aj e]
    ·have:(a.map fun p=>if p.1=x then (p.1,v) else p)=a:=by
      have b:(a.any λp=>decide (p.1=x))=J:=cK.mpr g;rw[List.any_eq_false]at b
      conv=>rhs;rw[<- List.map_id a]
      apply cH;intro p i;have:=b p i;simp at this;simp[this]
     rw[this]
  ·simp only[ba,ai f,Bool.false_or]at h;rw[aj (show¬ (x,d).1=k from f)];rw[fM,fM,l5 h];by_cases c:x=k'
   ·subst c;simp[f]
   ·simp[c]
theorem jB{κ:Type}[DecidableEq κ]{k k':κ}{v:D}{a:List (κ×D)}:dM (g6 a k v) k'=if k'=k then Z v else dM a k':=by
 unfold g6;split
 ·rename_i h;exact l5 h
 ·rename_i h;have h':(a.any λp=>decide (p.1=k))=J:=cK.mpr h;rw[oa,fM,AO];by_cases b:k'=k
  ·subst b;rw[j0 h',ak O];rfl
  ·rw[aj (Ne.symm b),aj b];cases dM a k'<;>rfl
theorem qB{κ:Type}[DecidableEq κ]{k:κ}{v:D}{a:List (κ×D)}:(g6 a k v).length<=a.length+1:=by
 unfold g6;split
 ·rw[lM1];lia
 ·rw[lA1];simp
theorem FB{κ:Type}[DecidableEq κ]{k:κ}{v:D}{a:List (κ×D)}:g6 a k v≠[]:=by
 unfold g6;split
 ·rename_i h;intro z;cases a with
  |nil=>simp at h
  |cons x xs=>simp at z
 ·simp
def dO(F:List (TK×D)):Ob:=if F=[]then .dct []else .dcT F
theorem vB{U:Sto}{n:Nat}{F:List (TK×D)}{key v:D}{k:TK}{Q:D×Sto->Prop}(h:U[n]?=Z (dO F))(hk:iM key=Z k)(b:F.length<1000)(q:Q (.non,U.set n (dO (g6 F k v)))):W (jg (.ref n) key v U) Q:=by
 refine W.of ?_ q;unfold dO at h ⊢;rw[aj FB];by_cases a:F=[]
 ·subst a;rw[ak O]at h;simp only[jg,h,hk];rfl
 ·rw[aj a]at h;simp only[jg,h,hk,oS1];rw[ak (nL1 b (by decide))]
theorem BG{U:Sto}{n:Nat}{F:List (TK×D)}{key v:D}{k:TK}{Q:D×Sto->Prop}(h:U[n]?=Z (dO F))(hk:iM key=Z k)(hv:dM F k=Z v)(q:Q (v,U)):W (dD (.ref n) key U) Q:=by
 refine W.of ?_ q;unfold dO at h;by_cases a:F=[]
 ·subst a;cases hv
 ·rw[aj a]at h;simp only[dD,h,hk,oS1,hv,oP1]
def HR(e:Nat×Nat):TK:=.tup [.int e.1,.int e.2]
theorem BE{U:Sto}{n i:Nat}{xs:List D}{x:D}{Q:D×Sto->Prop}(h:U[n]?=Z (.lst xs))(hx:xs[i]?=Z x)(hb:i<1000)(q:Q (x,U.set n (.lst (xs.eraseIdx i)))):W (yc (.ref n) (.int i) U) Q:=by
 have a:=(gE1.mp hx).1;refine W.of ?_ q;simp only[yc,h];rw[ak ⟨by lia,by lia⟩];simp only[xZ,ak (show(0:Int)<=i by lia)];rw[ak (by lia)];simp[hx]
theorem rJ{d:D}{S G:Sto}(hd:d.und 0=M)(a:S.all (Ob.und S.length)=M):gc S.length (d,S++G)=(d,S):=by
 unfold gc;dsimp only;rw[List.take_left,ak (by rw[kS hd,a];rfl)]
theorem zp_map{α:Type}{f g:α->D}:∀l:List α,uD (l.map f) (l.map g)=l.map λx=>D.tup [f x,g x]
 |[]=>rfl
 |a::l=>by rw[mP1,mP1,uD,zp_map l];rfl
theorem oS{m:FA}{r:Ev}{S:Sto}{xs:List D}{Q:yx×Sto->Prop}(hm:m r S=Z ([.tup xs],S))(q:Q (⟨sC 0 xs,[]⟩,S)):W (om m r S) Q:=by
 refine W.of (x:=(⟨sC 0 xs,[]⟩,S)) ?_ q;simp only[om,hm,oS1,jU,DZ]
theorem Bc{α:Type}{f:α->D}:∀(l:List α) (k:Nat),sC k (l.map f)=(l.zipIdx k).map λp=>D.tup [.int (p.2:Nat),f p.1]
 |[],_=>rfl
 |a::l,k=>by rw[mP1,sC,Bc l (k+1),bJ];rfl
theorem xj{α:Type}{l:List α}{p:α×Nat}(h:p∈l.zipIdx):l[p.2]?=Z p.1:=by
 have:=cM.mp h;exact this
mutual
theorem zv{n:Nat}:∀{d:D},d.und 0=M->d.sh n=d
 | .non,_=>rfl
 | .bl _,_=>rfl
 | .int _,_=>rfl
 | .str _,_=>rfl
 | .tup xs,h=>by rw[D.und]at h;rw[D.sh,kW h]
 | .rol xs,h=>by rw[D.und]at h;rw[D.sh,kW h]
 | .fn _,_=>rfl
 | .ref k,h=>by simp[D.und]at h
theorem kW{n:Nat}:∀{ds:List D},D.unds 0 ds=M->D.shs n ds=ds
 |[],_=>rfl
 |d::ds,h=>by
  rw[D.unds,bA1]at h;rw[D.shs,zv h.1,kW h.2]
end
theorem JP{n:Nat}{f:FN}{ds:List D}{S:Sto}{Q:D×Sto->Prop}(hn:ds.length=n)(b:D.unds 0 ds=M)(h:W (f ds []) λp=>∃xs,p=(.ref 0,[.lst xs])/\D.unds 0 xs=M/\Q (.ref S.length,S++[.lst xs])):W (dy n f ds S) Q:=by
 obtain⟨p,e,xs,rfl,d,q⟩:=h;refine⟨_,oI e hn b O,?_⟩;have c:(D.ref 0).sh S.length = .ref S.length:=rfl;have a:[Ob.lst xs].map (Ob.sh S.length)=[Ob.lst xs]:=by rw[mP1,aZ,Ob.sh,kW d]
 rw[c,a];exact q
theorem DA(xs:List Nat):jG (nmD xs)=Z (xs.map λ(r:Nat)=>(r:Int)):=by
 induction xs with
 |nil=>rfl
 |cons x xs ih=>
  show(jG (nmD xs)).map _=_;rw[ih];rfl
end Mi
end
local macro_rules | `(tactic| walk_at"w") => `(tactic| simp only[Mi.dB, Mi.kJ, Mi.ite_and', Mi.dw, Mi.kw, Mi.qf, Mi.dH, Mi.dL, Mi.eJ, Mi.d6, Mi.eU, Mi.jk, Mi.mN, Mi.dr, Mi.dt, Mi.m2, Mi.m1, Mi.mV, Mi.mC, Mi.ss, Mi.BF, Mi.mB, Mi.rn, Mi.mOr, Mi.gI, Mi.iL, Mi.pF, Mi.HS, Mi.fx, Mi.mTr, Mi.Fd, Mi.gN, Mi.gT, Mi.fB, Mi.jl, Mi.gS, Mi.b1, Mi.b2, Mi.b3, Mi.ig, Mi.fh, Mi.lO, Mi.xc, Mi.J0, Mi.IB, Mi.Km, Mi.eZ, Mi.l9, Mi.HJ, Mi.BM, Mi.gSub, Mi.i4, Mi.pe, Mi.DQ, Mi.DM, Mi.DO, Mi.DP, Mi.DH, Mi.MD, Mi.MC, Mi.LO, Mi.MB, Mi.Mz, Mi.My, Mi.Mx, true_and, Mi.eD, Mi.dF, bF, lA1, cN, gC1, List.getElem?_nil, cO, cy, lC1, bb, mP1, aZ, Mi.Mp, Mi.Mo, Mi.Me, Mi.Mc, Mi.Mb, Mi.Ma, Mi.L9, Mi.L8, Mi.KO, Mi.Iz, cP, bi, aM, cQ, Nat.reduceSub, cR, Option.join_none, oP1, Option.map_none, oS1, Option.bind_none, if_true, if_false, bF1, b0, cr, ite_true, ite_false, reduceIte, decide_true, decide_false, Mi.LQ, Mi.MF, Mi.fz, Mi.jU, Mi.ml, Mi.HH, Mi.JY])
noncomputable section
namespace Law
open PySem PySem.Spec PyProof.Rows L2 Mi
def top (i:Nat):dn:=PySem.Challenge.pw_ringmeet_k37_papers_of_anything.main.body.getD i (.Pass ⟨0,0,0,0⟩)
abbrev BL:List Str:=["all","any","bool","enumerate","int","isinstance","len","list","max","min","range","set","sorted","str","tuple","zip"]
section
variable{P:db}{w:df}{K:Fg1}{mg:Str->Option c8}{base h:dk}(X:K.In h) (G:h.Ns dg mg) (B:Blt BL mg)
include X G B
abbrev nL:dn:=top 1
def kI:FS:=(d6 (iL (iK .int (mV 0)) (pF (iK .bool (mV 0)))))
def e9:FN:=ig 1 kI
theorem sZ {f:da}(F:d7 K "is_whole" nL f):
  Own P w K mg base 1 "is_whole" 1 e9:=xq ["thing"] X G F λa=>
 (qG (qU (gz (ii xv) (gh (qg (ii xv))))))
abbrev kf:dn:=top 3
def iA:FS:=(d6 (iL (iK .tuple (mV 0)) (m2 (b2 gEq) (mN (b1 dV) (dr (mV 0) dt)) (mV 1))))
def ed:FN:=ig 2 iA
theorem nY {f:da}(F:d7 K "is_tuple_of" kf f):
  Own P w K mg base 1 "is_tuple_of" 2 ed:=xq ["thing","many"] X G F λa=>
 (qG (qU (gz (ii xv) (gh (ce (oq iI) (cn ei (a1 xv)) xv)))))
abbrev v7:dn:=top 7
def lX:FS:=(dH (dL (mN (b1 gTup) (dr (eO 2 [2] (gU (mV 5)) (gT 2 (fB (gN 0) (fB (gN 1) jl))) fx (ej (dR (dr (m2 (b2 dD) (mV 2) (mV 0)) (dr (mV 1) dt))))) dt)) (gN 6))
  (eU (mH (b2 gJ) (mV 3) (dr (dR (dr (m2 (b2 dD) (mV 2) (mV 4)) (dr (m2 (b2 dD) (mV 1) (mV 4)) (dr (mV 6) dt)))) dt))))
def sn:FS:=(dH (dL (eP dt) (gN 3))
  (dH (eZ (om (dr (mV 0) dt)) (gT 2 (fB (gN 4) (fB (gN 5) jl))) lX)
  (d6 (mV 3))))
def gp:FN:=ig 7 sn
theorem Aa {f:da}(F:d7 K "looks" v7 f):
  Own P w K mg base 1 "looks" 3 gp:=xq ["web","signs","colours","found","room","doors","led_to"] X G F λa=>
 (qF (sq (dZ qN)) (qF (fo (ie (a1 xv)) (tg2 gq gq) (qF (sq (cz fW (a1 (fk ["there","back"] (qd xv) ⟨(tg2 gq gq),eE,(dE (a2 (jq xv xv) xv))⟩)))) (qG (lq ap xv (a1 (dE (a3 (jq xv xv) (jq xv xv) xv))))))) (qG (qU xv))))
abbrev nK:dn:=top 10
def lf:FS:=(eJ (mB (m2 (b2 j3) (mV 2) (mV 1))) (dL (mN (b1 pQ) (dr (mV 1) dt)) (gS (b3 jg) (mV 1) (mV 2))) jk)
def oM:FS:=(dH (dL iu (gN 1))
  (dH (eZ (gU (mV 0)) (gN 2) lf)
  (d6 (mN (b1 gTup) (dr (eO 1 [1] (gU (mV 0)) (gN 0) fx (ej (m2 (b2 dD) (mV 1) (mV 0)))) dt)))))
def ga:FN:=ig 3 oM
theorem sY {f:da}(F:d7 K "numbered" nK f):
  Own P w K mg base 1 "numbered" 1 ga:=xq ["things","numbers","thing"] X G F λa=>
 (qF (sq iD) (qF (fo (qd xv) gq (qG (qV (ct (oq Ad) xv xv (by with_unfolding_all rfl)) (qG (qR (cn Hw (a1 xv)) (kQ xv xv (nJ a.units)))) qQ))) (qG (qU (cz fW (a1 (fk ["thing"] (qd xv) ⟨gq,eE,(jq xv xv)⟩)))))))
abbrev kZ:dn:=top 11
def i9:FS:=(d6 (m2 (b2 gEq) (mN (b1 ou) (dr (mN (b1 g8) (dr (mV 0) dt)) dt)) (mN (b1 dV) (dr (mV 0) dt))))
def eN:FN:=ig 1 i9
theorem oY {f:da}(F:d7 K "all_unlike" kZ f):
  Own P w K mg base 1 "all_unlike" 1 eN:=xq ["colours"] X G F λa=>
 (qG (qU (ce (oq iI) (cn vv (a1 (cz (vr a) (a1 xv)))) (cn ei (a1 xv)))))
abbrev kg:dn:=top 13
def kr:FS:=(d6 (mN (b1 gTup) (dr (eO 1 [1] (sA (dr (mN (b1 dV) (dr (mV 0) dt)) dt)) (gN 0) fx (ej (HS (mB (m2 (b2 m4) (mV 0) (mV 1))) (mC (D.int 1)) (mC (D.int 0))))) dt)))
def eB:FN:=ig 2 kr
theorem nZ {f:da}(F:d7 K "chalk_signs" kg f):
  Own P w K mg base 1 "chalk_signs" 2 eB:=xq ["web","chalk"] X G F λa=>
 (qG (qU (cz fW (a1 (fk ["room"] (ir (a1 (cn ei (a1 xv)))) ⟨gq,eE,(uH (ct (oq tw) xv xv (by with_unfolding_all rfl)) qK qK)⟩)))))
abbrev mw:dn:=top 21
def jN:FS:=(dH (dL (mC (D.int 0)) (gN 2))
  (dH (eJ (mB (m2 (b2 gLt) (mV 1) (mN (b1 dV) (dr (mV 0) dt)))) (dL (m2 (b2 dD) (mV 0) (mV 1)) (gN 2)) jk)
  (dH (dL (m2 (b2 j8) (m2 (b2 oo) (mC (D.int 10)) (mC (D.int 60))) (m2 (b2 oo) (mC (D.int 10)) (mC (D.int 30)))) (gN 3))
  (d6 (eP (dr (m2 (b2 j8) (m2 (b2 lA) (mV 2) (mV 3)) (mN (b1 pe) (dr (m2 (b2 (i4 λi j=>decide (j<=i))) (mV 2) (m2 (b2 oo) (mC (D.int 10)) (mC (D.int 18)))) dt))) (dr (m2 (b2 lA) (m2 (b2 eu) (m2 (b2 eu) (m2 (b2 lA) (mV 2) (mC (D.int 2305843009213693951))) (m2 (b2 j8) (mC (D.int 7919)) (mV 1))) (mC (D.int 5))) (mC (D.int 2305843009213693951))) (dr (mC (D.int 0)) dt))))))))
def fF:FN:=ig 4 jN
theorem re {f:da}(F:d7 K "_law_hand" mw f):
  Own P w K mg base 1 "_law_hand" 2 fF:=xq ["_law_script","_law_k","_law_cell","_law_far"] X G F λa=>
 (qF (sq qK) (qF (qV (ct (oq je) xv (cn ei (a1 xv))) (qG (sq (jq xv xv))) qQ) (qF (sq (qI li (qI wp qK qK) (qI wp qK qK))) (qG (qU (dZ (a3 (qI li (qI mF xv xv) (cz um (a1 (ce K0 xv (qI wp qK qK))))) (qI mF (qI eG (qI eG (qI mF xv qK) (qI li qK xv)) qK) qK) qK)))))))
abbrev ms:dn:=top 22
def jM:FS:=(dH (eJ (mB (m2 (b2 (i4 fun i j=>decide (j<i))) (m2 (b2 dD) (mV 0) (mC (D.int 0))) (mC (D.int 0)))) (dH (dL (m2 (b2 lA) (m2 (b2 dD) (mV 0) (mC (D.int 0))) (mV 1)) (gN 2))
  (dH (dL (m2 (b2 rM) (m2 (b2 dD) (mV 0) (mC (D.int 0))) (mV 1)) (gS (b3 jg) (mV 0) (mC (D.int 0))))
  (d6 (mV 2)))) jk)
  (dH (dL (m2 (b2 eu) (m2 (b2 dD) (mV 0) (mC (D.int 2))) (mC (D.int 1))) (gS (b3 jg) (mV 0) (mC (D.int 2))))
  (dH (dL (m2 (b2 lA) (m2 (b2 j8) (m2 (b2 eu) (m2 (b2 eu) (m2 (b2 dD) (mV 0) (mC (D.int 1))) (m2 (b2 j8) (m2 (b2 j8) (mC (D.int 9973)) (m2 (b2 dD) (mV 0) (mC (D.int 2)))) (m2 (b2 dD) (mV 0) (mC (D.int 2))))) (mC (D.int 17))) (mC (D.int 69621))) (mC (D.int 2305843009213693921))) (gN 3))
  (dH (dL (m2 (b2 lA) (m2 (b2 j8) (mV 3) (m2 (b2 eu) (m2 (b2 lA) (mV 3) (mC (D.int 999983))) (m2 (b2 j8) (mC (D.int 7919)) (m2 (b2 dD) (mV 0) (mC (D.int 2)))))) (mC (D.int 2305843009213693907))) (gN 3))
  (d6 (m2 (b2 lA) (m2 (b2 eu) (m2 (b2 rM) (mV 3) (mC (D.int 101))) (m2 (b2 rM) (mV 3) (mC (D.int 1000003)))) (mV 1)))))))
def dz:FN:=ig 4 jM
theorem rd {f:da}(F:d7 K "_law_take" ms f):
  Own P w K mg base 1 "_law_take" 2 dz:=xq ["_law_hand_here","_law_many","_law_digit","_law_mixed"] X G F λa=>
 (qF (qV (ct KZ (jq xv qK) qK) (qF (sq (qI mF (jq xv qK) xv)) (qF (qR (qI wr (jq xv qK) xv) (kQ xv qK (nJ a.units))) (qG (qU xv)))) qQ) (qF (qR (qI eG (jq xv qK) qK) (kQ xv qK (nJ a.units))) (qF (sq (qI mF (qI li (qI eG (qI eG (jq xv qK) (qI li (qI li qK (jq xv qK)) (jq xv qK))) qK) qK) qK)) (qF (sq (qI mF (qI li xv (qI eG (qI mF xv qK) (qI li qK (jq xv qK)))) qK)) (qG (qU (qI mF (qI eG (qI wr xv qK) (qI wr xv qK)) xv)))))))
abbrev k0:dn:=top 28
def ja:FS:=(d6 (iL (iK .int (mV 0)) (pF (iK .bool (mV 0)))))
def dW:FN:=ig 1 ja
theorem oZ {f:da}(F:d7 K "_law_whole" k0 f):
  Own P w K mg base 1 "_law_whole" 1 dW:=xq ["_law_thing"] X G F λa=>
 (qG (qU (gz (ii xv) (gh (qg (ii xv))))))
abbrev k4:dn:=top 31
def lH:FS:=(d6 (eO 1 [1,2] (sA (dr (mN (b1 dV) (dr (mV 0) dt)) dt)) (gN 0) fx (ej (m2 (b2 eu) (mN (b1 pe) (dr (m2 (b2 m4) (mV 0) (m2 (b2 dD) (mV 1) (mC (D.int 1)))) dt)) (m2 (b2 j8) (mC (D.int 2)) (mN (b1 pe) (dr (iL (mV 2) (m2 (b2 m4) (mV 0) (m2 (b2 dD) (mV 1) (mC (D.int 0))))) dt)))))))
def fr:FN:=ig 3 lH
theorem o5 {f:da}(F:d7 K "_law_signs" k4 f):
  Own P w K mg base 1 "_law_signs" 3 fr:=xq ["_law_web_here","_law_standing_here","_law_walkers"] X G F λa=>
 (qG (qU (fk ["_law_room"] (ir (a1 (cn ei (a1 xv)))) ⟨gq,eE,(qI eG (cz um (a1 (ce (oq tw) xv (jq xv qK) (by with_unfolding_all rfl)))) (qI li qK (cz um (a1 (gz xv (gh (ce (oq tw) xv (jq xv qK) (by with_unfolding_all rfl))))))))⟩)))
abbrev nM:dn:=top 2
def oN:FS:=(d6 (iL (mN (dy 1 e9) (dr (mV 0) dt)) (GR (b2 (i4 λi j=>decide (i<=j))) (b2 gLt) (mC (D.int 0)) (mV 0) (mV 1))))
def gy:FN:=ig 2 oN
theorem s9 {f:da}(F:d7 K "is_below" nM f)(a:Own P w K mg base 1 "is_whole" 1 e9):
  Own P w K mg base 2 "is_below" 2 gy:=xq ["thing","bound"] X G F λb=>
 (qG (qU (gz (wn a (a1 xv)) (gh (xl IX (oq je) qK xv xv)))))
abbrev mm:dn:=top 4
def mQ:FS:=(d6 (iL (mN (dy 2 ed) (dr (mV 0) (dr (mV 2) dt))) (iL (iK .str (m2 (b2 dD) (mV 0) (mC (D.int 0)))) (m2 (b2 gEq) (m2 (b2 dD) (mV 0) (mC (D.int 0))) (mV 1)))))
def gf:FN:=ig 3 mQ
theorem q0 {f:da}(F:d7 K "is_headed" mm f)(a:Own P w K mg base 1 "is_tuple_of" 2 ed):
  Own P w K mg base 2 "is_headed" 3 gf:=xq ["thing","word","many"] X G F λb=>
 (qG (qU (gz (wn a (a2 xv xv)) (gz (ii (jq xv qK)) (gh (ce (oq iI) (jq xv qK) xv))))))
abbrev js:dn:=top 6
def ic:FS:=(dH (eJ (mOr (gI (mTr (mN (dy 2 ed) (dr (mV 2) (dr (mN (b1 dV) (dr (mV 0) dt)) dt))))) (gI (mTr (mN (b1 rP) (dr (eO 1 [] (gU (mV 2)) (gN 0) fx (ej (mN (dy 1 e9) (dr (mV 0) dt)))) dt))))) (d6 (mC (D.bl false))) jk)
  (d6 (m2 (b2 gEq) (mN (b1 jJ) (dr (mN (dy 3 gp) (dr (mV 0) (dr (mV 1) (dr (mV 2) dt)))) dt)) (mN (b1 ou) (dr (mN (b1 g8) (dr (mV 2) dt)) dt)))))
def eg:FN:=ig 3 ic
theorem mX {f:da}(F:d7 K "is_colouring" js f)(c:Own P w K mg base 1 "is_tuple_of" 2 ed)(b:Own P w K mg base 1 "is_whole" 1 e9)(d:Own P w K mg base 1 "looks" 3 gp):
  Own P w K mg base 2 "is_colouring" 3 eg:=xq ["web","signs","thing"] X G F λa=>
 (qF (qV (iC (gv (fe (et (wn c (a2 xv (cn ei (a1 xv)))))) (gZ (fe (et (cn (EU O) (a1 (fk ["number"] (qd xv) ⟨gq,eE,(wn b (a1 xv))⟩)))))))) (qG (qU eQ)) qQ) (qG (qU (ce (oq iI) (yJ O a.units O (bz B) O (bz B) (wn d (a3 xv xv xv))) (cn vv (a1 (cz (vr a) (a1 xv))))))))
abbrev pr:dn:=top 9
def mE:FT:=(mB (m2 (b2 gNe) (mV 4) (mV 3)))
def mD:FS:=(dH (dL (mV 4) (gN 3))
  (dL (tK 2 "numbered" (dy 1 ga) (dr (mN (dy 3 gp) (dr (mV 0) (dr (mV 1) (dr (mV 3) dt)))) dt)) (gN 4)))
def qc:FS:=(dH (dL (mN (b1 gTup) (dr (eO 1 [] (gU (mV 0)) (gN 0) fx (ej (mC (D.int 0)))) dt)) (gN 3))
  (dH (dL (tK 2 "numbered" (dy 1 ga) (dr (mN (dy 3 gp) (dr (mV 0) (dr (mV 1) (dr (mV 3) dt)))) dt)) (gN 4))
  (dH (ux mE mD 100000)
  (d6 (mV 3)))))
def iJ:FN:=ig 5 qc
theorem uZ {f:da}(F:d7 K "refined" pr f)(a:Own P w K mg base 1 "looks" 3 gp)(b:Own P w K mg base 1 "numbered" 1 ga):
  Own P w K mg base 2 "refined" 3 iJ:=xq ["web","signs","numbering","colours","finer"] X G F λc=>
 (qF (sq (cz fW (a1 (fk ["room"] (qd xv) ⟨gq,eE,qK⟩)))) (qF (sq (pp 2 b c (by first|decide|omega) rfl (by first|exact Or.inl rfl|exact Or.inr rfl) (a1 (wn a (a3 xv xv xv))))) (qF (lR 100000 PassesOwn.never (ct (oq pd) xv xv) (qF (sq xv) (qG (sq (pp 2 b c (by first|decide|omega) rfl (by first|exact Or.inl rfl|exact Or.inr rfl) (a1 (wn a (a3 xv xv xv)))))))) (qG (qU xv)))))
abbrev mr:dn:=top 14
def mS:FS:=(dH (dL (mV 1) (gT 2 (fB (gN 2) (fB (gN 3) jl))))
  (dH (dL (mN (dy 2 eB) (dr (mV 0) (dr (mV 3) dt))) (gN 4))
  (d6 (mN (b1 gTup) (dr (eO 2 [2] (om (dr (mV 4) dt)) (gT 2 (fB (gN 0) (fB (gN 1) jl))) fx (ej (HS (mB (m2 (b2 m4) (mV 0) (mV 2))) (m2 (b2 eu) (mV 1) (mC (D.int 2))) (mV 1)))) dt)))))
def fE:FN:=ig 5 mS
theorem q9 {f:da}(F:d7 K "all_signs" mr f)(a:Own P w K mg base 1 "chalk_signs" 2 eB):
  Own P w K mg base 2 "all_signs" 2 fE:=xq ["web","standing","rooms","chalk","signs"] X G F λb=>
 (qF (qR xv (tg2 gq gq)) (qF (sq (wn a (a2 xv xv))) (qG (qU (cz fW (a1 (fk ["room","sign"] (ie (a1 xv)) ⟨(tg2 gq gq),eE,(uH (ct (oq tw) xv xv (by with_unfolding_all rfl)) (qI eG xv qK) xv)⟩)))))))
abbrev kh:dn:=top 23
def gR:FT:=(mB (m2 (b2 gNe) (mV 4) (eP dt)))
def gQ:FS:=(eU (mH (b2 gJ) (mV 5) (dr (mH (b2 yc) (mV 4) (dr (mN (dy 2 dz) (dr (mV 0) (dr (mN (b1 dV) (dr (mV 4) dt)) dt))) dt)) dt)))
def gP:FS:=(dH (dL (dR (dr (mN (b1 rL) (dr (mV 3) dt)) (dr (eP dt) dt))) (gT 2 (fB (gN 4) (fB (gN 5) jl))))
  (dH (ux gR gQ 100000)
  (eU (mH (b2 gJ) (mV 2) (dr (mV 5) dt)))))
def gO:FS:=(eU (mH (b2 gJ) (n8 (mV 6) (mV 9) (eP dt)) (dr (dR (dr (mV 7) (dr (mV 8) dt))) dt)))
def jd:FS:=(eZ (om (dr (mV 5) dt)) (gT 2 (fB (gN 8) (fB (gN 9) jl))) gO)
def ku:FS:=(dH (dL (eP dt) (gN 2))
  (dH (eZ (gU (mV 1)) (gN 3) gP)
  (dH (dL iu (gN 6))
  (dH (eZ (om (dr (mV 2) dt)) (gT 2 (fB (gN 7) (fB (gN 5) jl))) jd)
  (d6 (mN (b1 gTup) (dr (eO 2 [6] (om (dr (mV 2) dt)) (gT 2 (fB (gN 0) (fB (gN 1) jl))) fx (ej (mN (b1 gTup) (dr (eO 2 [2,0] (om (dr (mV 1) dt)) (gT 2 (fB (gN 0) (fB (gN 1) jl))) fx (ej (m2 (b2 dD) (m2 (b2 dD) (mV 2) (mV 1)) (mN (b1 pe) (dr (m2 (b2 gEq) (m2 (b2 dD) (m2 (b2 dD) (mV 2) (mV 1)) (mC (D.int 0))) (dR (dr (mV 3) (dr (mV 0) dt)))) dt))))) dt)))) dt)))))))
def fT:FN:=ig 10 ku
theorem n0 {f:da}(F:d7 K "_law_doored" kh f)(a:Own P w K mg base 1 "_law_take" 2 dz):
  Own P w K mg base 2 "_law_doored" 2 fT:=xq ["_law_hand_here","_law_ends","_law_rows","_law_some","_law_left","_law_row","_law_places","_law_room","_law_door","_law_way"] X G F λb=>
 (qF (sq (dZ qN)) (qF (fo (qd xv) gq (qF (kO 4 5 O (kl O) O O (by decide) O O (a2 (cz vt (a1 xv)) (dZ qN))) (qF (lR 100000 PassesOwn.never (ct (oq pd) xv (dZ qN)) (qG (lq ap xv (a1 (qe PySem.F.slot_list_pop PySem.F.type_list_pop Ek xv (a1 (wn a (a2 xv (cn ei (a1 xv)))))))))) (qG (lq ap xv (a1 xv)))))) (qF (sq iD) (qF (fo (ie (a1 xv)) (tg2 gq gq) (qG (fo (ie (a1 xv)) (tg2 gq gq) (qG (lq ap (B0 xv xv (dZ qN)) (a1 (dE (a2 xv xv)))))))) (qG (qU (cz fW (a1 (fk ["_law_room","_law_row"] (ie (a1 xv)) ⟨(tg2 gq gq),eE,(cz fW (a1 (fk ["_law_door","_law_way"] (ie (a1 xv)) ⟨(tg2 gq gq),eE,(jq (jq xv xv) (cz um (a1 (ce (oq iI) (jq (jq xv xv) qK) (dE (a2 xv xv))))))⟩)))⟩)))))))))
abbrev k6:dn:=top 25
def lI:FS:=(dH (dL (xS (dr (mV 1) dt)) (gN 2))
  (d6 (eO 1 [2,0] (sA (dr (mV 1) dt)) (gN 0) fx (ej (mH (b2 yc) (mV 1) (dr (mN (dy 2 dz) (dr (mV 2) (dr (mN (b1 dV) (dr (mV 1) dt)) dt))) dt))))))
def fL:FN:=ig 3 lI
theorem pa {f:da}(F:d7 K "_law_order" k6 f)(a:Own P w K mg base 1 "_law_take" 2 dz):
  Own P w K mg base 2 "_law_order" 2 fL:=xq ["_law_hand_here","_law_many","_law_left"] X G F λb=>
 (qF (sq (nv O O (bz B) O (bz B) (a1 xv))) (qG (qU (fk ["_law_k"] (ir (a1 xv)) ⟨gq,eE,(qe PySem.F.slot_list_pop PySem.F.type_list_pop Ek xv (a1 (wn a (a2 xv (cn ei (a1 xv))))))⟩))))
abbrev mx:dn:=top 29
def iy:FS:=(eJ (mB (m2 (b2 gEq) (m2 (b2 dD) (mV 2) (mV 3)) (m2 (b2 dD) (mV 2) (mV 5)))) (dH (eJ (mOr (mB (m2 (b2 gNe) (mN (b1 dV) (dr (mV 4) dt)) (mN (b1 dV) (dr (mV 6) dt)))) (mB (m2 (b2 gNe) (m2 (b2 dD) (mV 1) (mV 3)) (m2 (b2 dD) (mV 1) (mV 5))))) (d6 (mC (D.bl false))) jk)
  (eJ (mTr (mN (b1 DR) (dr (eO 2 [2] (Jz (dr (mV 4) (dr (mV 6) dt))) (gT 2 (fB (gN 0) (fB (gN 1) jl))) fx (ej (AC (m2 (b2 gNe) (m2 (b2 dD) (mV 2) (m2 (b2 dD) (mV 0) (mC (D.int 0)))) (m2 (b2 dD) (mV 2) (m2 (b2 dD) (mV 1) (mC (D.int 0))))) (m2 (b2 gNe) (m2 (b2 dD) (mV 0) (mC (D.int 1))) (m2 (b2 dD) (mV 1) (mC (D.int 1))))))) dt))) (d6 (mC (D.bl J))) jk)) jk)
def gB:FS:=(eZ (om (dr (mV 0) dt)) (gT 2 (fB (gN 5) (fB (gN 6) jl))) iy)
def jO:FS:=(dH (eJ (mOr (gI (mTr (iK .tuple (mV 2)))) (mOr (mB (m2 (b2 gNe) (mN (b1 dV) (dr (mV 2) dt)) (mN (b1 dV) (dr (mV 0) dt)))) (gI (mTr (mN (b1 rP) (dr (eO 1 [] (gU (mV 2)) (gN 0) fx (ej (mN (dy 1 dW) (dr (mV 0) dt)))) dt)))))) (d6 (mC (D.bl false))) jk)
  (dH (eZ (om (dr (mV 0) dt)) (gT 2 (fB (gN 3) (fB (gN 4) jl))) gB)
  (d6 (mC (D.bl M)))))
def eF:FN:=ig 7 jO
theorem rf {f:da}(F:d7 K "_law_fits" mx f)(a:Own P w K mg base 1 "_law_whole" 1 dW):
  Own P w K mg base 2 "_law_fits" 3 eF:=xq ["_law_web_here","_law_signs_here","_law_thing","_law_one","_law_row","_law_other","_law_its"] X G F λb=>
 (qF (qV (iC (gv (fe (et (ii xv))) (gv (ct (oq pd) (cn ei (a1 xv)) (cn ei (a1 xv))) (gZ (fe (et (cn (EU O) (a1 (fk ["_law_number"] (qd xv) ⟨gq,eE,(wn a (a1 xv))⟩))))))))) (qG (qU eQ)) qQ) (qF (fo (ie (a1 xv)) (tg2 gq gq) (qG (fo (ie (a1 xv)) (tg2 gq gq) (qG (qV (ct (oq iI) (jq xv xv) (jq xv xv)) (qF (qV (iC (gv (ct (oq pd) (cn ei (a1 xv)) (cn ei (a1 xv))) (gZ (ct (oq pd) (jq xv xv) (jq xv xv))))) (qG (qU eQ)) qQ) (qG (qV (et (cn (JT O) (a1 (fk ["_law_a","_law_b"] (BZ O (bz B) (a2 xv xv)) ⟨(tg2 gq gq),eE,(vM (ce (oq pd) (jq xv (jq xv qK)) (jq xv (jq xv qK))) (gh (ce (oq pd) (jq xv qK) (jq xv qK))))⟩)))) (qG (qU eQ)) qQ))) qQ))))) (qG (qU eQ))))
abbrev jc:dn:=top 30
def gm:FS:=(eJ (mB (m2 (b2 gEq) (mN (dy 2 dz) (dr (mV 0) (dr (mC (D.int 3)) dt))) (mC (D.int 0)))) (eU (mH (b2 gJ) (mV 5) (dr (eO 1 [0] (gU (mV 4)) (gN 0) (mB (m2 (b2 gEq) (mN (dy 2 dz) (dr (mV 1) (dr (mC (D.int 2)) dt))) (mC (D.int 0)))) (ej (mV 0))) dt))) (dH (dL (eO 1 [0] (gU (mV 4)) (gN 0) (mB (m2 (b2 gEq) (mN (dy 2 dz) (dr (mV 1) (dr (mC (D.int 2)) dt))) (mC (D.int 0)))) (ej (mV 0))) (gN 7))
  (eU (mH (b2 gJ) (mV 5) (dr (eO 1 [2,7] (gU (mV 4)) (gN 0) (mB (m2 (b2 m4) (m2 (b2 dD) (mV 1) (mV 0)) (mV 2))) (ej (mV 0))) dt)))))
def im:FS:=(eJ (rn (mB (m2 (b2 gLt) (mN (b1 dV) (dr (mV 8) dt)) (mN (b2 vc) (dr (mV 3) (dr (mN (b1 dV) (dr (mV 1) dt)) dt))))) (mB (m2 (b2 fA) (mV 10) (mV 8)))) (eU (mH (b2 gJ) (mV 8) (dr (mV 10) dt))) jk)
def jh:FS:=(dH (dL (xS (dr (mN (b1 dV) (dr (mV 1) dt)) dt)) (gN 4))
  (dH (dL (eP dt) (gN 5))
  (dH (eZ (sA (dr (mC (D.int 2)) dt)) (gN 6) gm)
  (dH (dL (dR (dr (m2 (b2 dD) (mV 5) (mC (D.int 0))) (dr (m2 (b2 dD) (eP (dr (m2 (b2 dD) (mV 5) (mC (D.int 1))) (dr (eP dt) dt))) (mN (dy 2 dz) (dr (mV 0) (dr (mC (D.int 2)) dt)))) dt))) (gT 2 (fB (gN 8) (fB (gN 9) jl))))
  (dH (eZ (gU (mV 4)) (gN 10) im)
  (d6 (dR (dr (mN (b1 gTup) (dr (mN (b1 jI) (dr (mV 8) dt)) dt)) (dr (mN (b1 gTup) (dr (mV 9) dt)) dt)))))))))
def fw:FN:=ig 11 jh
theorem lZ {f:da}(F:d7 K "_law_standing" jc f)(a:Own P w K mg base 1 "_law_take" 2 dz):
  Own P w K mg base 2 "_law_standing" 4 fw:=xq ["_law_hand_here","_law_web_here","_law_copied","_law_least","_law_rooms","_law_some","_law_turn","_law_kept","_law_walkers","_law_chalk","_law_room"] X G F λb=>
 (qF (sq (nv O O (bz B) O (bz B) (a1 (cn ei (a1 xv))))) (qF (sq (dZ qN)) (qF (fo (ir (a1 qK)) gq (qG (qV (ct (oq iI) (wn a (a2 xv qK)) qK) (qG (lq ap xv (a1 (fk ["_law_room"] (qd xv) ⟨gq,(kP (ct (oq iI) (wn a (a2 xv qK)) qK)),xv⟩)))) (qF (sq (fk ["_law_room"] (qd xv) ⟨gq,(kP (ct (oq iI) (wn a (a2 xv qK)) qK)),xv⟩)) (qG (lq ap xv (a1 (fk ["_law_room"] (qd xv) ⟨gq,(kP (ct (oq tw) (jq xv xv) xv (by with_unfolding_all rfl))),xv⟩)))))))) (qF (kO 8 9 O (kl O) O O (by decide) O O (a2 (jq xv qK) (jq (dZ (a2 (jq xv qK) (dZ qN))) (wn a (a2 xv qK))))) (qF (fo (qd xv) gq (qG (qV (iC (m7 (ct (oq je) (cn ei (a1 xv)) (cn (ET O) (a2 xv (cn ei (a1 xv))))) (kN (ct (oq n4) xv xv (by with_unfolding_all rfl))))) (qG (lq ap xv (a1 xv))) qQ))) (qG (qU (dE (a2 (cz fW (a1 (cn D2 (a1 xv)))) (cz fW (a1 xv)))))))))))
abbrev nO:dn:=top 33
def oP:FS:=(dH (dL (eP (dr (mC D.non) (dr (mC (D.bl true)) (dr (mC (D.bl false)) (dr (m1 (b1 ot) (mC (D.int 1))) (dr (mC (D.int 0)) (dr (mC (D.int 1)) (dr (mC (D.int 9)) (dr (m2 (b2 oo) (mC (D.int 10)) (mC (D.int 30))) (dr (mC (D.str "")) (dr (mC (D.str "colours")) (dr (mC (D.str "alike")) (dr (mC (D.str "0")) (dr (dR dt) (dr (dR (dr (mC (D.int 0)) dt)) (dr (eP dt) (dr (eP (dr (mC (D.int 0)) dt)) (dr iu (dr (dR (dr (mV 1) dt)) dt))))))))))))))))))) (gN 2))
  (dH (eJ (mTr (iK .tuple (mV 1))) (dH (dL (eP (dr (kC (mV 1) (io (mC (D.int 1))) ip) (dr (kC (mV 1) ip (io (m1 (b1 ot) (mC (D.int 1))))) (dr (m2 (b2 eu) (mV 1) (kC (mV 1) (io (m1 (b1 ot) (mC (D.int 1)))) ip)) (dr (AA (mV 1) (m1 (b1 ot) (mC (D.int 1)))) (dr (mN (b1 rL) (dr (mV 1) dt)) dt)))))) (gN 2))
  (dH (dL (m2 (b2 eu) (mV 2) (eP (dr (m2 (b2 eu) (mV 1) (dR (dr (mC (D.int 0)) dt))) (dr (m2 (b2 eu) (dR (dr (mC (D.int 0)) dt)) (mV 1)) (dr (mC D.non) (dr (m2 (b2 eu) (mV 1) (dR (dr (mC D.non) dt))) (dr (mC (D.int 0)) dt))))))) (gN 2))
  (dL (m2 (b2 eu) (mV 2) (eP (dr (mC (D.str "")) (dr (dR (dr (mV 1) dt)) (dr (m2 (b2 eu) (dR (dr (mC D.non) dt)) (mV 1)) (dr (m2 (b2 eu) (mV 1) (mV 1)) (dr (eP (dr (mV 1) dt)) (dr iu dt)))))))) (gN 2)))) jk)
  (dH (eJ (mTr (mN (dy 1 dW) (dr (mV 1) dt))) (dH (dL (m2 (b2 eu) (mV 2) (eP (dr (m2 (b2 gEq) (mV 1) (mC (D.int 1))) (dr (m2 (b2 eu) (mV 1) (mC (D.int 1))) (dr (m1 (b1 ot) (mV 1)) dt))))) (gN 2))
  (dL (m2 (b2 eu) (mV 2) (eP (dr (mN (b1 DG) (dr (mV 1) dt)) (dr (dR (dr (mV 1) (dr (mV 1) dt))) dt)))) (gN 2))) jk)
  (d6 (m2 (b2 dD) (mV 2) (mN (dy 2 dz) (dr (mV 0) (dr (mN (b1 dV) (dr (mV 2) dt)) dt))))))))
def gb:FN:=ig 3 oP
theorem tm {f:da}(F:d7 K "_law_odd" nO f)(b:Own P w K mg base 1 "_law_take" 2 dz)(a:Own P w K mg base 1 "_law_whole" 1 dW):
  Own P w K mg base 2 "_law_odd" 2 gb:=xq ["_law_hand_here","_law_thing","_law_some"] X G F λc=>
 (qF (sq (dZ (qA ik (qA eQ (qA eQ (qA (nu tu qK) (qA qK (qA qK (qA qK (qA (qI wp qK qK) (qA d3 (qA d3 (qA d3 (qA d3 (qA (dE qN) (qA (dE (a1 qK)) (qA (dZ qN) (a3 (dZ (a1 qK)) iD (dE (a1 xv)))))))))))))))))))) (qF (qV (et (ii xv)) (qF (sq (dZ (qA (fC xv (gE qK) gF) (qA (fC xv gF (gE (nu tu qK))) (a3 (qI eG xv (fC xv (gE (nu tu qK)) gF)) (sG xv (nu tu qK)) (cz vt (a1 xv))))))) (qF (sq (qI eG xv (dZ (qA (qI eG xv (dE (a1 qK))) (qA (qI eG (dE (a1 qK)) xv) (a3 ik (qI eG xv (dE (a1 ik))) qK)))))) (qG (sq (qI eG xv (dZ (qA d3 (qA (dE (a1 xv)) (qA (qI eG (dE (a1 ik)) xv) (a3 (qI eG xv xv) (dZ (a1 xv)) iD)))))))))) qQ) (qF (qV (et (wn a (a1 xv))) (qF (sq (qI eG xv (dZ (a3 (ce (oq iI) xv qK) (qI eG xv qK) (nu tu xv))))) (qG (sq (qI eG xv (dZ (a2 (cz JQ (a1 xv)) (dE (a2 xv xv)))))))) qQ) (qG (qU (jq xv (wn b (a2 xv (cn ei (a1 xv))))))))))
abbrev mq:dn:=top 8
def mR:FS:=(d6 (mN (dy 3 iJ) (dr (mV 0) (dr (mV 1) (dr (mC (D.fn "numbered")) dt)))))
def fD:FN:=ig 2 mR
theorem q7 {f:da}(F:d7 K "colouring" mq f)(a:Own P w K mg base 2 "refined" 3 iJ)(b:CGl K mg "numbered" (D.fn "numbered")):
  Own P w K mg base 3 "colouring" 2 fD:=xq ["web","signs"] X G F λc=>
 (qG (qU (wn a (a3 xv xv (yK b O)))))
abbrev ke:dn:=top 19
def kq:FS:=(dH (dL (mV 1) (gT 2 (fB (gN 3) (fB (gN 4) jl))))
  (dH (dL (mV 2) (gT 4 (fB (gN 5) (fB (gN 6) (fB (gN 7) (fB (gN 8) jl))))))
  (dH (eJ (mOr (gI (mTr (mN (dy 2 gy) (dr (mV 7) (dr (mN (b1 dV) (dr (mV 3) dt)) dt))))) (gI (mTr (mN (dy 2 gy) (dr (mV 6) (dr (mV 7) dt)))))) (d6 (mC (D.bl J))) jk)
  (d6 (iL (mN (dy 3 eg) (dr (mV 0) (dr (mN (dy 2 eB) (dr (mV 0) (dr (mV 4) dt))) (dr (mV 8) dt)))) (m2 (b2 gEq) (m2 (b2 dD) (mV 8) (m2 (b2 dD) (mV 3) (mV 6))) (m2 (b2 dD) (mV 8) (m2 (b2 dD) (mV 3) (mV 7)))))))))
def fS:FN:=ig 9 kq
theorem nX {f:da}(F:d7 K "shows_alike" ke f)(c:Own P w K mg base 1 "chalk_signs" 2 eB)(a:Own P w K mg base 2 "is_below" 2 gy)(b:Own P w K mg base 2 "is_colouring" 3 eg):
  Own P w K mg base 3 "shows_alike" 3 fS:=xq ["web","standing","paper","rooms","chalk","word","i","j","colours"] X G F λd=>
 (qF (qR xv (tg2 gq gq)) (qF (qR xv (vL O (g9 gq (g9 gq (g9 gq (g9 gq sE)))))) (qF (qV (iC (gv (fe (et (wn a (a2 xv (cn ei (a1 xv)))))) (gZ (fe (et (wn a (a2 xv xv))))))) (qG (qU eQ)) qQ) (qG (qU (gz (wn b (a3 xv (wn c (a2 xv xv)) xv)) (gh (ce (oq iI) (jq xv (jq xv xv)) (jq xv (jq xv xv))))))))))
abbrev iH:dn:=top 24
def fZ:FS:=(dH (dL (eO 1 [4] (sA (dr (mV 5) dt)) (gN 0) (mB (m2 (b2 gLt) (mN (b1 dV) (dr (m2 (b2 dD) (mV 1) (mV 0)) dt)) (mC (D.int 4)))) (ej (mV 0))) (gN 6))
  (dH (dL (m2 (b2 dD) (mV 6) (mN (dy 2 dz) (dr (mV 0) (dr (mN (b1 dV) (dr (mV 6) dt)) dt)))) (gN 7))
  (dH (eU (mH (b2 gJ) (m2 (b2 dD) (mV 4) (mV 5)) (dr (mV 3) dt)))
  (dH (eU (mH (b2 gJ) (m2 (b2 dD) (mV 4) (mV 7)) (dr (mV 3) dt)))
  (dL (m2 (b2 eu) (mV 3) (mC (D.int 1))) (gN 3))))))
def fY:FS:=(dH (dL (dR (dr (mN (dy 2 dz) (dr (mV 0) (dr (mV 2) dt))) (dr (mN (dy 2 dz) (dr (mV 0) (dr (mV 2) dt))) dt))) (gT 2 (fB (gN 9) (fB (gN 7) jl))))
  (eJ (rn (mB (m2 (b2 gLt) (m2 (b2 eu) (mN (b1 dV) (dr (m2 (b2 dD) (mV 4) (mV 9)) dt)) (mN (b1 pe) (dr (m2 (b2 gEq) (mV 9) (mV 7)) dt))) (mC (D.int 4)))) (mB (m2 (b2 gLt) (mN (b1 dV) (dr (m2 (b2 dD) (mV 4) (mV 7)) dt)) (mC (D.int 4))))) (dH (eU (mH (b2 gJ) (m2 (b2 dD) (mV 4) (mV 9)) (dr (mV 3) dt)))
  (dH (eU (mH (b2 gJ) (m2 (b2 dD) (mV 4) (mV 7)) (dr (mV 3) dt)))
  (dL (m2 (b2 eu) (mV 3) (mC (D.int 1))) (gN 3)))) jk))
def iQ:FS:=(dH (dL (dR (dr (m2 (b2 eu) (mC (D.int 1)) (mN (dy 2 dz) (dr (mV 0) (dr (mV 1) dt)))) (dr (mC (D.int 0)) dt))) (gT 2 (fB (gN 2) (fB (gN 3) jl))))
  (dH (dL (eO 1 [] (sA (dr (mV 2) dt)) (gN 0) fx (ej (eP dt))) (gN 4))
  (dH (eZ (HU (dr (mC (D.int 1)) (dr (mV 2) dt))) (gN 5) fZ)
  (dH (eZ (sA (dr (mN (dy 2 dz) (dr (mV 0) (dr (mC (D.int 6)) dt))) dt)) (gN 8) fY)
  (d6 (mN (dy 2 fT) (dr (mV 0) (dr (mV 4) dt))))))))
def fj:FN:=ig 10 iQ
theorem lh {f:da}(F:d7 K "_law_plain_web" iH f)(b:Own P w K mg base 2 "_law_doored" 2 fT)(a:Own P w K mg base 1 "_law_take" 2 dz):
  Own P w K mg base 3 "_law_plain_web" 2 fj:=xq ["_law_hand_here","_law_most","_law_rooms","_law_many","_law_ends","_law_room","_law_some","_law_other","_law_turn","_law_one"] X G F λc=>
 (qF (kO 2 3 O (kl O) O O (by decide) O O (a2 (qI eG qK (wn a (a2 xv xv))) qK)) (qF (sq (fk ["_law_room"] (ir (a1 xv)) ⟨gq,eE,(dZ qN)⟩)) (qF (fo (nt O (bz B) (a2 qK xv)) gq (qF (pq 6 O (T:=["_law_other"]) (keep:=[4]) ⟨O,by decide+kernel,(kc "_law_ends" (cG _))⟩ O (ir (a1 xv)) (λ_ _ _=>⟨gq,(kP (ct (oq je) (cn ei (a1 (jq xv xv))) qK)),xv⟩) (kl O) O (by first|exact Or.inl rfl|exact Or.inr rfl)) (qF (sq (jq xv (wn a (a2 xv (cn ei (a1 xv)))))) (qF (lq ap (jq xv xv) (a1 xv)) (qF (lq ap (jq xv xv) (a1 xv)) (qG (sq (qI eG xv qK)))))))) (qF (fo (ir (a1 (wn a (a2 xv qK)))) gq (qF (kO 9 7 rfl (kl rfl) rfl rfl (by decide) rfl rfl (a2 (wn a (a2 xv xv)) (wn a (a2 xv xv)))) (qG (qV (iC (m7 (ct (oq je) (qI eG (cn ei (a1 (jq xv xv))) (cz um (a1 (ce (oq iI) xv xv)))) qK) (kN (ct (oq je) (cn ei (a1 (jq xv xv))) qK)))) (qF (lq ap (jq xv xv) (a1 xv)) (qF (lq ap (jq xv xv) (a1 xv)) (qG (sq (qI eG xv qK))))) qQ)))) (qG (qU (wn b (a2 xv xv))))))))
abbrev k7:dn:=top 26
def hW:FS:=(dH (dL (dR (dr (mV 7) (dr (mV 10) (dr (mV 8) dt)))) (gS (b3 jg) (mV 3) (dR (dr (mV 4) (dr (mV 9) (dr (mV 6) dt))))))
  (dL (dR (dr (mV 4) (dr (mV 9) (dr (mV 6) dt)))) (gS (b3 jg) (mV 3) (dR (dr (mV 7) (dr (mV 10) (dr (mV 8) dt)))))))
def jz:FS:=(eJ (mB (m2 (b2 gLt) (dR (dr (mV 4) (dr (mV 6) dt))) (dR (dr (mV 7) (dr (mV 8) dt))))) (eZ (om (dr (mN (dy 2 fL) (dr (mV 0) (dr (mV 2) dt))) dt)) (gT 2 (fB (gN 9) (fB (gN 10) jl))) hW) jk)
def hU:FS:=(eZ (om (dr (mV 5) dt)) (gT 2 (fB (gN 6) (fB (gT 2 (fB (gN 7) (fB (gN 8) jl))) jl))) jz)
def jy:FS:=(eJ (mB (m2 (b2 fA) (kC (m2 (b2 dD) (mV 3) (dR (dr (mV 4) (dr (mV 9) (dr (mV 6) dt))))) ip (io (mC (D.int 2)))) (mV 11))) (eU (mH (b2 gJ) (mV 11) (dr (kC (m2 (b2 dD) (mV 3) (dR (dr (mV 4) (dr (mV 9) (dr (mV 6) dt))))) ip (io (mC (D.int 2)))) dt))) jk)
def hR:FT:=(mB (m2 (b2 gLt) (mV 12) (mN (b1 dV) (dr (mV 11) dt))))
def hO:FS:=(dH (dL (m2 (b2 dD) (mV 11) (mV 12)) (gT 2 (fB (gN 4) (fB (gN 9) jl))))
  (dH (eZ (sA (dr (mN (b1 dV) (dr (m2 (b2 dD) (mV 1) (mV 4)) dt)) dt)) (gN 6) jy)
  (dL (m2 (b2 eu) (mV 12) (mC (D.int 1))) (gN 12))))
def jx:FS:=(dH (dL (eO 1 [3,4,9] (sA (dr (mN (b1 dV) (dr (m2 (b2 dD) (mV 1) (mV 4)) dt)) dt)) (gN 0) fx (ej (m2 (b2 dD) (mV 1) (dR (dr (mV 2) (dr (mV 3) (dr (mV 0) dt))))))) (gN 14))
  (eU (mH (b2 gJ) (mV 13) (dr (mN (b1 gTup) (dr (eO 1 [11] (gU (mV 14)) (gN 0) fx (ej (dR (dr (mH (b2 A2) (mV 1) (dr (kC (mV 0) ip (io (mC (D.int 2)))) dt)) (dr (m2 (b2 dD) (mV 0) (mC (D.int 2))) dt))))) dt)) dt))))
def lJ:FS:=(dH (dL iu (gN 3))
  (dH (eZ (om (dr (mV 1) dt)) (gT 2 (fB (gN 4) (fB (gN 5) jl))) hU)
  (dH (dL (dR (dr (eP (dr (dR (dr (mC (D.int 0)) (dr (mC (D.int 0)) dt))) dt)) (dr (mC (D.int 0)) dt))) (gT 2 (fB (gN 11) (fB (gN 12) jl))))
  (dH (ux hR hO 100000)
  (dH (dL (eP dt) (gN 13))
  (dH (eZ (gU (mV 11)) (gT 2 (fB (gN 4) (fB (gN 9) jl))) jx)
  (d6 (dR (dr (mN (b1 gTup) (dr (mV 13) dt)) (dr (mN (b1 gTup) (dr (eO 2 [] (gU (mV 11)) (gT 2 (fB (gN 0) (fB (gN 1) jl))) fx (ej (mV 0))) dt)) dt))))))))))
def gr:FN:=ig 15 lJ
theorem pb {f:da}(F:d7 K "_law_cover" k7 f)(a:Own P w K mg base 2 "_law_order" 2 fL):
  Own P w K mg base 3 "_law_cover" 3 gr:=xq ["_law_hand_here","_law_web_here","_law_copies","_law_steps","_law_room","_law_row","_law_door","_law_other","_law_back","_law_copy","_law_to","_law_met","_law_at","_law_found","_law_some"] X G F λb=>
 (qF (sq iD) (qF (fo (ie (a1 xv)) (tg2 gq gq) (qG (fo (ie (a1 xv)) (tg2 gq (tg2 gq gq)) (qG (qV (ct (oq je) (dE (a2 xv xv)) (dE (a2 xv xv))) (qG (fo (ie (a1 (wn a (a2 xv xv)))) (tg2 gq gq) (qF (qR (dE (a3 xv xv xv)) (kQ xv (dE (a3 xv xv xv)) (nJ b.units))) (qG (qR (dE (a3 xv xv xv)) (kQ xv (dE (a3 xv xv xv)) (nJ b.units))))))) qQ))))) (qF (qR (dE (a2 (dZ (a1 (dE (a2 qK qK)))) qK)) (tg2 gq gq)) (qF (lR 100000 PassesOwn.never (ct (oq je) xv (cn ei (a1 xv))) (qF (qR (jq xv xv) (tg2 gq gq)) (qF (fo (ir (a1 (cn ei (a1 (jq xv xv))))) gq (qG (qV (ct (oq n4) (fC (jq xv (dE (a3 xv xv xv))) gF (gE qK)) xv (by with_unfolding_all rfl)) (qG (lq ap xv (a1 (fC (jq xv (dE (a3 xv xv xv))) gF (gE qK))))) qQ))) (qG (sq (qI eG xv qK)))))) (qF (sq (dZ qN)) (qF (fo (qd xv) (tg2 gq gq) (qF (pq 14 O (T:=["_law_door"]) (keep:=[3,4,9]) ⟨O,by decide+kernel,(kc "_law_steps" (kc "_law_room" (kc "_law_copy" (cG _))))⟩ O (ir (a1 (cn ei (a1 (jq xv xv))))) (λ_ _ _=>⟨gq,eE,(jq xv (dE (a3 xv xv xv)))⟩) (kl O) O (by first|exact Or.inl rfl|exact Or.inr rfl)) (qG (lq ap xv (a1 (cz fW (a1 (fk ["_law_step"] (qd xv) ⟨gq,eE,(dE (a2 (qe PySem.F.slot_list_index PySem.F.type_list_index (Ia b.units) xv (a1 (fC xv gF (gE qK)))) (jq xv qK)))⟩)))))))) (qG (qU (dE (a2 (cz fW (a1 xv)) (cz fW (a1 (fk ["_law_room","_law_copy"] (qd xv) ⟨(tg2 gq gq),eE,xv⟩)))))))))))))
abbrev nP:dn:=top 32
def oQ:FS:=(dH (eJ (mOr (gI (mTr (iK .tuple (mV 3)))) (mOr (mB (m2 (b2 gEq) (mV 3) (dR dt))) (gI (mTr (iK .str (m2 (b2 dD) (mV 3) (mC (D.int 0)))))))) (d6 (mC (D.bl false))) jk)
  (dH (eJ (rn (mB (m2 (b2 gEq) (m2 (b2 dD) (mV 3) (mC (D.int 0))) (mC (D.str "colours")))) (mB (m2 (b2 gEq) (mN (b1 dV) (dr (mV 3) dt)) (mC (D.int 2))))) (dH (dL (mN (dy 3 eF) (dr (mV 0) (dr (mN (dy 3 fr) (dr (mV 0) (dr (mV 1) (dr (mC (D.bl M)) dt)))) (dr (m2 (b2 dD) (mV 3) (mC (D.int 1))) dt)))) (gN 4))
  (d6 (iL (mV 4) (m2 (b2 gLt) (mN (b1 ou) (dr (mN (b1 g8) (dr (m2 (b2 dD) (mV 3) (mC (D.int 1))) dt)) dt)) (mN (b1 dV) (dr (mV 0) dt)))))) jk)
  (dH (eJ (mOr (mB (m2 (b2 gNe) (m2 (b2 dD) (mV 3) (mC (D.int 0))) (mC (D.str "alike")))) (mOr (mB (m2 (b2 gNe) (mN (b1 dV) (dr (mV 3) dt)) (mC (D.int 4)))) (gI (mTr (mV 2))))) (d6 (mC (D.bl J))) jk)
  (dH (eJ (mOr (gI (mTr (mN (dy 1 dW) (dr (m2 (b2 dD) (mV 3) (mC (D.int 1))) dt)))) (gI (mTr (mN (dy 1 dW) (dr (m2 (b2 dD) (mV 3) (mC (D.int 2))) dt))))) (d6 (mC (D.bl J))) jk)
  (dH (eJ (gI (mB (xT (b2 (i4 λi j=>decide (i<=j))) (b2 gLt) (b2 gLt) (mC (D.int 0)) (m2 (b2 dD) (mV 3) (mC (D.int 1))) (m2 (b2 dD) (mV 3) (mC (D.int 2))) (mN (b1 dV) (dr (m2 (b2 dD) (mV 1) (mC (D.int 0))) dt))))) (d6 (mC (D.bl J))) jk)
  (dH (eJ (gI (mTr (mN (dy 3 eF) (dr (mV 0) (dr (mN (dy 3 fr) (dr (mV 0) (dr (mV 1) (dr (mC (D.bl J)) dt)))) (dr (m2 (b2 dD) (mV 3) (mC (D.int 3))) dt)))))) (d6 (mC (D.bl J))) jk)
  (d6 (m2 (b2 gEq) (m2 (b2 dD) (m2 (b2 dD) (mV 3) (mC (D.int 3))) (m2 (b2 dD) (m2 (b2 dD) (mV 1) (mC (D.int 0))) (m2 (b2 dD) (mV 3) (mC (D.int 1))))) (m2 (b2 dD) (m2 (b2 dD) (mV 3) (mC (D.int 3))) (m2 (b2 dD) (m2 (b2 dD) (mV 1) (mC (D.int 0))) (m2 (b2 dD) (mV 3) (mC (D.int 2)))))))))))))
def ia:FN:=ig 5 oQ
theorem tq {f:da}(F:d7 K "_law_due" nP f)(a:Own P w K mg base 2 "_law_fits" 3 eF)(b:Own P w K mg base 1 "_law_signs" 3 fr)(c:Own P w K mg base 1 "_law_whole" 1 dW):
  Own P w K mg base 3 "_law_due" 4 ia:=xq ["_law_web_here","_law_standing_here","_law_quiet","_law_thing","_law_right"] X G F λd=>
 (qF (qV (iC (gv (fe (et (ii xv))) (gv (ct (oq iI) xv (dE qN)) (gZ (fe (et (ii (jq xv qK)))))))) (qG (qU eQ)) qQ) (qF (qV (iC (m7 (ct (oq iI) (jq xv qK) d3) (kN (ct (oq iI) (cn ei (a1 xv)) qK)))) (qF (sq (wn a (a3 xv (wn b (a3 xv xv eQ)) (jq xv qK)))) (qG (qU (gz xv (gh (ce (oq je) (cn vv (a1 (cz (vr d) (a1 (jq xv qK))))) (cn ei (a1 xv)))))))) qQ) (qF (qV (iC (gv (ct (oq pd) (jq xv qK) d3) (gv (ct (oq pd) (cn ei (a1 xv)) qK) (gZ (fe (et xv)))))) (qG (qU eQ)) qQ) (qF (qV (iC (gv (fe (et (wn c (a1 (jq xv qK))))) (gZ (fe (et (wn c (a1 (jq xv qK)))))))) (qG (qU eQ)) qQ) (qF (qV (fe (uE IX (oq je) (oq je) qK (jq xv qK) (jq xv qK) (cn ei (a1 (jq xv qK))))) (qG (qU eQ)) qQ) (qF (qV (fe (et (wn a (a3 xv (wn b (a3 xv xv eQ)) (jq xv qK))))) (qG (qU eQ)) qQ) (qG (qU (ce (oq iI) (jq (jq xv qK) (jq (jq xv qK) (jq xv qK))) (jq (jq xv qK) (jq (jq xv qK) (jq xv qK))))))))))))
abbrev v8:dn:=top 17
def pB:FS:=(eJ (mB (m2 (b2 gEq) (m2 (b2 dD) (mV 4) (m2 (b2 dD) (mV 2) (mV 5))) (m2 (b2 dD) (mV 4) (m2 (b2 dD) (mV 2) (mV 6))))) (d6 (dR (dr (mC (D.str "alike")) (dr (mV 5) (dr (mV 6) (dr (mV 4) dt)))))) jk)
def pA:FS:=(eZ (HU (dr (m2 (b2 eu) (mV 5) (mC (D.int 1))) (dr (mN (b1 dV) (dr (mV 2) dt)) dt))) (gN 6) pB)
def w9:FS:=(dH (dL (mV 1) (gT 2 (fB (gN 2) (fB (gN 3) jl))))
  (dH (dL (mN (dy 2 fD) (dr (mV 0) (dr (mN (dy 2 eB) (dr (mV 0) (dr (mV 3) dt))) dt))) (gN 4))
  (dH (eZ (sA (dr (mN (b1 dV) (dr (mV 2) dt)) dt)) (gN 5) pA)
  (d6 (mC D.non)))))
def lr:FN:=ig 7 w9
theorem Ab {f:da}(F:d7 K "alike" v8 f)(b:Own P w K mg base 1 "chalk_signs" 2 eB)(a:Own P w K mg base 3 "colouring" 2 fD):
  Own P w K mg base 4 "alike" 2 lr:=xq ["web","standing","rooms","chalk","colours","i","j"] X G F λc=>
 (qF (qR xv (tg2 gq gq)) (qF (sq (wn a (a2 xv (wn b (a2 xv xv))))) (qF (fo (ir (a1 (cn ei (a1 xv)))) gq (qG (fo (nt O (bz B) (a2 (qI eG xv qK) (cn ei (a1 xv)))) gq (qG (qV (ct (oq iI) (jq xv (jq xv xv)) (jq xv (jq xv xv))) (qG (qU (dE (qA d3 (a3 xv xv xv))))) qQ))))) (qG (qU ik)))))
abbrev kd:dn:=top 18
def kn:FS:=(dH (eJ (mTr (mN (dy 3 gf) (dr (mV 3) (dr (mC (D.str "colours")) (dr (mC (D.int 2)) dt))))) (d6 (iL (mN (dy 3 eg) (dr (mV 0) (dr (mN (dy 2 fE) (dr (mV 0) (dr (mV 1) dt))) (dr (m2 (b2 dD) (mV 3) (mC (D.int 1))) dt)))) (pF (mN (dy 1 eN) (dr (m2 (b2 dD) (mV 3) (mC (D.int 1))) dt))))) jk)
  (dH (eJ (rn (mTr (mV 2)) (mTr (mN (dy 3 gf) (dr (mV 3) (dr (mC (D.str "alike")) (dr (mC (D.int 4)) dt)))))) (d6 (mN (dy 3 fS) (dr (mV 0) (dr (mV 1) (dr (mV 3) dt))))) jk)
  (d6 (mC (D.bl J)))))
def fR:FN:=ig 4 kn
theorem nW {f:da}(F:d7 K "shows_never" kd f)(c:Own P w K mg base 2 "all_signs" 2 fE)(d:Own P w K mg base 1 "all_unlike" 1 eN)(e:Own P w K mg base 2 "is_colouring" 3 eg)(a:Own P w K mg base 2 "is_headed" 3 gf)(b:Own P w K mg base 3 "shows_alike" 3 fS):
  Own P w K mg base 4 "shows_never" 4 fR:=xq ["web","standing","quiet","thing"] X G F λg=>
 (qF (qV (et (wn a (a3 xv d3 qK))) (qG (qU (gz (wn e (a3 xv (wn c (a2 xv xv)) (jq xv qK))) (gh (qg (wn d (a1 (jq xv qK)))))))) qQ) (qF (qV (iC (m7 (et xv) (kN (et (wn a (a3 xv d3 qK)))))) (qG (qU (wn b (a3 xv xv xv)))) qQ) (qG (qU eQ))))
abbrev nN:dn:=top 27
def oO:FS:=(dH (dL (m2 (b2 dD) (eP (dr (mC (D.int 1)) (dr (mC (D.int 1)) (dr (mC (D.int 2)) (dr (mC (D.int 2)) (dr (mC (D.int 3)) (dr (mC (D.int 4)) dt))))))) (mN (dy 2 dz) (dr (mV 0) (dr (mC (D.int 6)) dt)))) (gN 1))
  (dH (dL (mN (dy 2 fj) (dr (mV 0) (dr (m2 (b2 rM) (mC (D.int 8)) (mV 1)) dt))) (gN 2))
  (dH (eJ (mB (m2 (b2 gEq) (mV 1) (mC (D.int 1)))) (d6 (dR (dr (mV 2) (dr (Az (dr (mN (b1 dV) (dr (mV 2) dt)) dt)) dt)))) jk)
  (d6 (mN (dy 3 gr) (dr (mV 0) (dr (mV 2) (dr (mV 1) dt))))))))
def hZ:FN:=ig 3 oO
theorem tj {f:da}(F:d7 K "_law_web" nN f)(a:Own P w K mg base 3 "_law_cover" 3 gr)(b:Own P w K mg base 3 "_law_plain_web" 2 fj)(c:Own P w K mg base 1 "_law_take" 2 dz):
  Own P w K mg base 4 "_law_web" 1 hZ:=xq ["_law_hand_here","_law_copies","_law_web_here"] X G F λd=>
 (qF (sq (jq (dZ (qA qK (qA qK (qA qK (a3 qK qK qK))))) (wn c (a2 xv qK)))) (qF (sq (wn b (a2 xv (qI wr qK xv)))) (qF (qV (ct (oq iI) xv qK) (qG (qU (dE (a2 xv (sF O O (bz B) O (bz B) (a1 (cn ei (a1 xv)))))))) qQ) (qG (qU (wn a (a3 xv xv xv)))))))
abbrev vZ:dn:=top 16
def w8:FS:=(dH (dL (mN (dy 2 fD) (dr (mV 0) (dr (mN (dy 2 fE) (dr (mV 0) (dr (mV 1) dt))) dt))) (gN 3))
  (dH (eJ (gI (mTr (mN (dy 1 eN) (dr (mV 3) dt)))) (d6 (dR (dr (mC (D.str "colours")) (dr (mV 3) dt)))) jk)
  (d6 (HS (mTr (mV 2)) (mN (dy 2 lr) (dr (mV 0) (dr (mV 1) dt))) (mC D.non)))))
def lp:FN:=ig 4 w8
theorem z0 {f:da}(F:d7 K "never" vZ f)(b:Own P w K mg base 4 "alike" 2 lr)(a:Own P w K mg base 2 "all_signs" 2 fE)(c:Own P w K mg base 1 "all_unlike" 1 eN)(d:Own P w K mg base 3 "colouring" 2 fD):
  Own P w K mg base 5 "never" 3 lp:=xq ["web","standing","quiet","colours"] X G F λe=>
 (qF (sq (wn d (a2 xv (wn a (a2 xv xv))))) (qF (qV (fe (et (wn c (a1 xv)))) (qG (qU (dE (a2 d3 xv)))) qQ) (qG (qU (uH (et xv) (wn b (a2 xv xv)) ik)))))
abbrev jt:dn:=top 34
def gK(self:FN):FS:=(dH (eJ (mOr (mB (m2 (b2 gLt) (mV 2) (mC (D.int 1)))) (mOr (gI (mTr (iK .tuple (mV 1)))) (mB (m2 (b2 gEq) (mV 1) (dR dt))))) (d6 (mN (dy 2 gb) (dr (mV 0) (dr (mV 1) dt)))) jk)
  (dH (eJ (mB (m2 (b2 gEq) (mN (dy 2 dz) (dr (mV 0) (dr (mC (D.int 4)) dt))) (mC (D.int 0)))) (d6 (mN (dy 2 gb) (dr (mV 0) (dr (mV 1) dt)))) jk)
  (dH (dL (mN (dy 2 dz) (dr (mV 0) (dr (mN (b1 dV) (dr (mV 1) dt)) dt))) (gN 3))
  (dH (dL (mN (dy 3 self) (dr (mV 0) (dr (m2 (b2 dD) (mV 1) (mV 3)) (dr (m2 (b2 gSub) (mV 2) (mC (D.int 1))) dt)))) (gN 4))
  (d6 (m2 (b2 eu) (m2 (b2 eu) (kC (mV 1) ip (io (mV 3))) (dR (dr (mV 4) dt))) (kC (mV 1) (io (m2 (b2 eu) (mV 3) (mC (D.int 1)))) ip)))))))
def fK:Nat->FN
 |0=>λ_ _=>Y
 |n+1=>ig 5 (gK (fK n))
def iq:FN:=fK 8
theorem qp {f:da}{fd:dm}(F:xi K "_law_bent" "_law_bent" jt f fd)(hb:jj K fd ["_law_hand_here","_law_thing","_law_deep"] [])(hm:mg "_law_bent"=some (.ref f))(c:Own P w K mg base 2 "_law_odd" 2 gb)(e:Own P w K mg base 1 "_law_take" 2 dz){k:Nat}{a:FN}(hk:2<=k)(o_self:Own P w K mg base k "_law_bent" 3 a):
  Own P w K mg base (k+1) "_law_bent" 3 (ig 5 (gK a)):=vK (n:=3) (N:=["_law_hand_here","_law_thing","_law_deep","_law_at","_law_inner"]) (ps:=["_law_hand_here","_law_thing","_law_deep"]) (b:=gK a) F hb hm sk O λh A d s H E g=>
 (qF (qV (iC (gv (ct (oq je) xv qK) (gv (fe (et (ii xv))) (gZ (ct (oq iI) xv (dE qN)))))) (qG (qU (wn c (a2 xv xv)))) qQ) (qF (qV (ct (oq iI) (wn e (a2 xv qK)) qK) (qG (qU (wn c (a2 xv xv)))) qQ) (qF (sq (wn e (a2 xv (cn ei (a1 xv))))) (qF (sq (qH o_self g (nR1 _) O (a3 xv (jq xv xv) (qI Ex xv qK)))) (qG (qU (qI eG (qI eG (fC xv gF (gE xv)) (dE (a1 xv))) (fC xv (gE (qI eG xv qK)) gF))))))))
theorem rg {f:da}(F:d7 K "_law_bent" jt f)(a:Own P w K mg base 2 "_law_odd" 2 gb)(e:Own P w K mg base 1 "_law_take" 2 dz):Own P w K mg base 11 "_law_bent" 3 iq:=by
 have b:=wM1 X G F.ns;obtain⟨fd,F⟩:=F.fn;have c:=F.binds (ps:=["_law_hand_here","_law_thing","_law_deep"]) (λ_ _ _ _ _ _ h d=>K4 d λ_ _ _=>rfl);have g:∀j:Nat,Own P w K mg base (3+j) "_law_bent" 3 (fK j):=λj=>by
  induction j with
  |zero=>exact zY F c b
  |succ j ih=>exact qp X G B F c b a e (show 2<=3+j by omega) ih
 exact g 8
abbrev sM:dn:=top 35
def qT:FS:=(dH (dL (m2 (b2 eu) (mV 9) (eP (dr (mV 10) (dr (mN (b1 rL) (dr (mV 10) dt)) dt)))) (gN 9))
  (dL (m2 (b2 eu) (mV 9) (eO 1 [2,10] (sA (dr (mC (D.int 6)) dt)) (gN 0) fx (ej (mN (dy 3 iq) (dr (mV 1) (dr (mV 2) (dr (mC (D.int 2)) dt))))))) (gN 9)))
def wl:FS:=(dH (dL (mN (dy 4 fR) (dr (mV 3) (dr (mV 5) (dr (mV 12) (dr (mV 11) dt))))) (gN 13))
  (eJ (mOr (gI (mTr (iK .bool (mV 13)))) (mB (m2 (b2 gNe) (mV 13) (mN (dy 4 ia) (dr (mV 3) (dr (mV 5) (dr (mV 12) (dr (mV 11) dt)))))))) (d6 (mC (D.bl J))) jk))
def qS:FS:=(eZ (gU (dR (dr (mC (D.bl M)) (dr (mC (D.bl J)) dt)))) (gN 12) wl)
def qM:FS:=(dH (dL (mN (dy 2 fF) (dr (mV 0) (dr (mV 1) dt))) (gN 2))
  (dH (dL (mN (dy 1 hZ) (dr (mV 2) dt)) (gT 2 (fB (gN 3) (fB (gN 4) jl))))
  (dH (dL (mN (dy 4 fw) (dr (mV 2) (dr (mV 3) (dr (mV 4) (dr (mC (D.int 2)) dt))))) (gN 5))
  (dH (dL (dR (dr (Az (dr (mN (b1 dV) (dr (mV 3) dt)) dt)) (dr (m2 (b2 gSub) (mN (b1 dV) (dr (m2 (b2 dD) (mV 5) (mC (D.int 0))) dt)) (mC (D.int 1))) dt))) (gT 2 (fB (gN 6) (fB (gN 7) jl))))
  (dH (dL (eP (dr (dR (dr (mC (D.str "colours")) (dr (mV 4) dt))) (dr (dR (dr (mC (D.str "colours")) (dr (mV 6) dt))) (dr (dR (dr (mC (D.str "alike")) (dr (mC (D.int 0)) (dr (mV 7) (dr (mV 4) dt))))) (dr (dR (dr (mC (D.str "alike")) (dr (mC (D.int 0)) (dr (mC (D.int 1)) (dr (mV 6) dt))))) dt))))) (gN 8))
  (dH (eU (mH (b2 gJ) (mV 8) (dr (AC (mN (dy 3 lp) (dr (mV 3) (dr (mV 5) (dr (mC (D.bl M)) dt)))) (dR (dr (mC (D.str "alike")) (dr (mC (D.int 0)) (dr (mC (D.int 0)) (dr (mV 4) dt)))))) dt)))
  (dH (eU (mH (b2 gJ) (mV 8) (dr (dR (dr (mC (D.str "alike")) (dr (mV 7) (dr (m2 (b2 eu) (mV 7) (mC (D.int 1))) (dr (mV 4) dt))))) dt)))
  (dH (dL (eP (dr (mC D.non) (dr (mC (D.bl M)) (dr (mC (D.bl J)) (dr (mC (D.int 0)) (dr (mC (D.str "")) (dr (mC (D.str "colours")) (dr (dR dt) (dr (dR (dr (mC (D.str "colours")) dt)) (dr (dR (dr (mC (D.str "alike")) dt)) (dr (eP dt) (dr iu (dr (eP (dr (mC (D.str "colours")) (dr (mV 4) dt))) (dr (mV 4) dt)))))))))))))) (gN 9))
  (dH (dL (m2 (b2 eu) (mV 9) (eP (dr (dR (dr (mC (D.str "none")) (dr (mV 4) dt))) (dr (dR (dr (mC D.non) (dr (mV 4) dt))) (dr (dR (dr (mC (D.str "alike")) (dr (mC (D.int 0)) (dr (mV 7) dt)))) (dr (dR (dr (mC (D.str "colours")) (dr (mC (D.int 0)) (dr (mV 7) (dr (mV 4) dt))))) (dr (mV 3) dt))))))) (gN 9))
  (dH (dL (m2 (b2 eu) (mV 9) (eP (dr (dR (dr (mC (D.str "alike")) (dr (mV 4) dt))) (dr (dR (dr (mC (D.str "")) (dr (mC (D.int 0)) (dr (mV 7) (dr (mV 4) dt))))) (dr (dR (dr (dR (dr (mC (D.str "colours")) dt)) (dr (mV 4) dt))) dt))))) (gN 9))
  (dH (eZ (gU (mV 8)) (gN 10) qT)
  (eZ (gU (mV 9)) (gN 11) qS))))))))))))
def wk:FS:=(pE [M,M,J,J,J,J,J,J,J,J,J,J,J,J] [M,J,J,J,J,J,J,J,J,J,J,J,J,J] qM)
def Bw:FS:=(dH (eZ (sA (dr (mN (b2 DN) (dr (mC (D.int 1)) (dr (mN (b2 vc) (dr (mC (D.int 4)) (dr (mN (b1 dV) (dr (mV 0) dt)) dt))) dt))) dt)) (gN 1) wk)
  (d6 (mC (D.bl M))))
def m_law:FN:=ig 14 Bw
theorem Gg {f:da}{fd:dm}(F:xi K "law" "law" sM f fd)(c:Own P w K mg base 11 "_law_bent" 3 iq)(h:Own P w K mg base 3 "_law_due" 4 ia)(d:Own P w K mg base 1 "_law_hand" 2 fF)(e:Own P w K mg base 2 "_law_standing" 4 fw)(i:Own P w K mg base 4 "_law_web" 1 hZ)(a:Own P w K mg base 5 "never" 3 lp)(j:Own P w K mg base 4 "shows_never" 4 fR):
  jQ P w K mg base uw 12 f fd ["_law_script"] (spM K 1 m_law):=E5 (k:=11) (n:=1) (N:=["_law_script","_law_k","_law_hand_here","_law_web_here","_law_copied","_law_standing_here","_law_rooms","_law_last","_law_papers","_law_some","_law_paper","_law_thing","_law_quiet","_law_told"]) (ps:=["_law_script"]) (b:=Bw) F sk O λl A g s H E m=>
 (qF (fo (ir (a1 (cn (JS O) (a2 qK (cn (ET O) (a2 qK (cn ei (a1 xv)))))))) gq (xk [M,M,J,J,J,J,J,J,J,J,J,J,J,J] [M,J,J,J,J,J,J,J,J,J,J,J,J,J] (qF (sq (wn d (a2 xv xv))) (qF (qR (wn i (a1 xv)) (tg2 gq gq)) (qF (sq (wn e (qA xv (a3 xv xv qK)))) (qF (kO 6 7 O (kl O) O O (by decide) O O (a2 (sF O O (bz B) O (bz B) (a1 (cn ei (a1 xv)))) (qI Ex (cn ei (a1 (jq xv qK))) qK))) (qF (sq (dZ (qA (dE (a2 d3 xv)) (a3 (dE (a2 d3 xv)) (dE (qA d3 (a3 qK xv xv))) (dE (qA d3 (a3 qK qK xv))))))) (qF (lq ap xv (a1 (vM (wn a (a3 xv xv eQ)) (gh (dE (qA d3 (a3 qK qK xv))))))) (qF (lq ap xv (a1 (dE (qA d3 (a3 xv (qI eG xv qK) xv))))) (qF (sq (dZ (qA ik (qA eQ (qA eQ (qA qK (qA d3 (qA d3 (qA (dE qN) (qA (dE (a1 d3)) (qA (dE (a1 d3)) (qA (dZ qN) (a3 iD (dZ (a2 d3 xv)) xv))))))))))))) (qF (sq (qI eG xv (dZ (qA (dE (a2 d3 xv)) (qA (dE (a2 ik xv)) (a3 (dE (a3 d3 qK xv)) (dE (qA d3 (a3 qK xv xv))) xv)))))) (qF (sq (qI eG xv (dZ (a3 (dE (a2 d3 xv)) (dE (qA d3 (a3 qK xv xv))) (dE (a2 (dE (a1 d3)) xv)))))) (qF (fo (qd xv) gq (qF (sq (qI eG xv (dZ (a2 xv (cz vt (a1 xv)))))) (qG (sq (qI eG xv (fk ["_law_turn"] (ir (a1 qK)) ⟨gq,eE,(wn c (a3 xv xv qK))⟩)))))) (qG (fo (qd xv) gq (qG (fo (qd (dE (a2 eQ eQ))) gq (qF (sq (wn j (qA xv (a3 xv xv xv)))) (qG (qV (iC (gv (fe (et (ii xv))) (gZ (ct (oq pd) xv (wn h (qA xv (a3 xv xv xv))))))) (qG (qU eQ)) qQ)))))))))))))))))))) (qG (qU eQ)))
end
theorem all_mk {l:PySem.W.OpenLaw}{w:df}{K:Fg1}{h:dk}{mg:Str->Option c8}{fa f1 f2 f3 f4 f5 f6 f7 f8 f9 x V f12 C y o Q u f18 f19 au g f22 I L i f26 N m p f30 f31:da}(X:K.In h)(G:h.Ns dg mg)(hfa:mg "law"=some (.ref fa))
  (a1:d7 K "is_whole" nL f1)
  (a2:d7 K "is_tuple_of" kf f2)
  (a3:d7 K "looks" v7 f3)
  (T:d7 K "numbered" nK f4)
  (a5:d7 K "all_unlike" kZ f5)
  (a6:d7 K "chalk_signs" kg f6)
  (a7:d7 K "_law_hand" mw f7)
  (a8:d7 K "_law_take" ms f8)
  (a9:d7 K "_law_whole" k0 f9)
  (a10:d7 K "_law_signs" k4 x)
  (a11:d7 K "is_below" nM V)
  (a12:d7 K "is_headed" mm f12)
  (a13:d7 K "is_colouring" js C)
  (a14:d7 K "refined" pr y)
  (U:d7 K "all_signs" mr o)
  (W:d7 K "_law_doored" kh Q)
  (E:d7 K "_law_order" k6 u)
  (a18:d7 K "_law_fits" mx f18)
  (a19:d7 K "_law_standing" jc f19)
  (a20:d7 K "_law_odd" nO au)
  (a21:d7 K "colouring" mq g)
  (j:d7 K "shows_alike" ke f22)
  (F:d7 K "_law_plain_web" iH I)
  (a24:d7 K "_law_cover" k7 L)
  (a25:d7 K "_law_due" nP i)
  (t:d7 K "alike" v8 f26)
  (r:d7 K "shows_never" kd N)
  (a28:d7 K "_law_web" nN m)
  (a29:d7 K "never" vZ p)
  (n:d7 K "_law_bent" jt f30)
  (c:d7 K "law" sM f31)
  (z:J9 K BL):∃fd:dm,(∀(s:c9) (v:c8),BindsTo s fd ⟨[v],[]⟩ [("_law_script",v)]) /\ ∀base:dk,K.In base->base.Ns dg mg->jQ l.prog w K mg base uw 12 fa fd ["_law_script"] (spM K 1 m_law):=by
 have e:=hfa.symm.trans (wM1 X G c.ns);cases e;have B:Blt BL mg:=z.blt X G;have g0:CGl K mg "numbered" (D.fn "numbered"):=Hs (wM1 X G T.ns) (JM T.ns);obtain⟨_,⟨⟨_,_,kV,dc,pm,an,cd,ct,_,rfl,lL,cL⟩,kL⟩⟩:=c.fn;refine⟨wF1 "law" "law" (ix sM) (ft sM) (dQ sM) .none kV dc pm an cd ct,λs v=>.of_eq O,λbase _ _=>?_⟩;have o0:=sZ (P:=l.prog) (w:=w) (base:=base) X G B a1;have o1:=nY (P:=l.prog) (w:=w) (base:=base) X G B a2;have o2:=Aa (P:=l.prog) (w:=w) (base:=base) X G B a3;have o3:=sY (P:=l.prog) (w:=w) (base:=base) X G B T;have d:=oY (P:=l.prog) (w:=w) (base:=base) X G B a5;have o4:=nZ (P:=l.prog) (w:=w) (base:=base) X G B a6;have ao:=re (P:=l.prog) (w:=w) (base:=base) X G B a7;have a:=rd (P:=l.prog) (w:=w) (base:=base) X G B a8;have o6:=oZ (P:=l.prog) (w:=w) (base:=base) X G B a9;have o13:=o5 (P:=l.prog) (w:=w) (base:=base) X G B a10;have o8:=s9 X G B a11 o0;have o17:=q0 X G B a12 o1;have o9:=mX X G B a13 o1 o0 o2;have o7:=uZ X G B a14 o2 o3;have b:=q9 X G B U o4;have o10:=n0 X G B W a;have o11:=pa X G B E a;have R:=rf X G B a18 o6;have S:=lZ X G B a19 a;have o22:=tm X G B a20 a o6;have f:=q7 X G B a21 o7 g0;have aq:=nX X G B j o4 o8 o9;have ar:=lh X G B F o10 a;have H:=pb X G B a24 o11;have k:=tq X G B a25 R o13 o6;have o21:=Ab X G B t o4 f;have wq:=nW X G B r b d o9 o17 aq;have o27:=tj X G B a28 H ar a;have A:=z0 X G B a29 o21 b d f;have q:=rg X G B n o22 a;exact Gg (P:=l.prog) (w:=w) (base:=base) X G B (A3 lL cL kL) q k ao S o27 A wq
def hnd(g m c:Int):Ob:=.lst [.int g,.int m,.int c]
def Gx(m c:Int):Int:=(m+9973*c*c+17)*69621%2305843009213693921
def Ar(m c:Int):Int:=Gx m c*(Gx m c%999983+7919*c)%2305843009213693907
theorem JU{a b c:D}:vw [a,b,c] 0=Z a:=by rfl
theorem Lj{a b c:D}:vw [a,b,c] 1=Z b:=by rfl
theorem Li{a b c:D}:vw [a,b,c] 2=Z c:=by rfl
theorem Fg{T:Sto}{g m c k:Int}(hg:0<g)(hk:0<k)(a:k<1073741824):
  dz [.ref 0,.int k] (hnd g m c::T)=Z (.int (g%k),hnd (g/k) m c::T):=by
 simp[dz,ig,fh,jM,dH,eJ,mB,m2,b2,i4,mV,mC,dD,m3,BS,dP,hnd,hg,hk,a,dL,gN,lA,rM,gS,b3,jg,mK,kE,d6,JU,xZ]
theorem Ff{T:Sto}{g m c k:Int}(hg:¬ 0<g)(hk:0<k)(a:k<1073741824)(hc:0<=c)(e:c<2^60):
  dz [.ref 0,.int k] (hnd g m c::T)=Z (.int ((Ar m (c+1)/101+Ar m (c+1)/1000003)%k),hnd g m (c+1)::T):=by
 have h:eW 9973 (c+1)=M:=tG (by decide) (by decide);have i:eW (9973*(c+1)) (c+1)=M:=ww (by omega) (by omega);have f:eW (m+9973*(c+1)*(c+1)+17) 69621=M:=ww (by decide) (by decide);have d:eW 7919 (c+1)=M:=tG (by decide) (by decide);have q:=Int.emod_lt_of_pos ((m+9973*(c+1)*(c+1)+17)*69621) (show(0:Int)<2305843009213693921 by decide);have j:=Int.emod_nonneg ((m+9973*(c+1)*(c+1)+17)*69621) (show(2305843009213693921:Int)≠0 by decide);have b:eW ((m+9973*(c+1)*(c+1)+17)*69621%2305843009213693921) ((m+9973*(c+1)*(c+1)+17)*69621%2305843009213693921%999983+7919*(c+1))=M:=tG (by omega) (by omega);simp[dz,ig,fh,jM,dH,eJ,mB,m2,b2,i4,mV,mC,dD,m3,BS,dP,hnd,hg,hk,a,dL,gN,lA,rM,gS,b3,jg,mK,kE,d6,JU,Lj,Li,xZ,jk,eu,j8,h,i,f,d,b,Gx,Ar]
def Hnd(o:Ob)(n:Nat):Prop:=∃g m c:Int,o=hnd g m c/\0<=c/\c<=n
theorem Hnd.und{o:Ob}{n k:Nat}(h:Hnd o n):o.und k=M:=by
 obtain⟨g,m,c,rfl,_⟩:=h;rfl
theorem Hnd.more{o:Ob}{n k:Nat}(h:Hnd o n)(hk:n<=k):Hnd o k:=by
 obtain⟨g,m,c,e,a,h1⟩:=h;exact⟨g,m,c,e,a,by lia⟩
theorem gi{o:Ob}{n:Nat}{k:Int}{T:Sto}{Q:D×Sto->Prop}(ho:Hnd o n)(hn:n<=2^50)(hk:0<k)(a:k<1073741824)(h:∀(d:Nat) o',Hnd o' (n+1)->(d:Int)<k->Q (.int d,o'::T)):W (dy 2 dz [.ref 0,.int k] (o::T)) Q:=by
 obtain⟨g,m,c,rfl,f,h1⟩:=ho;have call:∀d o',dz [.ref 0,.int k] (hnd g m c::T)=Z (d,o'::T)->dy 2 dz [.ref 0,.int k] (hnd g m c::T)=Z (d,o'::T):=λd o e=>yq e O (by simp[D.unds,D.und]) (by simp);by_cases i:0<g
 ·have b:=Int.emod_nonneg g (show k≠0 by lia);obtain⟨d,e⟩:=Int.eq_ofNat_of_zero_le b;refine⟨_,call _ _ (Fg i hk a),?_⟩;rw[e];exact h d _ ⟨_,_,_,O,f,by lia⟩ (by rw[<- e];exact Int.emod_lt_of_pos _ hk)
 ·have b:=Int.emod_nonneg (Ar m (c+1)/101+Ar m (c+1)/1000003) (show k≠0 by lia);obtain⟨d,e⟩:=Int.eq_ofNat_of_zero_le b;refine⟨_,call _ _ (Ff i hk a f (by lia)),?_⟩;rw[e];exact h d _ ⟨_,_,_,O,by lia,by push_cast;lia⟩ (by rw[<- e];exact Int.emod_lt_of_pos _ hk)
theorem DE(ns:List Int)(k:Int)(l:0<=k)(hk:k<63):∃o,dy 2 fF [.rol (ns.map D.int),.int k] []=Z (.ref 0,[o])/\Hnd o 0:=by
 have i:∃g m,fF [.rol (ns.map D.int),.int k] []=Z (.ref 0,[hnd g m 0]):=by
  have j:eW (10^60) (10^30)=M:=by decide+kernel
  have f:eW 7919 k=M:=tG (by decide) (by decide);have a:eW 0 0=M:=tG (by decide) (by decide);have d:∀(x:Int) (b:Prop) [Decidable b],eW x (if b then 1 else 0)=M:=λx b _=>by
   split
   ·exact ww (by decide) (by decide)
   ·exact ww (by decide) (by decide)
  have lt:gLt (.int k) (.int ns.length) []=Z (.bl (decide (k<ns.length)),[]):=by rfl
  by_cases h:k<ns.length
  ·have c:vw (ns.map D.int) k=some (.int (ns[k.toNat]'(by lia))):=by
    unfold vw xZ;rw[ak l,ak (by simpa using h)];simp[show k.toNat<ns.length by lia]
   generalize p:ns[k.toNat]'(by lia)=x at c
   simp[fF,ig,fh,jN,dH,eJ,mB,m2,b2,b1,mN,dr,dt,i4,mV,mC,dD,m3,BS,dV,dP,dL,gN,lA,j8,eu,oo,pe,d6,eP,lt,h,c,f,d,di,hnd,jk];simp[show eW 1000000000000000000000000000000000000000000000000000000000000 1000000000000000000000000000000=M from j,a,f,d]
  ·simp[fF,ig,fh,jN,dH,eJ,mB,m2,b2,b1,mN,dr,dt,i4,mV,mC,dD,m3,BS,dV,dP,dL,gN,lA,j8,eu,oo,pe,d6,eP,lt,h,f,d,di,hnd,jk];simp[show eW 1000000000000000000000000000000000000000000000000000000000000 1000000000000000000000000000000=M from j,a,f,d]
 obtain⟨g,m,e⟩:=i;refine⟨hnd g m 0,?_,_,_,_,O,Int.le_refl _,Int.le_refl _⟩;rw[oI (n:=2) e O (by rw[D.unds,D.und,lS];rfl) (by simp[D.und])];simp[D.sh,Ob.sh,D.shs,hnd]
abbrev jp:=List (List Nat)
structure WN (t m:Nat)(T:Sto)(E:jp)(U:Sto):Prop where
 tl:T.length=t
 low:U.take t=T
 el:E.length=m
 row:∀(i:Nat) (row:List Nat),E[i]?=some row->U[t+i]?=some (.lst (nmD row))
 ends:U[t+m]?=some (.lst (j5 (t+1) m))
 cl:∀o∈U,o.und (U.length+1)=true
theorem Ez{n:Nat}{xs:List Nat}:(Ob.lst (nmD xs)).und n=M:=jT (fy xs)
theorem WN.app{t m:Nat}{T:Sto}{E:jp}{U G:Sto}(w:WN t m T E U)(c:∀o∈G,o.und 0=M):WN t m T E (U++G):=by
 have d:t+m<U.length:=(gE1.mp w.ends).1;refine⟨w.tl,?_,w.el,λi b h=>?_,?_,λo a=>?_⟩
 ·rw[List.take_append_of_le_length (by lia)];exact w.low
 ·have:=w.row i b h;rw[gL1 (gE1.mp this).1];exact this
 ·rw[gL1 d];exact w.ends
 ·rcases aF.mp a with a|a
  ·exact fP (by rw[lA1];lia) (w.cl o a)
  ·exact fP (bh _) (c o a)
theorem WN.setRow{t m i:Nat}{T:Sto}{E:jp}{U:Sto}{row:List Nat}(w:WN t m T E U)(hi:i<m):WN t m T (E.set i row) (U.set (t+i) (.lst (nmD row))):=by
 have b:t+m<U.length:=(gE1.mp w.ends).1;refine⟨w.tl,?_,by rw[aW];exact w.el,λj r h=>?_,?_,λo a=>?_⟩
 ·rw[List.take_set_of_le (by lia)];exact w.low
 ·by_cases e:i=j
  ·subst e;rw[aH (by rw[w.el];exact hi)]at h;cases h;rw[aH (by lia)]
  ·rw[gS1 e]at h;rw[gS1 (by lia)];exact w.row j r h
 ·rw[gS1 (by lia)];exact w.ends
 ·rw[aW];rcases List.mem_or_eq_of_mem_set a with a|rfl
  ·exact w.cl o a
  ·exact Ez
theorem WN.split{t m:Nat}{T:Sto}{E:jp}{U:Sto}(w:WN t m T E U):U=T++U.drop t:=by
 conv=>lhs;rw[<- cg t U,w.low]
theorem pu:∀(k n:Nat),j5 n (k+1)=j5 n k++[.ref (n+k)]
 |0,n=>rfl
 |k+1,n=>by
  rw[j5,pu k (n+1),j5,bi,show n+1+k=n+(k+1) by lia]
theorem sR:∀(k n N:Nat),n+k<=N->D.unds N (j5 n k)=M
 |0,_,_,_=>rfl
 |k+1,n,N,h=>by
  rw[j5,D.unds,sR k (n+1) N (by lia),D.und,bL,am];lia
theorem yL{t m:Nat}{T:Sto}(tl:T.length=t)(c:T.all (Ob.und (T.length+1))=M):WN t m T (aP m []) (T++(aP m (.lst [])++[.lst (j5 (t+1) m)])):=by
 refine⟨tl,by rw[<- tl,List.take_left],by simp,λi b h=>?_,?_,λo a=>?_⟩
 ·have hi:i<m:=by have:=(gE1.mp h).1;simpa using this
  rw[aS,ak hi]at h;cases h;rw[<- tl,eD,gL1 (by simpa using hi),aS,ak hi];rfl
 ·rw[<- tl,eD,gR1 (by simp)];simp
 ·rw[aF,aF,bC,cm]at a;rcases a with a|⟨_,rfl⟩|rfl
  ·exact fP (by rw[lA1];lia) (bA.mp c o a)
  ·rfl
  ·rw[Ob.und];exact sR _ _ _ (by simp;lia)
theorem nq{t m i:Nat}{T:Sto}{E:jp}{U:Sto}{o:Ob}{Q:D×Sto->Prop}(w:WN t m T E U)(hi:i<m)(q:Q (.ref (t+i+1),o::U)):W (dD (.ref (t+m+1)) (.int i) (o::U)) Q:=
 iR (xs:=j5 (t+1) m) (x:=.ref (t+i+1)) (by rw[gC1];exact w.ends) (by rw[qy hi];congr 2;lia) q
theorem oA{v k:Nat}:∀{E:jp} {i:Nat} {row:List Nat},E[i]?=Z row->(E.set i (row++[k])).flatten.count v=E.flatten.count v+if k=v then 1 else 0
 |[],i,row,h=>by simp at h
 |r::E,0,row,h=>by
  rw[cN]at h;cases h;simp only[cO,cS,List.count_append,List.count_cons,List.count_nil,beq_iff_eq];lia
 |r::E,i+1,row,h=>by
  rw[gC1]at h;simp only[cy,cS,List.count_append,oA h];lia
theorem oz{k:Nat}:∀{E:jp} {i:Nat} {row:List Nat},E[i]?=Z row->(E.set i (row++[k])).flatten.length=E.flatten.length+1
 |[],i,row,h=>by simp at h
 |r::E,0,row,h=>by
  rw[cN]at h;cases h;simp only[cO,cS,lA1,lC1,bb];lia
 |r::E,i+1,row,h=>by
  rw[gC1]at h;simp only[cy,cS,lA1,oz h];lia
theorem wT:∀{E:jp} {k:Nat},k<=E.length->(∀(i:Nat) (row:List Nat),i<k->E[i]?=Z row->4<=row.length)->4*k<=E.flatten.length
 |E,0,_,_=>by lia
 |[],k+1,h,_=>by simp at h
 |r::E,k+1,h,a=>by
  have h1:=a 0 r (by lia) O;have h2:=wT (E:=E) (k:=k) (by simpa using h) λi row hi b=>a (i+1) row (by lia) b;rw[cS,lA1];lia
structure WE (m:Nat)(E:jp)(k i:Nat):Prop where
 len:E.length=m
 le:∀(i:Nat) (row:List Nat),E[i]?=some row->row.length<=4
 fl:E.flatten.length=2*k
 ct:∀v,E.flatten.count v=if v<k then 2 else 0
 jn:∀j,1<=j->j<=i -> ∃a ra rb v,a<j/\E[a]?=some ra/\E[j]?=some rb/\v∈ra/\v∈rb
theorem yP(m:Nat):WE m (aP m []) 0 0:=by
 have e:(aP m ([]:List Nat)).flatten=[]:=by
  rw[List.flatten_eq_nil_iff];intro l b;exact(bC.mp b).2
 refine⟨by simp,λi a h=>?_,by rw[e];rfl,λv=>by rw[e,aj (by lia)];rfl,λj h1 h2=>by lia⟩;rw[aS]at h;split at h
 ·cases h;simp
 ·cases h
theorem kY{E:jp}{i k:Nat}{row:List Nat}(h:E[i]?=Z row){j:Nat}{r:List Nat}(a:E[j]?=Z r):∃r',(E.set i (row++[k]))[j]?=Z r' /\ ∀x∈r,x∈r':=by
 by_cases z:i=j
 ·subst z;rw[h]at a;cases a;exact⟨_,aH (gE1.mp h).1,λx b=>aG _ b⟩
 ·exact⟨r,by rw[gS1 z];exact a,λx b=>b⟩
theorem WE.tie{m a b k i i':Nat}{E:jp}{ra e:List Nat}(w:WE m E k i)(ha:E[a]? = some ra)(I:ra.length<4)(hb:(E.set a (ra++[k]))[b]? = some e)(ao:e.length<4)(hi:i'<=i\/(i'=i+1/\b<a/\a=i')):
  WE m ((E.set a (ra++[k])).set b (e++[k])) (k+1) i':=by
 have a1:(E.set a (ra++[k]))[a]?=Z (ra++[k]):=aH (gE1.mp ha).1;refine⟨by rw[aW,aW];exact w.len,λj g d=>?_,?_,λv=>?_,λj h1 h2=>?_⟩
 ·by_cases z:b=j
  ·subst z;rw[aH (gE1.mp hb).1]at d;cases d;rw[lA1,aY];lia
  ·rw[gS1 z]at d;by_cases u:a=j
   ·subst u;rw[a1]at d;cases d;rw[lA1,aY];lia
   ·rw[gS1 u]at d;exact w.le j g d
 ·rw[oz hb,oz ha,w.fl];lia
 ·rw[oA hb,oA ha,w.ct v];split<;>split<;>split<;>lia
 ·rcases(show j<=i\/(j=a/\b<a) by lia)with l|⟨rfl,r⟩
  ·obtain⟨c,A,B,v,D,G,H,C,y⟩:=w.jn j h1 l;obtain⟨K,x,F⟩:=kY (k:=k) ha G;obtain⟨p,n,q⟩:=kY (k:=k) hb x;obtain⟨r2,t,o⟩:=kY (k:=k) ha H;obtain⟨s,f,h⟩:=kY (k:=k) hb t;exact⟨c,p,s,v,D,n,f,q _ (F _ C),h _ (o _ y)⟩
  ·obtain⟨r2,t,o⟩:=kY (k:=k) hb a1;exact⟨b,e++[k],r2,k,r,aH (gE1.mp hb).1,t,by simp,o _ (by simp)⟩
theorem Ej{t m a b k:Nat}{T:Sto}{E:jp}{U:Sto}{o:Ob}{ra:List Nat}{r:Ev}{f g:FE}{Q:Fl×Ev×Sto->Prop}(w:WN t m T E U)(ha:a<m)(hb:b<m)(n:E[a]? = some ra)(H:ra.length<100)(F:∀ rb,E[b]? = some rb->rb.length<100)(hf:∀S,f r S=some (.int a,S))(hg:∀S,g r S=some (.int b,S))(C:mV 4 r=fun S=>some (.ref (t+m+1),S))(z:mV 3 r=fun S=>some (.int k,S))(h:∀rb v,(E.set a (ra++[k]))[b]?=some rb->WN t m T ((E.set a (ra++[k])).set b (rb++[k])) v->Q (.nx,r.set 3 (some (.int ((k+1:Nat):Int))),o::v)):
  W (dH (eU (mH (b2 gJ) (m2 (b2 dD) (mV 4) f) (dr (mV 3) dt))) (dH (eU (mH (b2 gJ) (m2 (b2 dD) (mV 4) g) (dr (mV 3) dt))) (dL (m2 (b2 eu) (mV 3) (mC (D.int (1)))) (gN 3))) r (o::U)) Q:=by
 have ap:∀(xs:List Nat),nmD xs++[D.int (k:Int)]=nmD (xs++[k]):=λxs=>by simp[nmD]
 have i:∀ {x:Nat} {d:List Nat} {E:jp} {U:Sto} {e:FE} {P:Fl×Ev×Sto->Prop} (w:WN t m T E U),x<m->E[x]? = some d->d.length<200->(∀ S,e r S=some (.int x,S))->P (.nx,r,o::U.set (t+x) (.lst (nmD (d++[k])))) ->
   W (eU (mH (b2 gJ) (m2 (b2 dD) (mV 4) e) (dr (mV 3) dt)) r (o::U)) P:=by
  intro x d E U e P w A p G B q;have y:(o::U)[t+x+1]?=Z (.lst (nmD d)):=by rw[gC1];exact w.row x d p
  unfold eU;rw[dw];refine gX ?_;unfold m2;rw[C];simp only[oS1,B,b2];refine nq w A ?_;refine⟨t+x+1,nmD d,O,y,?_⟩;unfold dr dt;rw[z];simp only[oS1,oP1];rw[dB];refine(ji y).mpr ⟨dG (by rw[ea];lia),?_⟩;rw[ap,cy];exact dB.mpr q
 have u:=w.setRow (row:=ra++[k]) ha;obtain⟨rb,c⟩:∃rb,(E.set a (ra++[k]))[b]?=some rb:=⟨_,gG1 (by rw[u.el];exact hb)⟩;have s:rb.length<200:=by
  by_cases e:a=b
  ·subst e;rw[aH (by rw[w.el];exact ha)]at c;cases c;rw[lA1,aY];lia
  ·rw[gS1 e]at c;have:=F rb c;lia
 refine dS (λl S=>l=r/\S=o::U.set (t+a) (.lst (nmD (ra++[k])))) (i w ha n (by lia) hf ⟨O,O,O⟩) ?_;rintro l S ⟨rfl,rfl⟩;refine dS (λj S=>j=l/\S=o::(U.set (t+a) (.lst (nmD (ra++[k])))).set (t+b) (.lst (nmD (rb++[k])))) (i u hb c s hg ⟨O,O,O⟩) ?_;rintro j S ⟨rfl,rfl⟩;unfold dL m2 mC gN;rw[z];simp only[oS1,b2];rw[dw,BM];exact dB.mpr (h rb _ c (u.setRow hb))
theorem Fe{t m i n:Nat}{T U:Sto}{E:jp}{o:Ob}{N x6 x7 x8 x9:Option D}{Q:Fl×Ev×Sto->Prop}(w:WN t m T E U)(v:WE m E i i)(ho:Hnd o n)(hn:n<=2^44)(hi:i+1<m)(hm:m<=8)(he:∀j row,i+1<=j->E[j]?=some row->row=[])(h:∀V o' wq R X,WN t m T V wq->WE m V (i+1) (i+1)->Hnd o' (n+1)->(∀j row,i+2<=j->V[j]?=some row->row=[]) ->
   Q (.nx,[Z (.ref 0),N,Z (.int m),Z (.int ((i+1:Nat):Int)),Z (.ref (t+m+1)),Z (.int ((i+1:Nat):Int)),R,X,x8,x9],o'::wq)):
  W (fZ [Z (.ref 0),N,Z (.int m),Z (.int (i:Nat)),Z (.ref (t+m+1)),Z (.int ((i+1:Nat):Int)),x6,x7,x8,x9] (o::U)) Q:=by
 have e:∀j,j<m -> ∃row,E[j]?=Z row:=λj g=>⟨_,gG1 (by rw[v.len];exact g)⟩
 let k:Nat->Bool:=λj=>decide ((E.getD j []).length<4)
 unfold fZ;have y:(af (i+1)).filter k≠[]:=by
  intro z;have A:∀j row,j<i+1->E[j]?=Z row->4<=row.length:=λj row g hr=>by
   have:=List.filter_eq_nil_iff.mp z j (aB.mpr g);simp only[k,bI,hr,b5,am]at this;lia
  have:=wT (E:=E) (k:=i+1) (by rw[v.len];lia) A;have:=v.fl;lia
 generalize P:(af (i+1)).filter k=L at y;have ar:∀j∈L,j<i+1/\k j=M:=λj g=>by
  rw[<- P,aA]at g;exact⟨aB.mp g.1,g.2⟩
 have hLl:L.length<=8:=by
  rw[<- P];have:=cT k (af (i+1));simp at this;lia
 refine dS (λr S=>r=[Z (.ref 0),N,Z (.int m),Z (.int (i:Nat)),Z (.ref (t+m+1)),Z (.int ((i+1:Nat):Int)),Z (.ref (U.length+1)),x7,x8,x9]/\S=o::(U++[.lst (nmD L)])) ?_ ?_
 ·walk_at"w";rw[lj,Int.toNat_natCast];refine⟨fX (by lia),?_⟩;refine rT k (λj:Nat=>.int j) (λr=>∃x,r=[x,Z (.ref (t+m+1))]) O (af (i+1)) _ ⟨_,O⟩ ?_ ?_
  ·rintro j g r ⟨x,rfl⟩;have s:j<m:=by have:=aB.mp g;lia
   obtain⟨row,c⟩:=e j s;walk_at"w";refine nq w s ?_;walk_at"w";refine d5 (xs:=nmD row) (by rw[gC1];exact w.row j row c) ?_;walk_at"w";refine⟨?_,⟨_,O⟩,λ_=>trivial⟩;simp only[k,bI,c,b5,ea];rw[bP,am,am];lia
  ·rintro r' _;walk_at"w";rw[P];exact⟨dG (by rw[lM1];lia),O⟩
 rintro r S ⟨rfl,rfl⟩;have hL0:0<L.length:=List.length_pos_iff.mpr y;have gL:∀o:Ob,(o::(U++[Ob.lst (nmD L)]))[U.length+1]?=Z (.lst (nmD L)):=λo=>by rw[gC1,dF];rfl
 refine dS (λr S=>∃j u,j<i+1/\k j=M/\Hnd u (n+1)/\r=[Z (.ref 0),N,Z (.int m),Z (.int (i:Nat)),Z (.ref (t+m+1)),Z (.int ((i+1:Nat):Int)),Z (.ref (U.length+1)),Z (.int (j:Nat)),x8,x9]/\S=u::(U++[.lst (nmD L)])) ?_ ?_
 ·walk_at"w";refine d5 (gL _) ?_;walk_at"w";rw[ea];refine gi ho (by lia) (by lia) (by lia) λd u p hd=>?_;have F:d<L.length:=by lia
  refine iR (i:=d) (xs:=nmD L) (x:=.int (L[d]:Nat)) (gL _) (by rw[nmD,gP1,gG1 F];rfl) ?_;obtain⟨H,l⟩:=ar L[d] (bR F);exact⟨L[d],u,H,l,p,O,O⟩
 rintro r S ⟨j,u,H,l,p,rfl,rfl⟩;obtain⟨row,c⟩:=e j (by lia);have au:row.length<4:=by
  simp only[k,bI,c,b5,am]at l;exact l
 obtain⟨aq,q⟩:=e (i+1) hi;have I:=he (i+1) aq (nR1 _) q;subst I;have w':=w.app (G:=[Ob.lst (nmD L)]) λo ho=>by rw[cm]at ho;subst ho;exact Ez
 refine Ej (a:=i+1) (b:=j) (ra:=[]) w' hi (by lia) q (by simp) (λaq hb=>by rw[c]at hb;cases hb;lia) (λ_=>rfl) (λ_=>rfl) O O λaq U2 f w2=>?_;have B:i+1≠j:=by lia
 have ao:aq=row:=by
  rw[gS1 B,c]at f;cases f;rfl
 subst ao;refine h _ u U2 _ _ w2 (v.tie q (by simp) f au (.inr ⟨O,by lia,O⟩)) p λj' K s C=>?_;rw[gS1 (by lia),gS1 (by lia)]at C;exact he j' K (by lia) C
theorem Gw{t m n k i:Nat}{T U:Sto}{E:jp}{o:Ob}{ao x5 x6 x7 x8 x9:Option D}{Q:Fl×Ev×Sto->Prop}(w:WN t m T E U)(v:WE m E k i)(ho:Hnd o n)(hn:n<=2^44)(hm0:0<m)(hm:m<=8)(h:∀E' k' o' U' ar R,WN t m T E' U'->WE m E' k' i->Hnd o' (n+2) ->
   Q (.nx,[Z (.ref 0),ao,Z (.int m),Z (.int (k':Nat)),Z (.ref (t+m+1)),x5,x6,ar,x8,R],o'::U')):
  W (fY [Z (.ref 0),ao,Z (.int m),Z (.int (k:Nat)),Z (.ref (t+m+1)),x5,x6,x7,x8,x9] (o::U)) Q:=by
 have l:∀j,j<m -> ∃row,E[j]?=Z row:=λj hj=>⟨_,gG1 (by rw[v.len];exact hj)⟩;unfold fY;refine dS (λr S=>∃a b g,a<m/\b<m/\Hnd g (n+2)/\r=[Z (.ref 0),ao,Z (.int m),Z (.int (k:Nat)),Z (.ref (t+m+1)),x5,x6,Z (.int (b:Nat)),x8,Z (.int (a:Nat))]/\S=g::U) ?_ ?_
 ·walk_at"w";refine gi ho (by lia) (by lia) (by lia) λa o1 aq I=>?_;walk_at"w";refine gi aq (by lia) (by lia) (by lia) λb g q L=>?_;walk_at"w";exact⟨a,b,g,by lia,by lia,q,O,O⟩
 rintro r S ⟨a,b,g,I,L,q,rfl,rfl⟩;obtain⟨V,A⟩:=l a I;obtain⟨K,u⟩:=l b L;have H:Q (.nx,[Z (.ref 0),ao,Z (.int m),Z (.int (k:Nat)),Z (.ref (t+m+1)),x5,x6,Z (.int (b:Nat)),x8,Z (.int (a:Nat))],g::U):=
  h E k g U _ _ w v q
 unfold eJ;rw[dw];have F:W (rn (mB (m2 (b2 gLt) (m2 (b2 eu) (mN (b1 dV) (dr (m2 (b2 dD) (mV 4) (mV 9)) dt)) (mN (b1 pe) (dr (m2 (b2 gEq) (mV 9) (mV 7)) dt))) (mC (D.int (4))))) (mB (m2 (b2 gLt) (mN (b1 dV) (dr (m2 (b2 dD) (mV 4) (mV 7)) dt)) (mC (D.int (4))))) [Z (.ref 0),ao,Z (.int m),Z (.int (k:Nat)),Z (.ref (t+m+1)),x5,x6,Z (.int (b:Nat)),x8,Z (.int (a:Nat))] (g::U)) λp=>p.2=g::U/\(p.1=M->V.length+(if a=b then 1 else 0)<4/\K.length<4):=by
  walk_at"w";refine nq w I ?_;walk_at"w";refine d5 (xs:=nmD V) (by rw[gC1];exact w.row a V A) ?_;walk_at"w";rw[ea];have e1:((a:Int) == (b:Int))=decide (a=b):=by
   rw[bP,beq_iff_eq,am];lia
  rw[e1];have rest:W (dD (D.ref (t+m+1)) (D.int (b:Int)) (g::U)) λx=>W (dV x.fst x.snd) λx=>W (gLt x.fst (D.int 4) x.snd) λx=>W (match x.fst with|D.bl b=>some (b,x.snd)|x=>none) λp=>p.snd=g::U/\(p.fst=true->K.length<4):=by
   refine nq w L ?_;walk_at"w";refine d5 (xs:=nmD K) (by rw[gC1];exact w.row b K u) ?_;walk_at"w";rw[ea];intro X;rw[am]at X;lia
  by_cases f:a=b
  ·rw[ah f];walk_at"w";split
   ·rename_i s;rw[am]at s;refine rest.mono λx P=>P.mono λy au=>au.mono λz N=>N.mono λp B=>⟨B.1,λe=>⟨by first|lia|(rw[ak f];lia),B.2 e⟩⟩
   ·first|(intro z;cases z;done)|(refine⟨_,rfl,?_,λz=>?_⟩<;>first|rfl|cases z)|walk_at"w"
  ·rw[ai f];walk_at"w";split
   ·rename_i s;rw[am]at s;refine rest.mono λx P=>P.mono λy au=>au.mono λz N=>N.mono λp B=>⟨B.1,λe=>⟨by first|lia|(rw[aj f];lia),B.2 e⟩⟩
   ·first|(intro z;cases z;done)|(refine⟨_,rfl,?_,λz=>?_⟩<;>first|rfl|cases z)|walk_at"w"
 obtain⟨⟨c,S1⟩,ec,wq,hc⟩:=F;dsimp only at wq hc;subst wq;refine⟨_,ec,?_⟩;dsimp only;cases c with
 |false=>rw[aj (by decide)];exact dB.mpr H
 |true=>
  rw[ak O];obtain⟨h1,h2⟩:=hc O;refine Ej (a:=a) (b:=b) w I L A (by lia) (λC G=>by rw[u]at G;cases G;lia) (λ_=>rfl) (λ_=>rfl) O O λC U2 d w2=>?_;have hl:C.length<4:=by
   by_cases f:a=b
   ·subst f;rw[aH (by rw[v.len];exact I)]at d;cases d;rw[ak O]at h1;rw[lA1,aY];lia
   ·rw[gS1 f,u]at d;cases d;exact h2
  exact h _ (k+1) g U2 _ _ w2 (v.tie A (by lia) d hl (.inl (nR1 _))) q
abbrev Pl:=List ((Nat×Nat)×Nat)
def hK(i:Nat)(row:List Nat):Pl:=row.zipIdx.map λp=>((i,p.2),p.1)
def fb:Nat->jp->Pl
 |_,[]=>[]
 |i,row::R=>hK i row++fb (i+1) R
def ps(A:Pl)(v:Nat):List (Nat×Nat):=(A.filter λx=>x.2 == v).map (·.1)
theorem zL{i j v:Nat}{row:List Nat}(h:row[j]?=Z v):hK i (row.take (j+1))=hK i (row.take j)++[((i,j),v)]:=by
 have a:=(gE1.mp h).1;unfold hK;rw[cF,h,Option.toList_some,List.zipIdx_append,cE];simp;lia
theorem me:∀{R:jp} {i k:Nat} {row:List Nat},R[i]?=Z row->fb k (R.take (i+1))=fb k (R.take i)++hK (k+i) row
 |[],i,k,row,h=>by simp at h
 |r::R,0,k,row,h=>by
  rw[cN]at h;cases h;simp[fb]
 |r::R,i+1,k,row,h=>by
  rw[gC1]at h;rw[cU,cU,fb,fb,me h,bF,show k+1+i=k+(i+1) by lia]
theorem wx{i:Nat}{row:List Nat}{x:(Nat×Nat)×Nat}:x∈hK i row↔x.1.1=i/\row[x.1.2]?=Z x.2:=by
 obtain⟨⟨a,b⟩,c⟩:=x;unfold hK;rw[cc];constructor
 ·rintro⟨⟨v,j⟩,h,e⟩;cases e;exact⟨O,cM.mp h⟩
 ·rintro⟨rfl,h⟩;exact⟨(c,b),cM.mpr h,O⟩
theorem n6:∀{R:jp} {k:Nat} {x:(Nat×Nat)×Nat},x∈fb k R ↔ ∃i a,x.1.1=k+i/\R[i]?=Z a/\a[x.1.2]?=Z x.2
 |[],k,x=>by simp[fb]
 |r::R,k,x=>by
  rw[fb,aF,wx,n6 (R:=R)];constructor
  ·rintro(⟨h1,h2⟩|⟨i,a,h1,h2,b⟩)
   ·exact⟨0,r,by lia,O,h2⟩
   ·exact⟨i+1,a,by lia,h2,b⟩
  ·rintro⟨i,a,h1,h2,b⟩;cases i with
   |zero=>cases h2;exact .inl ⟨by lia,b⟩
   |succ i=>exact .inr ⟨i,a,by lia,h2,b⟩
theorem CB{i:Nat}{row:List Nat}:(hK i row).map (·.2)=row:=by
 unfold hK;rw[bt];exact List.zipIdx_map_fst 0 row
theorem t0:∀{R:jp} {k:Nat},(fb k R).map (·.2)=R.flatten
 |[],_=>rfl
 |r::R,k=>by rw[fb,cE,CB,t0 (R:=R),cS]
theorem FM{i:Nat}{row:List Nat}:((hK i row).map (·.1)).Nodup:=by
 unfold hK;rw[bt];have e:(row.zipIdx.map ((λx:(Nat×Nat)×Nat=>x.1)∘λp=>((i,p.2),p.1)))=(row.zipIdx.map (·.2)).map λj=>(i,j):=by rw[bt];rfl
 rw[e,List.zipIdx_map_snd,<- List.range_eq_range'];exact List.pairwise_map.mpr (List.nodup_range.imp λh z=>h (Prod.mk.inj z).2)
theorem rS:∀{R:jp} {k:Nat},((fb k R).map (·.1)).Nodup
 |[],_=>bp
 |r::R,k=>by
  rw[fb,cE,bw];refine⟨FM,rS,λa f b h e=>?_⟩;obtain⟨x,c,rfl⟩:=cc.mp f;obtain⟨y,g,rfl⟩:=cc.mp h;have h1:=(wx.mp c).1;obtain⟨i,d,h2,_⟩:=n6.mp g;rw[e]at h1;lia
theorem FJ{A:Pl}{v:Nat}:(ps A v).length=(A.map (·.2)).count v:=by
 unfold ps;rw[lM1,List.count,List.countP_map,List.countP_eq_length_filter];rfl
theorem na{A:Pl}{p:Nat×Nat}{v u:Nat}:ps (A++[(p,v)]) u=if v=u then ps A u++[p]else ps A u:=by
 unfold ps;rw[cV,cE];by_cases h:v=u
 ·simp[h]
 ·simp[h]
theorem GC{A:Pl}{p:Nat×Nat}{v:Nat}:p∈ps A v↔(p,v)∈A:=by
 unfold ps;rw[cc];constructor
 ·rintro⟨⟨q,u⟩,h,e⟩;obtain⟨h1,h2⟩:=aA.mp h;have h2:u=v:=by simpa using h2
  cases e;cases h2;exact h1
 ·intro h;exact⟨(p,v),aA.mpr ⟨h,by simp⟩,O⟩
theorem IH{A:Pl}{v:Nat}(h:(A.map (·.1)).Nodup):(ps A v).Nodup:=h.sublist (List.filter_sublist.map _)
structure PL (b:Nat)(A:Pl)(kv:List (Key×D))(H:Sto):Prop where
 no:∀v:Nat,ps A v=[]->dM kv (Sum.inl (v:Int))=none
 yes:∀v:Nat,ps A v≠[] -> ∃h,dM kv (Sum.inl (v:Int))=some (.ref (b+h))/\H[h]?=some (.lst ((ps A v).map pD))
 inj:∀v u h:Nat,dM kv (Sum.inl (v:Int))=some (.ref (b+h))->dM kv (Sum.inl (u:Int))=some (.ref (b+h))->v=u
 few:kv.length<=A.length
theorem ol{v u:Nat}(h:v≠u):(Sum.inl (v:Int):Key)≠Sum.inl (u:Int):=λe=>h (by injection e with e;lia)
theorem PL.old{b v h:Nat}{A:Pl}{kv:List (Key×D)}{H:Sto}{p:Nat×Nat}(P:PL b A kv H)(hv:ps A v≠[])(e:dM kv (Sum.inl (v:Int))=some (.ref (b+h)))(g:H[h]? = some (.lst ((ps A v).map pD))):
  PL b (A++[(p,v)]) kv ((H++[Ob.lst []]).set h (.lst ((ps A v).map pD++[pD p]))):=by
 have i:=(gE1.mp g).1;refine⟨λu a=>?_,λu a=>?_,P.inj,by rw[lA1];have:=P.few;lia⟩
 ·rw[na]at a;split at a
  ·simp at a
  ·exact P.no u a
 ·rw[na]at a ⊢;by_cases c:v=u
  ·subst c;rw[ak O,cE];exact⟨h,e,aH (by rw[lA1];lia)⟩
  ·rw[aj c]at a ⊢;obtain⟨h',d,f⟩:=P.yes u a;refine⟨h',d,?_⟩;rw[gS1 (λz=>c (P.inj v u h e (by rw[z];exact d))),gL1 (gE1.mp f).1];exact f
theorem PL.new{b v:Nat}{A:Pl}{kv:List (Key×D)}{H:Sto}{p:Nat×Nat}(P:PL b A kv H)(hv:ps A v=[]):
  PL b (A++[(p,v)]) (g6 kv (Sum.inl (v:Int)) (.ref (b+H.length))) (H++[.lst [pD p]]):=by
 refine⟨λu f=>?_,λu f=>?_,λu j h d c=>?_,by rw[lA1,aY];have:=P.few;have:=qB (k:=(Sum.inl (v:Int):Key)) (v:=D.ref (b+H.length)) (a:=kv);lia⟩
 ·rw[na]at f;split at f
  ·simp at f
  ·rename_i l;rw[jB,aj (ol (Ne.symm l))];exact P.no u f
 ·rw[na]at f ⊢;by_cases g:v=u
  ·subst g;rw[ak O,hv,jB,ak O];exact⟨H.length,O,by rw[gR1 (nR1 _),cB];rfl⟩
  ·rw[aj g]at f ⊢;obtain⟨h',d,c⟩:=P.yes u f;refine⟨h',by rw[jB,aj (ol (Ne.symm g))];exact d,?_⟩;rw[gL1 (gE1.mp c).1];exact c
 ·have old:∀ w:Nat,w≠v->dM kv (Sum.inl (w:Int))=some (.ref (b+h))->h<H.length:=fun w o e=>by
   by_cases m:ps A w=[]
   ·rw[P.no w m]at e;cases e
   ·obtain⟨h',i,n⟩:=P.yes w m;rw[e]at i;have:h=h':=by injection i with i;injection i with i;lia
    rw[this];exact(gE1.mp n).1
  rw[jB]at d c;by_cases h1:u=v
  ·by_cases h2:j=v
   ·rw[h1,h2]
   ·rw[ak (by rw[h1])]at d;rw[aj (ol h2)]at c;have:=old j h2 c;have:h=H.length:=by injection d with d;injection d with d;lia
    lia
  ·rw[aj (ol h1)]at d;by_cases h2:j=v
   ·rw[ak (by rw[h2])]at c;have:=old u h1 d;have:h=H.length:=by injection c with c;injection c with c;lia
    lia
   ·rw[aj (ol h2)]at c;exact P.inj u j h d c
def jw(A:Pl)(v:Nat)(e:Nat×Nat):Nat×Nat:=let l:=ps A v;if l.getD 0 (0,0)=e then l.getD 1 (0,0)else l.getD 0 (0,0)
theorem y2{A:Pl}{v:Nat}(h2:(ps A v).length=2):∃p q,ps A v=[p,q]:=by
 match hp:ps A v,h2 with
 |[p,q],_=>exact⟨p,q,O⟩
theorem wj{A:Pl}{v:Nat}{e:Nat×Nat}(h:(A.map (·.1)).Nodup)(h2:(ps A v).length=2)(he:(e,v)∈A):(jw A v e,v)∈A/\jw A v e≠e/\jw A v (jw A v e)=e /\ ∀x,(x,v)∈A->x=e\/x=jw A v e:=by
 obtain⟨p,q,f⟩:=y2 h2;have g:=IH (v:=v) h;rw[f]at g;have a:p≠q:=by simpa using g
 have m:∀x,(x,v)∈A↔x=p\/x=q:=λx=>by rw[<- GC,f];simp
 have d:∀x,jw A v x=if p=x then q else p:=λx=>by simp[jw,f]
 rcases(m e).mp he with rfl|rfl
 ·have c:jw A v e=q:=by rw[d,ak O]
  rw[c];exact⟨(m q).mpr (.inr O),Ne.symm a,by rw[d,aj a],λx b=>(m x).mp b⟩
 ·have c:jw A v e=p:=by rw[d,aj a]
  rw[c];exact⟨(m p).mpr (.inl O),a,by rw[d,ak O],λx b=>((m x).mp b).symm⟩
theorem vO{c:FT}{b:FS}{Q:Fl×Ev×Sto->Prop}(I:Nat->Ev->Sto->Prop)(N:Nat)(step:∀k r S,I k r S->W (c r S) fun p=>if p.1=true then k<N/\W (b r p.2) fun q=>q.1 = .nx/\I (k+1) q.2.1 q.2.2 else Q (.nx,r,p.2)):
  ∀(fuel k:Nat) (r:Ev) (S:Sto),N-k<fuel->I k r S->W (ux c b fuel r S) Q
 |0,k,r,S,hf,_=>by lia
 |fuel+1,k,r,S,hf,hi=>by
  rw[ux];dsimp only;rw[dw];obtain⟨⟨t,l⟩,e,h⟩:=step k r S hi;refine⟨_,e,?_⟩;dsimp only at h ⊢;cases t with
  |true=>
   rw[ak O]at h ⊢;obtain⟨m,⟨f,j,g⟩,i,d,a⟩:=h;dsimp only at d a;subst d;rw[i,oS1];exact vO I N step fuel (k+1) j g (by lia) a
  |false=>
   rw[aj (by decide)]at h ⊢;exact dB.mpr h
theorem xf{m:FA}{r:Ev}{S:Sto}{xs:List D}{n:Nat}{Q:yx×Sto->Prop}(hm:m r S=Z ([.ref n],S))(hn:S[n]?=Z (.lst xs))(q:Q (⟨sC 0 xs,[(n,xs)]⟩,S)):W (om m r S) Q:=by
 refine W.of (x:=(⟨sC 0 xs,[(n,xs)]⟩,S)) ?_ q;simp only[om,hm,oS1,gj hn,r0 hn]
theorem oB:∀{xs:List Nat} {i:Nat} (h:i<xs.length),(xs[i]::xs.eraseIdx i).Perm xs
 |x::xs,0,h=>.refl _
 |x::xs,i+1,h=>by
  rw[List.eraseIdx_cons_succ,List.getElem_cons_succ];exact(List.Perm.swap x _ _).trans ((oB (by simpa using h)).cons x)
theorem sU{xs rs row:List Nat}{i:Nat}{x:Nat}(h:(rs++xs).Perm row)(hx:xs[i]?=Z x):((rs++[x])++xs.eraseIdx i).Perm row:=by
 refine List.Perm.trans ?_ h;rw[bF];refine List.Perm.append_left rs ?_;obtain⟨hi,rfl⟩:=gE1.mp hx;exact oB hi
theorem Ah{xs:List Nat}{i x:Nat}(h:xs[i]?=Z x):(nmD xs)[i]?=Z (.int x):=by rw[nmD,gP1,h];rfl
theorem tF{xs:List Nat}{i:Nat}:(nmD xs).eraseIdx i=nmD (xs.eraseIdx i):=by
 rw[nmD,nmD,ci,ci,cE,List.map_take,List.map_drop]
theorem ll{xs:List Nat}{x:Nat}:nmD xs++[D.int (x:Int)]=nmD (xs++[x]):=by simp[nmD]
theorem Fp{V:Sto}{o:Ob}{n:Nat}{row:List Nat}{h x2 x3 x6 m x8 x9:Option D}{Q:Fl×Ev×Sto->Prop}(ho:Hnd o n)(hn:n<=2^44)(hr:row.length<=4)(q:∀o' rs G,Hnd o' (n+4)->rs.Perm row->Q (.nx,[some (.ref 0),h,x2,x3,some (.ref (V.length+1)),some (.ref (V.length+2)),x6,m,x8,x9],o'::(V ++ .lst [] :: .lst (nmD rs)::G))):
  W (ux gR gQ 100000 [Z (.ref 0),h,x2,x3,Z (.ref (V.length+1)),Z (.ref (V.length+2)),x6,m,x8,x9] (o::(V++[.lst (nmD row),.lst []]))) Q:=by
 refine vO (λk r S=>∃o' a rs G,Hnd o' (n+k)/\(rs++a).Perm row/\rs.length=k/\S=o'::(V ++ .lst (nmD a) :: .lst (nmD rs)::G)/\r=[Z (.ref 0),h,x2,x3,Z (.ref (V.length+1)),Z (.ref (V.length+2)),x6,m,x8,x9]) 4 ?_ 100000 0 _ _ (by lia) ⟨o,row,[],[],ho,.refl _,O,O,O⟩;rintro k r S ⟨o',a,rs,G,c,g,u,rfl,rfl⟩;have b:=g.length_eq;rw[lA1]at b;have f:∀(o:Ob) (X:Ob) (ar:Sto),(o::(V++X::ar))[V.length+1]?=Z X:=λo X ar=>by rw[gC1,dF];rfl
 have s:∀(o:Ob) (X wq:Ob) (ar:Sto),(o::(V++X::wq::ar))[V.length+2]?=Z wq:=λo X wq ar=>by rw[gC1,eD];rfl
 refine W.of (x:=(!(nmD a).isEmpty,o'::(V ++ .lst (nmD a) :: .lst (nmD rs)::(G++[.lst []])))) ?_ ?_
 ·have e:(o'::(V++Ob.lst (nmD a)::Ob.lst (nmD rs)::G))++[Ob.lst []]=o'::(V ++ .lst (nmD a) :: .lst (nmD rs)::(G++[.lst []])):=by simp
  unfold gR mB m2 mV eP dt b2;simp only[gC1,cN,cR,oP1,oS1];rw[ak (show([]:List D).length<=di by decide),oS1,e,DL (xs:=nmD a) (f _ _ _) (by rw[<- e,dF];rfl)];rfl
 dsimp only;cases a with
 |nil=>
  rw[show(nmD ([]:List Nat)).isEmpty=M from rfl,aj (by decide)];rw[aM]at g;exact q o' rs _ (c.more (by simp at b;lia)) g
 |cons l a=>
  rw[show(!(nmD (l::a)).isEmpty)=M from rfl,ak O];refine⟨by rw[lC1]at b;lia,?_⟩;unfold gQ;walk_at"w";refine gX ?_;walk_at"w";refine⟨V.length+2,nmD rs,O,s _ _ _ _,?_⟩;refine gX ?_;walk_at"w";refine⟨V.length+1,nmD (l::a),O,f _ _ _,?_⟩;refine d5 (f _ _ _) ?_;walk_at"w";rw[ea];rw[lC1]at b;refine gi c (by lia) (by rw[lC1];lia) (by rw[lC1];lia) λd j i t=>?_;obtain⟨x,p⟩:∃x,(l::a)[d]?=some x:=⟨_,gG1 (by lia)⟩;walk_at"w";refine BE (f _ _ _) (Ah p) (by rw[lC1]at t;lia) ?_;have es:∀X,(j::(V++Ob.lst (nmD (l::a))::Ob.lst (nmD rs)::(G++[Ob.lst []]))).set (V.length+1) X=j::(V++X :: .lst (nmD rs)::(G++[.lst []])):=λX=>by
   rw[cy,cW _ _ (nR1 _),cB];rfl
  rw[es];walk_at"w";refine(ji (s _ _ _ _)).mpr ⟨dG (by rw[ea];lia),?_⟩;refine⟨j,(l::a).eraseIdx d,rs++[x],G++[.lst []],i.more (by lia),sU g p,by rw[lA1,u];rfl,?_,trivial⟩;rw[cy,cW _ _ (by lia),show V.length+1-V.length=1 by lia,ll,tF];rfl
def rk(u:Nat)(ks:List Nat):List D:=ks.map λk=>D.ref (u+2+k)
structure RS (R:jp)(ks:List Nat)(G:Sto):Prop where
 len:ks.length=R.length
 row:∀(j k:Nat) (row:List Nat),ks[j]?=some k->R[j]?=some row->G[k]?=some (.lst (nmD row))
theorem RS.app{R:jp}{ks:List Nat}{G H:Sto}(r:RS R ks G):RS R ks (G++H):=
 ⟨r.len,λj k a h1 h2=>by have:=r.row j k a h1 h2;rw[gL1 (gE1.mp this).1];exact this⟩
theorem RS.snoc{R:jp}{ks:List Nat}{G:Sto}{k:Nat}{row:List Nat}(r:RS R ks G)(h:G[k]?=Z (.lst (nmD row))):RS (R++[row]) (ks++[k]) G:=by
 refine⟨by rw[lA1,lA1,r.len];rfl,λj c a h1 h2=>?_⟩;by_cases b:j<ks.length
 ·rw[gL1 b]at h1;rw[gL1 (by rw[<- r.len];exact b)]at h2;exact r.row j c a h1 h2
 ·have:=(gE1.mp h1).1;rw[lA1,aY]at this;have e:j=ks.length:=by lia
  subst e;rw[cX]at h1;rw[r.len,cX]at h2;cases h1;cases h2;exact h
theorem Fa{U G:Sto}{ks:List Nat}{o:Ob}{n e i:Nat}{row:List Nat}{x4 x5 x6 c x8 x9:Option D}{Q:Fl×Ev×Sto->Prop}(hi:U[i]? = some (.lst (nmD row)))(ho:Hnd o n)(hn:n<=2^44)(hr:row.length<=4)(hk:ks.length<=100)(q:∀o' rs p k m g,Hnd o' (n+4)->rs.Perm row->(G++p)[k]?=some (.lst (nmD rs))->Q (.nx,[some (.ref 0),some (.ref e),some (.ref (U.length+1)),some (.ref (i+1)),m,g,x6,c,x8,x9],o'::(U ++ .lst (rk U.length (ks++[k]))::(G++p)))):
  W (gP [Z (.ref 0),Z (.ref e),Z (.ref (U.length+1)),Z (.ref (i+1)),x4,x5,x6,c,x8,x9] (o::(U ++ .lst (rk U.length ks)::G))) Q:=by
 generalize b:U ++ .lst (rk U.length ks)::G=V;have d:V.length=U.length+1+G.length:=by rw[<- b];simp;lia
 have j:V[i]?=Z (.lst (nmD row)):=by rw[<- b,gL1 (gE1.mp hi).1];exact hi
 have f:V[U.length]?=Z (.lst (rk U.length ks)):=by rw[<- b,dF];rfl
 unfold gP;refine dS (λr S=>S=o::(V++[.lst (nmD row),.lst []])/\r=[Z (.ref 0),Z (.ref e),Z (.ref (U.length+1)),Z (.ref (i+1)),Z (.ref (V.length+1)),Z (.ref (V.length+2)),x6,c,x8,x9]) ?_ ?_
 ·have s:∀S:Sto,S[i+1]?=Z (.lst (nmD row))->rL (.ref (i+1)) S=Z (.ref S.length,S++[.lst (nmD row)]):=λS h=>by unfold rL;rw[gj h];rfl
  ((try walk_at"w");repeat(simp only[s (o::V) (by rw[gC1];exact j)];try walk_at"w"))
 rintro r S ⟨rfl,rfl⟩;refine dS (λr S=>∃o' rs G2,Hnd o' (n+4)/\rs.Perm row/\S=o'::(V ++ .lst [] :: .lst (nmD rs)::G2)/\r=[Z (.ref 0),Z (.ref e),Z (.ref (U.length+1)),Z (.ref (i+1)),Z (.ref (V.length+1)),Z (.ref (V.length+2)),x6,c,x8,x9]) ?_ ?_
 ·refine Fp ho hn hr λo' rs G2 h1 h2=>⟨O,o',rs,G2,h1,h2,O,O⟩
 rintro r S ⟨o',rs,G2,l,t,rfl,rfl⟩;have a:(o'::(V++Ob.lst []::Ob.lst (nmD rs)::G2))[U.length+1]?=Z (.lst (rk U.length ks)):=by
  rw[gC1,gL1 (by lia)];exact f
 walk_at"w";refine gX ?_;walk_at"w";refine⟨U.length+1,_,O,a,?_⟩;refine(ji a).mpr ⟨dG (by unfold rk;rw[lM1];lia),?_⟩;have es:(o'::(V++Ob.lst []::Ob.lst (nmD rs)::G2)).set (U.length+1) (.lst (rk U.length ks++[.ref (V.length+2)]))=o'::(U ++ .lst (rk U.length (ks++[G.length+1]))::(G++Ob.lst []::Ob.lst (nmD rs)::G2)):=by
  have u:rk U.length ks++[.ref (V.length+2)]=rk U.length (ks++[G.length+1]):=by
   unfold rk;rw[cE,d,show U.length+1+G.length+2=U.length+2+(G.length+1) by lia];rfl
  rw[u,<- b,cy,bF,cW _ _ (nR1 _),cB];rfl
 rw[es];exact q o' rs _ (G.length+1) _ _ l t (by rw[eD];rfl)
theorem J4{m a b:FE}{r:Ev}{S:Sto}{n v:Nat}{kv:List (Key×D)}{Q:D×Sto->Prop}(hm:m r S=Z (.ref n,S))(ha:a r S=Z (.int v,S))(hb:b r S=Z (.ref S.length,S++[.lst []]))(hn:S[n]? = Z (.dct kv))(e:kv.length<1000)(h1:∀z,dM kv (Sum.inl (v:Int))=Z z->Q (z,S++[.lst []]))(h2:dM kv (Sum.inl (v:Int))=Y->Q (.ref S.length,(S++[Ob.lst []]).set n (.dct (g6 kv (Sum.inl (v:Int)) (.ref S.length))))):W (n8 m a b r S) Q:=by
 have c:(S++[Ob.lst []])[n]?=Z (.dct kv):=by rw[gL1 (gE1.mp hn).1];exact hn
 have d:kv.length<di:=nL1 e (by decide);cases hk:dM kv (Sum.inl (v:Int))with
 |some z=>
  refine W.of ?_ (h1 z hk);simp only[n8,hm,oS1,hn,ha,hb,c,rv,ak d,hk]
 |none=>
  refine W.of ?_ (h2 hk);simp only[n8,hm,oS1,hn,ha,hb,c,rv,ak d,hk]
theorem CG{X H:Sto}{o:Ob}{A:Pl}{kv:List (Key×D)}{i j v:Nat}{k x2 x3 x4 x5:Option D}{Q:Fl×Ev×Sto->Prop}(P:PL (X.length+2) A kv H)(C:A.length<100)(q:∀a H',PL (X.length+2) (A++[((i,j),v)]) a H'->Q (.nx,[some (.ref 0),k,x2,x3,x4,x5,some (.ref (X.length+1)),some (.int (i:Nat)),some (.int (j:Nat)),some (.int (v:Nat))],o::(X ++ .dct a::H'))):
  W (gO [Z (.ref 0),k,x2,x3,x4,x5,Z (.ref (X.length+1)),Z (.int (i:Nat)),Z (.int (j:Nat)),Z (.int (v:Nat))] (o::(X ++ .dct kv::H))) Q:=by
 have B:=P.few;have w:∀(o:Ob) (wq:Ob) (ar:Sto),(o::(X++wq::ar))[X.length+1]?=Z wq:=λo wq ar=>by rw[gC1,dF];rfl
 have u:∀(o:Ob) (wq:Ob) (ar:Sto) (h:Nat),(o::(X++wq::ar))[X.length+2+h]?=ar[h]?:=λo wq ar h=>by rw[show X.length+2+h=X.length+(h+1)+1 by lia,gC1,eD];rfl
 have t:(o::(X++Ob.dct kv::H)).length=X.length+2+H.length:=by simp;lia
 have s:(o::(X++Ob.dct kv::H))++[Ob.lst []]=o::(X ++ .dct kv::(H++[.lst []])):=by simp
 have st:∀(wq:Ob) (ar:Sto) (h:Nat) (V:Ob),(o::(X++wq::ar)).set (X.length+2+h) V=o::(X++wq::ar.set h V):=λwq ar h V=>by
  rw[show X.length+2+h=X.length+(h+1)+1 by lia,cy,cW _ _ (by lia),show X.length+(h+1)-X.length=h+1 by lia];rfl
 have g:∀ (a:List (Key×D)) (H1:Sto) (h:Nat) (ys:List (Nat×Nat)) (m:Sto),m=o::(X ++ .dct a::H1)->H1[h]? = some (.lst (ys.map pD))->ys.length<200->PL (X.length+2) (A++[((i,j),v)]) a (H1.set h (.lst (ys.map pD++[pD (i,j)]))) ->
   ∃n xs,D.ref (X.length+2+h) = .ref n/\m[n]?=Z (.lst xs)/\W (dr (dR (dr (mV 7) (dr (mV 8) dt))) dt [Z (.ref 0),k,x2,x3,x4,x5,Z (.ref (X.length+1)),Z (.int (i:Nat)),Z (.int (j:Nat)),Z (.int (v:Nat))] m) λq=>W (b2 gJ (.ref n::q.1) q.2) λp=>W (Z (Fl.nx,[Z (.ref 0),k,x2,x3,x4,x5,Z (.ref (X.length+1)),Z (.int (i:Nat)),Z (.int (j:Nat)),Z (.int (v:Nat))],p.2)) Q:=by
  rintro a H1 h ys m rfl e r y;have b:=u o (.dct a) H1 h;rw[e]at b;refine⟨X.length+2+h,_,O,b,?_⟩;walk_at"w";refine(ji b).mpr ⟨dG (by rw[lM1];lia),?_⟩;have:=q a _ y;rw[<- st]at this;exact this
 unfold gO;unfold eU;rw[dw];refine gX ?_;refine J4 (n:=X.length+1) (v:=v) (kv:=kv) O O ?_ (w _ _ _) (by lia) (λz c=>?_) (λc=>?_)
 ·unfold eP dt;rw[oS1];rfl
 ·by_cases d:ps A v=[]
  ·rw[P.no v d]at c;cases c
  ·obtain⟨h,l,b⟩:=P.yes v d;rw[l]at c;cases c;have r:=(gE1.mp b).1;refine g kv (H++[.lst []]) h (ps A v) _ s (by rw[gL1 r];exact b) ?_ (P.old d l b);unfold ps;rw[lM1];have:=cT (λx=>x.2 == v) A;lia
 ·by_cases d:ps A v=[]
  ·have f:=P.new (p:=(i,j)) d;rw[t];refine g (g6 kv (Sum.inl (v:Int)) (.ref (X.length+2+H.length))) (H++[.lst []]) H.length [] _ ?_ (by rw[gR1 (nR1 _),cB];rfl) (by simp) ?_
   ·rw[s,cy,cW _ _ (nR1 _),cB];rfl
   ·rw[cW _ _ (nR1 _),cB];exact f
  ·obtain⟨h,l,b⟩:=P.yes v d;rw[l]at c;cases c
abbrev dA:=List (List (Nat×Nat))
def webD(w:dA):D:=.tup (w.map λrow=>.tup (row.map pD))
theorem ee(w:dA):(webD w).und 0=M:=by
 unfold webD;rw[D.und];exact eR λa _=>by rw[D.und];exact eR λ_ _=>rfl
def uQ(A:Pl)(i:Nat)(row:List Nat):List (Nat×Nat):=row.zipIdx.map λq=>jw A q.1 (i,q.2)
def kx(R:jp):dA:=R.zipIdx.map λp=>uQ (fb 0 R) p.2 p.1
theorem qi{R:jp}{i:Nat}:(kx R)[i]?=(R[i]?).map (uQ (fb 0 R) i):=by
 unfold kx;rw[gP1,cY];cases R[i]? <;> simp
structure ut (E R:jp):Prop where
 len:R.length=E.length
 row:∀(i:Nat) (r e:List Nat),R[i]?=some r->E[i]?=some e->r.Perm e
theorem ut.snoc{E R:jp}{i:Nat}{r e:List Nat}(h:ut (E.take i) R)(he:E[i]?=Z e)(p:r.Perm e):ut (E.take (i+1)) (R++[r]):=by
 have hi:=(gE1.mp he).1;have a:R.length=i:=by have:=h.len;rw[aR]at this;lia
 refine⟨by rw[lA1,aR,a,aY];lia,λj b c h1 h2=>?_⟩;by_cases d:j<i
 ·rw[gL1 (by lia)]at h1;rw[aT (by lia)]at h2;exact h.row j b c h1 (by rw[aT d];exact h2)
 ·have:=(gE1.mp h1).1;rw[lA1,aY]at this;have e:j=i:=by lia
  subst e;rw[aT (by lia),he]at h2;rw[<- a,cX]at h1;cases h1;cases h2;exact p
theorem lV:∀{E R:jp},ut E R->R.flatten.Perm E.flatten
 |[],[],_=>.refl _
 |[],_::_,h=>by have:=h.len;simp at this
 |_::_,[],h=>by have:=h.len;simp at this
 |e::E,r::R,h=>(h.row 0 r e O O).append (lV ⟨by simpa using h.len,λi a b h1 h2=>h.row (i+1) a b h1 h2⟩)
theorem uR{m k l i j a:Nat}{E R:jp}{row:List Nat}(v:WE m E k l)(sh:ut E R)(hr:R[i]?=Z row)(ha:row[j]?=Z a):(ps (fb 0 R) a).length=2:=by
 rw[FJ,t0,(lV sh).count_eq,v.ct a];have b:a∈R.flatten:=List.mem_flatten.mpr ⟨row,gM1 hr,gM1 ha⟩;have:=List.count_pos_iff.mpr b;rw[(lV sh).count_eq,v.ct a]at this;split at this
 ·rename_i h;rw[ak h]
 ·lia
theorem Es{u j k:Nat}{ks:List Nat}(h:ks[j]?=Z k):(rk u ks)[j]?=Z (.ref (u+2+k)):=by unfold rk;rw[gP1,h];rfl
theorem qx{u:Nat}{ks:List Nat}:(rk u ks).length=ks.length:=by unfold rk;rw[lM1]
theorem wP{S:Sto}{n v:Nat}{F:List (Key×D)}{d:D}{Q:D×Sto->Prop}(h:S[n]?=Z (.dct F))(a:dM F (Sum.inl (v:Int))=Z d)(q:Q (d,S)):W (dD (.ref n) (.int (v:Nat)) S) Q:=by
 refine W.of ?_ q;simp only[dD,m3,h,rv,oS1,a,oP1]
theorem JJ{a:Nat×Nat}{i j:Nat}{S:Sto}:gEq (pD a) (.tup [.int i,.int j]) S=Z (.bl (a == (i,j)),S):=by
 have:=vi (S:=S) (n:=58) (a:=a) (b:=(i,j));show(kG S d4 (pD a) (pD (i,j))).map _=_;unfold d4;rw[this];rfl
inductive DI (E:jp)(U:Sto)(t m n:Nat):Nat->Ev->Sto->Prop
 |mk (i:Nat) (R:jp) (ks:List Nat) (G:Sto) (o':Ob) (x3 x4 x5:Option D) (hi:i<=m) (sh:ut (E.take i) R) (rs:RS R ks G) (ho:Hnd o' (n+4*i)):DI E U t m n i [some (.ref 0),some (.ref (t+m+1)),some (.ref (U.length+1)),x3,x4,x5,none,none,none,none] (o'::(U ++ .lst (rk U.length ks)::G))
inductive DJ (R:jp)(X:Sto)(o':Ob)(a b:Nat)(x3 x4:Option D)(m:Nat):Nat->Ev->Sto->Prop
 |mk (i:Nat) (kv:List (Key×D)) (H:Sto) (x5 x7 x8 x9:Option D) (hi:i<=m) (P:PL (X.length+2) (fb 0 (R.take i)) kv H):DJ R X o' a b x3 x4 m i [some (.ref 0),some (.ref a),some (.ref b),x3,x4,x5,some (.ref (X.length+1)),x7,x8,x9] (o'::(X ++ .dct kv::H))
inductive DK (R:jp)(X:Sto)(o':Ob)(a b:Nat)(x3 x4:Option D)(x5:Nat)(i:Nat)(row:List Nat):Nat->Ev->Sto->Prop
 |mk (j:Nat) (kv:List (Key×D)) (H:Sto) (x8 x9:Option D) (hj:j<=row.length) (P:PL (X.length+2) (fb 0 (R.take i)++hK i (row.take j)) kv H):DK R X o' a b x3 x4 x5 i row j [some (.ref 0),some (.ref a),some (.ref b),x3,x4,some (.ref x5),some (.ref (X.length+1)),some (.int (i:Nat)),x8,x9] (o'::(X ++ .dct kv::H))
theorem Bd{t m n k:Nat}{T U:Sto}{E:jp}{o:Ob}{Q:D×Sto->Prop}(w:WN t m T E U)(v:WE m E k (m-1))(ho:Hnd o n)(hn:n<=2^43)(hm:m<=8)(q:∀R o',ut E R->Hnd o' (n+40)->Q (webD (kx R),o'::U)):W (dy 2 fT [.ref 0,.ref (t+m+1)] (o::U)) Q:=by
 refine uk O O (bA.mpr w.cl) ?_;unfold fT;refine jm ?_;unfold ku;have hlE:=w.el;refine dS (λr S=>S=o::(U ++ .lst (rk U.length [])::[])/\r=[Z (.ref 0),Z (.ref (t+m+1)),Z (.ref (U.length+1)),Y,Y,Y,Y,Y,Y,Y]) ?_ ?_
 ·walk_at"w";exact⟨O,trivial⟩
 rintro r S ⟨rfl,rfl⟩;refine dS (DI E U t m n m) ?_ ?_
 ·have y:∀(o:Ob) (ar:Sto),(o::(U++ar))[t+m+1]?=Z (.lst (j5 (t+1) m)):=λo ar=>by rw[gC1,gL1 (gE1.mp w.ends).1];exact w.ends
  walk_at"w";refine d5 (y _ _) ?_;refine eH (DI E U t m n) _ 0 _ _ (.mk 0 [] [] [] o Y Y Y (bh _) ⟨O,λi r e h=>by simp at h⟩ ⟨O,λj k row h=>by simp at h⟩ ho) ?_ ?_ ?_
  ·rintro i r S ⟨R,ks,G,o',N,V,L,_,_,_,_⟩;exact ff (y _ _)
  ·rintro i d g r S ⟨R,ks,G,o',N,V,L,hi,sh,rs,F⟩;have c:=(gE1.mp g).1;dsimp only at c g;rw[lb]at c;rw[bN]at *
   rw[qy c]at g;cases g;obtain⟨row,b⟩:∃row,E[i]?=some row:=⟨_,gG1 (by lia)⟩;have hks:ks.length=i:=by rw[rs.len,sh.len,aR];lia
   walk_at"w";rw[show t+1+i=t+i+1 by lia];refine Fa (i:=t+i) (w.row i row b) F (by lia) (v.le i row b) (by lia) λo2 rs2 G2 k2 x4' x5' h1 h2 h3=>?_;exact⟨O,.mk _ (R++[rs2]) (ks++[k2]) (G++G2) o2 _ _ _ c (sh.snoc b h2) (rs.app.snoc h3) (h1.more (nR1 _))⟩
  ·intro r S h;rw[lb,bN]at h;exact⟨O,h⟩
 rintro r S ⟨R,ks,G,o',N,V,L,_,sh,rs,F⟩;rw[b8 (Nat.le_of_eq hlE)]at sh;generalize hX:U ++ .lst (rk U.length ks)::G=X;have C:R.length=m:=by rw[sh.len];exact hlE
 have K:∀(i:Nat) (row:List Nat),R[i]?=Z row->row.length<=4:=λi row h=>by
  obtain⟨e,he⟩:∃e,E[i]?=some e:=⟨_,gG1 (by have:=(gE1.mp h).1;lia)⟩;rw[(sh.row i row e h he).length_eq];exact v.le i e he
 have gk:∀(o:Ob) (ar:Sto),(o::(X++ar))[U.length+1]?=Z (.lst (rk U.length ks)):=λo ar=>by
  rw[<- hX,gC1,bF,dF];rfl
 have s:∀(o:Ob) (ar:Sto) (i k:Nat) (row:List Nat),ks[i]?=Z k->R[i]?=Z row->(o::(X++ar))[U.length+2+k]?=Z (.lst (nmD row)):=λo ar i k row h1 h2=>by
  have e:=rs.row i k row h1 h2;rw[<- hX,show U.length+2+k=U.length+(k+1)+1 by lia,gC1,bF,eD,bi,gC1,gL1 (gE1.mp e).1];exact e
 refine dS (λr S=>S=o'::(X ++ .dct []::[])/\r=[Z (.ref 0),Z (.ref (t+m+1)),Z (.ref (U.length+1)),N,V,L,Z (.ref (X.length+1)),Y,Y,Y]) ?_ ?_
 ·((try walk_at"w");repeat(simp only[iu];try walk_at"w"))
 rintro r S ⟨rfl,rfl⟩;have lenA:∀i,i<=m->(fb 0 (R.take i)).length<=4*i:=by
  intro i
  induction i with
  |zero=>intro _;simp[fb]
  |succ i ih=>
   intro hi;obtain⟨row,b⟩:∃row,R[i]?=some row:=⟨_,gG1 (by lia)⟩;rw[me b,lA1];have:=ih (by lia);have:=K i row b;simp[hK];lia
 refine dS (DJ R X o' (t+m+1) (U.length+1) N V m m) ?_ ?_
 ·unfold eZ;rw[dw];refine xf (n:=U.length+1) O (gk _ _) ?_;refine eH (DJ R X o' (t+m+1) (U.length+1) N V m) _ 0 _ _ (.mk 0 [] [] _ _ _ _ (bh _) ⟨λv _=>rfl,λv h=>(h O).elim,λv u h e=>by simp[dM]at e,by simp⟩) ?_ ?_ ?_
  ·rintro i r S ⟨A,H,L,x7,x8,x9,_,_⟩;exact ff (gk _ _)
  ·rintro i d g r S ⟨A,H,L,x7,x8,x9,hi,P⟩;dsimp only at g;rw[fV]at g;obtain⟨z,B,rfl⟩:=oM1.mp g;have c:=(gE1.mp B).1;rw[qx]at c;obtain⟨k2,l⟩:∃k2,ks[i]?=some k2:=⟨_,gG1 c⟩;rw[Es l]at B;cases B;have hil:i<m:=by rw[<- C,<- rs.len];exact c
   obtain⟨row,b⟩:∃row,R[i]?=some row:=⟨_,gG1 (by lia)⟩;rw[bN]at *
   walk_at"w";unfold jd eZ;rw[dw];refine xf (n:=U.length+2+k2) O (s _ _ i k2 row l b) ?_;refine eH (DK R X o' (t+m+1) (U.length+1) N V (U.length+2+k2) i row) _ 0 _ _ (.mk 0 A H _ _ (bh _) (by simpa[hK]using P)) ?_ ?_ ?_
   ·rintro j r S ⟨A,H,x8,x9,_,_⟩;exact ff (s _ _ i k2 row l b)
   ·rintro j d g r S ⟨A,H,x8,x9,hj,P⟩;dsimp only at g;rw[fV]at g;obtain⟨z,B,rfl⟩:=oM1.mp g;rw[nmD,gP1]at B;obtain⟨way,I,rfl⟩:=oM1.mp B;have hjl:=(gE1.mp I).1;rw[bN]at *
    have:=lenA i (by lia);have:=K i row b;walk_at"w";refine CG P (by rw[lA1];simp[hK];lia) λkv' H' P'=>?_;rw[bF,<- zL I]at P';exact⟨O,.mk _ kv' H' _ _ hjl P'⟩
   ·rintro r S ⟨A,H,x8,x9,hj,P⟩;rw[fU,ea,bN,bV]at P;refine⟨O,.mk _ A H _ _ _ _ hil ?_⟩;rw[me b,bN];exact P
  ·intro r S h;rw[fU,qx,rs.len,bN,C]at h;exact⟨O,h⟩
 rintro r S ⟨A,H,L,x7,x8,x9,_,P⟩;rw[b8 (Nat.le_of_eq C)]at P;obtain⟨ar,hY⟩:∃ar,ar=Ob.dct A::H:=⟨_,O⟩;rw[<- hY];have cnt:∀(i j a:Nat) (row:List Nat),R[i]?=Z row->row[j]?=Z a -> ∃p aq h,ps (fb 0 R) a=[p,aq]/\dM A (Sum.inl (a:Int))=Z (.ref (X.length+2+h))/\H[h]?=Z (.lst [pD p,pD aq]):=by
  intro i j a row hr ha;have h2:=uR v sh hr ha;obtain⟨p,aq,e⟩:=y2 h2;obtain⟨h,e1,e2⟩:=P.yes a (by rw[e];simp);rw[e]at e2;exact⟨p,aq,h,e,e1,e2⟩
 have gY:∀(o:Ob) (wq:Sto) (h:Nat) (x:Ob),H[h]?=Z x->(o::(X++(ar++wq)))[X.length+2+h]?=Z x:=λo wq h x e=>by
  rw[hY,show X.length+2+h=X.length+(h+1)+1 by lia,gC1,eD,bi,gC1,gL1 (gE1.mp e).1];exact e
 have gd:∀(o:Ob) (wq:Sto),(o::(X++(ar++wq)))[X.length+1]?=Z (.dct A):=λo wq=>by rw[hY,gC1,dF];rfl
 walk_at"w";refine xf (n:=U.length+1) O (gk _ _) ?_;refine iw (λi ao r S=>∃wq au x1,S=o'::(X++(ar++wq))/\r=[au,x1,Z (.ref (X.length+1))]/\ao=(((kx R).take i).map λrow=>.tup (row.map pD))) _ 0 [] _ _ ⟨[],Y,Y,by rw[aM],O,O⟩ ?_ ?_ ?_
 ·rintro i ao r S ⟨wq,au,x1,rfl,_⟩;exact ff (gk _ _)
 ·rintro i d g ao r S ⟨wq,au,x1,rfl,rfl,rfl⟩;dsimp only at g;rw[fV]at g;obtain⟨z,B,rfl⟩:=oM1.mp g;have c:=(gE1.mp B).1;rw[qx]at c;obtain⟨k2,l⟩:∃k2,ks[i]?=some k2:=⟨_,gG1 c⟩;rw[Es l]at B;cases B;obtain⟨row,b⟩:∃row,R[i]?=some row:=⟨_,gG1 (by rw[<- rs.len];exact c)⟩;rw[bN]at *
  have hl:=K i row b;walk_at"w";refine xf (n:=U.length+2+k2) O (s _ _ i k2 row l b) ?_;dsimp only;rw[nmD,Bc];refine j6 (f:=λp:Nat×Nat=>D.tup [.int p.2,.int p.1]) (λp=>pD (jw (fb 0 R) p.1 (i,p.2))) (λr=>∃au x1,r=[au,x1,Z (.ref (X.length+1)),Z (.int (i:Nat))]) (ff (s _ _ i k2 row l b)) row.zipIdx _ ⟨_,_,O⟩ ?_ ?_
  ·rintro⟨a,j⟩ ha r ⟨y0,y1,rfl⟩;obtain⟨p,aq,h,c1,c2,c3⟩:=cnt i j a row b (xj ha);have c4:=gY o' wq h _ c3;walk_at"w";refine wP (gd _ _) c2 ?_;refine wP (gd _ _) c2 ?_;refine iR (i:=0) (x:=pD p) c4 O ?_
   ((try walk_at"w");repeat(simp only[JJ];try walk_at"w"))
   by_cases hp:p=(i,j)
   ·rw[show(p == (i,j))=M by rw[hp];simp];walk_at"w";refine iR (i:=1) (x:=pD aq) c4 O ?_;refine⟨?_,O,_,_,O⟩;simp[jw,c1,hp]
   ·rw[show(p == (i,j))=J by simp[hp]];walk_at"w";refine iR (i:=0) (x:=pD p) c4 O ?_;refine⟨?_,O,_,_,O⟩;simp[jw,c1,hp]
  ·rintro r' _;walk_at"w";refine⟨dG (by rw[lM1,List.length_zipIdx];lia),?_⟩;refine d5 (xs:=row.zipIdx.map λp=>pD (jw (fb 0 R) p.1 (i,p.2))) (by rw[gC1];simp only[<- lA1,<- bj,<- bF];rw[dF];rfl) ?_;refine⟨wq++[Ob.lst (row.zipIdx.map λp=>pD (jw (fb 0 R) p.1 (i,p.2)))],_,_,O,O,?_⟩;rw[cF,qi,b];simp[uQ,Function.comp_def]
 ·rintro xs r S ⟨wq,au,x1,rfl,rfl,e⟩;dsimp only at e;have hwl:(kx R).length=m:=by unfold kx;simp[C]
  rw[cP,bN,fU,qx,rs.len,b8 (by lia)]at e;subst e;walk_at"w";refine⟨dG (by rw[lM1];lia),?_⟩;refine d5 (xs:=(kx R).map λrow=>.tup (row.map pD)) (by rw[gC1];simp only[<- lA1,<- bj,<- bF];rw[dF];rfl) ?_;refine⟨webD (kx R),o',(.lst (rk U.length ks)::G)++(ar++(wq++[Ob.lst ((kx R).map λrow=>.tup (row.map pD))])),?_,ee _,F.und,q R o' sh (F.more (by lia))⟩;rw[<- hX];simp only[bF];rfl
def At(w:dA)(r d:Nat)(e:Nat×Nat):Prop:=∃row,w[r]?=Z row/\row[d]?=Z e
structure WebJ (m:Nat)(w:dA):Prop where
 len:w.length=m
 le:∀(i:Nat) (row:List (Nat×Nat)),w[i]?=some row->row.length<=4
 to:∀(r d:Nat) (e:Nat×Nat),At w r d e->e.1<m
 jn:∀j,1<=j->j<m -> ∃a d e,a<j/\At w a d e/\e.1=j
structure sr (m:Nat)(w:dA):Prop extends WebJ m w where
 back:∀(r d:Nat) (e:Nat×Nat),At w r d e->At w e.1 e.2 (r,d)/\e≠(r,d)
theorem HC{R:jp}{i j:Nat}{e:Nat×Nat}:At (kx R) i j e ↔ ∃b a,R[i]?=Z b/\b[j]?=Z a/\e=jw (fb 0 R) a (i,j):=by
 unfold At;rw[qi];constructor
 ·rintro⟨b,h1,h2⟩;obtain⟨c,g,rfl⟩:=oM1.mp h1;unfold uQ at h2;rw[gP1,cY]at h2;obtain⟨x,d,rfl⟩:=oM1.mp h2;obtain⟨a,f,rfl⟩:=oM1.mp d;exact⟨c,a,g,f,by simp⟩
 ·rintro⟨b,a,h1,h2,rfl⟩;refine⟨uQ (fb 0 R) i b,by rw[h1];rfl,?_⟩;unfold uQ;rw[gP1,cY,h2];simp
theorem nl{R:jp}{i j a:Nat}:((i,j),a)∈fb 0 R ↔ ∃b,R[i]?=Z b/\b[j]?=Z a:=by
 rw[n6];constructor
 ·rintro⟨d,b,h1,h2,c⟩;rw[bN]at h1;dsimp only at h1;subst h1;exact⟨b,h2,c⟩
 ·rintro⟨b,h2,c⟩;exact⟨i,b,(bN i).symm,h2,c⟩
theorem B2{m k:Nat}{E R:jp}(v:WE m E k (m-1))(sh:ut E R):sr m (kx R):=by
 have t:R.length=m:=by rw[sh.len];exact v.len
 have B:∀(i:Nat) (b:List Nat),R[i]?=Z b -> ∃e,E[i]?=Z e/\b.Perm e:=λi b h=>by
  obtain⟨e,q⟩:∃e,E[i]?=some e:=⟨_,gG1 (by have:=(gE1.mp h).1;rw[v.len];lia)⟩;exact⟨e,q,sh.row i b e h q⟩
 have l:∀(r d:Nat) (e:Nat×Nat),At (kx R) r d e->At (kx R) e.1 e.2 (r,d)/\e≠(r,d)/\e.1<m:=λr d e h=>by
  obtain⟨b,a,h1,h2,rfl⟩:=HC.mp h;obtain⟨H,p2,C,_⟩:=wj rS (uR v sh h1 h2) (nl.mpr ⟨b,h1,h2⟩);generalize jw (fb 0 R) a (r,d)=g at *
  obtain⟨c,o,aq⟩:=(nl (i:=g.1) (j:=g.2)).mp H;refine⟨HC.mpr ⟨c,a,o,aq,C.symm⟩,p2,?_⟩;have:=(gE1.mp o).1;lia
 refine⟨⟨by unfold kx;simp[t],λi b h=>?_,λr d e h=>(l r d e h).2.2,λj h1 h2=>?_⟩,λr d e h=>⟨(l r d e h).1,(l r d e h).2.1⟩⟩
 ·rw[qi]at h;obtain⟨c,o,rfl⟩:=oM1.mp h;obtain⟨e,q,p⟩:=B i c o;unfold uQ;rw[lM1,List.length_zipIdx,p.length_eq];exact v.le i e q
 ·obtain⟨a,I,F,x,au,L,K,ao,N⟩:=v.jn j h1 (by lia);obtain⟨w,f⟩:∃s,R[a]?=some s:=⟨_,gG1 (by lia)⟩;obtain⟨A,n⟩:∃s,R[j]?=some s:=⟨_,gG1 (by lia)⟩;obtain⟨d,y⟩:=bq ((sh.row a w I f L).mem_iff.mpr ao);obtain⟨G,u⟩:=bq ((sh.row j A F n K).mem_iff.mpr N);obtain⟨_,_,_,D⟩:=wj rS (uR v sh f y) (nl.mpr ⟨w,f,y⟩);rcases D (j,G) (nl.mpr ⟨A,n,u⟩)with z|z
  ·injection z with Q P;lia
  ·exact⟨a,d,_,au,HC.mpr ⟨w,x,f,y,O⟩,by rw[<- z]⟩
theorem CF{o:Ob}{n a:Nat}{T:Sto}{Q:D×Sto->Prop}(ho:Hnd o n)(hn:n<=2^40)(au:T.all (Ob.und (T.length+1))=M)(h0:1<=a)(h8:a<=8)(h:∀m w o',0<m->m<=a->sr m w->Hnd o' (n+100)->Q (webD w,o'::T)):W (dy 2 fj [.ref 0,.int a] (o::T)) Q:=by
 refine uk O O au ?_;unfold fj;refine jm ?_;unfold iQ;generalize L:T.length=t;refine dS (λr S=>∃(m:Nat) (s:Ob),0<m/\m<=a/\Hnd s (n+1)/\r=[Z (.ref 0),Z (.int a),Z (.int m),Z (.int ((0:Nat):Int)),Y,Y,Y,Y,Y,Y]/\S=s::T) ?_ ?_
 ·walk_at"w";refine gi ho (by lia) (by lia) (by lia) λc s u hc=>?_;walk_at"w";exact⟨c+1,s,by lia,by lia,u,by simp[Int.add_comm],O⟩
 rintro r S ⟨m,s,B,hm,u,rfl,rfl⟩;refine dS (λr S=>∃U,WN t m T (aP m []) U/\r=[Z (.ref 0),Z (.int a),Z (.int m),Z (.int ((0:Nat):Int)),Z (.ref (t+m+1)),Y,Y,Y,Y,Y]/\S=s::U) ?_ ?_
 ·walk_at"w";refine⟨fX (by lia),?_⟩;rw[Int.toNat_natCast];refine iw (λi A r S=>A=j5 (t+1) i/\S=s::(T++aP i (.lst [])) /\ ∃x,r=[x]) (gH 0 m) 0 [] _ _ ⟨O,by simp,_,O⟩ (λ_ _ _ _ _=>rfl) ?_ ?_
  ·rintro i d z A r S ⟨rfl,rfl,x,rfl⟩;walk_at"w";rw[bN];refine⟨?_,?_,_,O⟩
   ·rw[pu,L,lR1]
    congr 3
    lia
   ·rw[List.replicate_succ']
  ·rintro xs r S ⟨e,rfl,_⟩;rw[cP,bN,eT]at e;subst e;rw[bN,eT];walk_at"w";rw[lb];refine⟨dG (by lia),_,yL L au,?_,O⟩;simp[L]
 rintro r S ⟨U0,ar,rfl,rfl⟩;refine dS (λr S=>∃E k f U g x6 l,WN t m T E U/\WE m E k (m-1)/\Hnd f (n+20)/\r=[Z (.ref 0),Z (.int a),Z (.int m),Z (.int (k:Nat)),Z (.ref (t+m+1)),g,x6,l,Y,Y]/\S=f::U) ?_ ?_
 ·walk_at"w";refine⟨sj (by decide) (by decide),fX (by lia),?_⟩;refine eH (λi r S=>i<=m-1 /\ ∃E f U g x6 l,WN t m T E U/\WE m E i i/\(∀j y,i+1<=j->E[j]?=Z y->y=[])/\Hnd f (n+1+i)/\r=[Z (.ref 0),Z (.int a),Z (.int m),Z (.int (i:Nat)),Z (.ref (t+m+1)),g,x6,l,Y,Y]/\S=f::U) _ 0 _ _ ?_ (λ_ _ _ _=>rfl) ?_ ?_
  ·refine⟨by lia,_,s,U0,Y,Y,Y,ar,yP m,λj y _ C=>?_,u,O,O⟩;rw[aS]at C;split at C
   ·cases C;rfl
   ·cases C
  ·rintro i d z r S ⟨hi,E,f,U,g,x6,l,w,v,P,b,rfl,rfl⟩;have p:=(gE1.mp z).1;rw [eT] at p;have H:d = .int ((i+1:Nat):Int):=by
    rw[nf,gP1,cj p]at z;simp at z;rw[<- z]
    push_cast
    congr 1
    lia
   subst H;rw[bN]at *
   walk_at"w";refine Fe w v b (by lia) (by lia) (by lia) P λao o' I V N aq F q K=>?_;exact⟨O,by lia,ao,o',I,_,_,_,aq,F,K,q.more (by lia),O,O⟩
  ·rintro r S ⟨hi,E,f,U,g,x6,l,w,v,P,b,rfl,rfl⟩;rw[eT,bN]at *
   have e:((m:Int)-1).toNat=m-1:=by lia
   rw[e]at v b ⊢;exact⟨O,E,m-1,f,U,g,x6,l,w,v,b.more (by lia),O,O⟩
 rintro r S ⟨E,k,f,U,g,x6,l,w,v,b,rfl,rfl⟩;refine dS (λr S=>∃E k f U g x6 l x8 x9,WN t m T E U/\WE m E k (m-1)/\Hnd f (n+50)/\r=[Z (.ref 0),Z (.int a),Z (.int m),Z (.int (k:Nat)),Z (.ref (t+m+1)),g,x6,l,x8,x9]/\S=f::U) ?_ ?_
 ·walk_at"w";refine gi b (by lia) (by lia) (by lia) λc o3 G hc=>?_;walk_at"w";refine⟨fX (by lia),?_⟩;rw[Int.toNat_natCast];refine eH (λi r S=>i<=c /\ ∃E k f U g x6 l x8 x9,WN t m T E U/\WE m E k (m-1)/\Hnd f (n+21+2*i)/\r=[Z (.ref 0),Z (.int a),Z (.int m),Z (.int (k:Nat)),Z (.ref (t+m+1)),g,x6,l,x8,x9]/\S=f::U) _ 0 _ _ ⟨by lia,E,k,o3,U,g,x6,l,Y,Y,w,v,G,O,O⟩ (λ_ _ _ _=>rfl) ?_ ?_
  ·rintro i d z r S ⟨hi,E,k,f,U,g,x6,l,x8,x9,w,v,b,rfl,rfl⟩;have p:=(gE1.mp z).1;rw[eT]at p;rw[bN]at *
   walk_at"w";refine Gw w v b (by lia) B (by lia) λao wq o' I N X aq F q=>?_;exact⟨O,by lia,ao,wq,o',I,_,_,_,_,_,aq,F,q.more (by lia),O,O⟩
  ·rintro r S ⟨hi,E,k,f,U,g,x6,l,x8,x9,w,v,b,rfl,rfl⟩;rw[eT,bN]at b;exact⟨O,E,k,f,U,_,_,_,_,_,w,v,b.more (by lia),O,O⟩
 rintro r S ⟨E,k,f,U,g,x6,l,x8,x9,w,v,b,rfl,rfl⟩;walk_at"w";refine Bd w v b (by lia) (by lia) λR o' sh q=>?_;exact⟨webD (kx R),o',U.drop t,by rw[<- w.split],ee _,q.und,h m _ o' B hm (B2 v sh) (q.more (by lia))⟩
theorem EY{m:FA}{r:Ev}{S S1:Sto}{k:Nat}{Q:D×Sto->Prop}(h:m r S=Z ([.int k],S1))(hk:k<=1000)(q:Q (.ref S1.length,S1++[.lst (gH 0 k)])):W (xS m r S) Q:=by
 refine W.of ?_ q;unfold xS;rw[h,oS1];dsimp only;have:my 0 (k:Int)=M:=by
  unfold my;simp only[bA1,am];lia
 rw[ak this,Int.toNat_natCast]
theorem CS{o:Ob}{n a:Nat}{T:Sto}{Q:D×Sto->Prop}(ho:Hnd o n)(hn:n<=2^42)(hc:a<=8)(q:∀p o',p.Perm (af a)->Hnd o' (n+a)->Q (.ref (T.length+2),o'::(T++[.lst [],.lst (nmD p)]))):W (dy 2 fL [.ref 0,.int a] (o::T)) Q:=by
 refine oJ O O ?_;unfold fL;refine jm ?_;unfold lI;have l:∀(o:Ob) (X:Ob) (ar:Sto),(o::(T++X::ar))[T.length+1]?=Z X:=λo X ar=>by rw[gC1,dF];rfl
 refine dS (λr S=>S=o::(T++[.lst (nmD (af a))])/\r=[Z (.ref 0),Z (.int a),Z (.ref (T.length+1))]) ?_ ?_
 ·unfold dL;rw[dw];refine EY (k:=a) (S1:=o::T) O (by lia) ?_;rw[lj];walk_at"w";exact⟨O,trivial⟩
 rintro r S ⟨rfl,rfl⟩;walk_at"w";refine⟨fX (by lia),?_⟩;rw[Int.toNat_natCast];refine iw (λi h r S=>∃o' rs c x,i<=a/\(rs++c).Perm (af a)/\rs.length=i/\h=nmD rs/\Hnd o' (n+i)/\S=o'::(T++[.lst (nmD c)])/\r=[x,Z (.ref (T.length+1)),Z (.ref 0)]) (gH 0 a) 0 [] _ _ ⟨o,[],af a,_,by lia,.refl _,O,O,ho,O,O⟩ (λ_ _ _ _ _=>rfl) ?_ ?_
 ·rintro i d s h r S ⟨o',rs,c,x,hi,g,t,rfl,f,rfl,rfl⟩;have m:=(gE1.mp s).1;rw[eT]at m;have b:=g.length_eq;rw[lA1,cu]at b;rw[bN]at *
  walk_at"w";refine gX ?_;walk_at"w";refine⟨T.length+1,nmD c,O,l _ _ _,?_⟩;refine d5 (l _ _ _) ?_;walk_at"w";rw[ea];refine gi f (by lia) (by lia) (by lia) λd v j s=>?_;obtain⟨y,u⟩:∃y,c[d]?=some y:=⟨_,gG1 (by lia)⟩;walk_at"w";refine BE (l _ _ _) (Ah u) (by lia) ?_;refine⟨v,rs++[y],c.eraseIdx d,_,by lia,sU g u,by rw[lA1,t];rfl,ll,j.more (by lia),?_,O⟩;rw[cy,cW _ _ (nR1 _),cB,tF];rfl
 ·rintro xs r S ⟨o',rs,c,x,hi,g,t,e,f,rfl,rfl⟩;rw[eT,bN]at *
  rw[cP]at e;subst e;have b:=g.length_eq;rw[lA1,cu]at b;have:c=[]:=List.eq_nil_of_length_eq_zero (by lia);subst this;rw[aM]at g;walk_at"w";refine⟨dG (by rw[ea];lia),?_⟩;unfold gc;rw[aj (by simp[D.und])];exact q rs o' g f
def uy(r k d:Nat):TK:=.tup [.int r,.int k,.int d]
def uP(r k d:Nat):D:=.tup [.int r,.int k,.int d]
theorem G7{r k d:Nat}:iM (uP r k d)=Z (uy r k d):=rfl
theorem B6{r k d a k' d':Nat}(h:uy r k d=uy a k' d'):r=a/\k=k'/\d=d':=by
 simp[uy]at h;lia
def mT(w:dA)(cp:Nat)(F:List (TK×D))(r k d:Nat):Prop:=∃e k',At w r d e/\k'<cp/\dM F (uy r k d)=Z (uP e.1 k' e.2)
theorem mT.put{w:dA}{e r k d b c a k1:Nat}{e0:Nat×Nat}{F:List (TK×D)}(ha:At w b a e0)(hk:k1<e)(h:mT w e F r k d\/(r=b/\k=c/\d=a)):mT w e (g6 F (uy b c a) (uP e0.1 k1 e0.2)) r k d:=by
 unfold mT;rw[jB];by_cases z:uy r k d=uy b c a
 ·obtain⟨rfl,rfl,rfl⟩:=B6 z;exact⟨e0,k1,ha,hk,ak O⟩
 ·rw[aj z];rcases h with h|⟨rfl,rfl,rfl⟩
  ·exact h
  ·exact(z O).elim
theorem J3{m:FA}{r:Ev}{S:Sto}{Q:yx×Sto->Prop}(h:W (m r S) λp=>∃n xs,p.1=[.ref n]/\p.2[n]?=Z (.lst xs)/\Q (⟨sC 0 xs,[(n,xs)]⟩,p.2)):W (om m r S) Q:=by
 obtain⟨⟨a,b⟩,e,n,xs,h1,h2,q⟩:=h;dsimp only at h1 h2 q;subst h1;refine W.of (x:=(⟨sC 0 xs,[(n,xs)]⟩,b)) ?_ q;simp only[om,e,oS1,gj h2,r0 h2]
theorem Cb{T G:Sto}{o:Ob}{n cp r d:Nat}{w:dA}{e:Nat×Nat}{F:List (TK×D)}{z x5 x9 x10 x11 x12 x13 l:Option D}{Q:Fl×Ev×Sto->Prop}(ho:Hnd o n)(hn:n<=2^42)(hc:cp<=4)(ha:At w r d e)(hb:At w e.1 e.2 (r,d))(hF:F.length<900)(q:∀f X o' ao s,Hnd o' (n+4)->(∀a k b,mT w cp F a k b->mT w cp f a k b)->(∀k,k<cp->mT w cp f r k d/\mT w cp f e.1 k e.2)->f.length<=F.length+8 ->
   Q (.nx,[Z (.ref 0),z,Z (.int cp),Z (.ref (T.length+1)),Z (.int r),x5,Z (.int d),Z (.int e.1),Z (.int e.2),ao,s,x11,x12,x13,l],o'::(T++dO f::X))):
  W (eZ (om (dr (mN (dy 2 fL) (dr (mV 0) (dr (mV 2) dt))) dt)) (gT 2 (fB (gN 9) (fB (gN 10) jl))) hW [Z (.ref 0),z,Z (.int cp),Z (.ref (T.length+1)),Z (.int r),x5,Z (.int d),Z (.int e.1),Z (.int e.2),x9,x10,x11,x12,x13,l] (o::(T++dO F::G))) Q:=by
 unfold eZ;rw[dw];refine J3 ?_;simp(implicitDefEqProofs:=J) only[dr,mN,mV,cN,gC1,dt,oS1,dw,dB];refine CS ho hn (by lia) λg o' E I=>?_;have t:=E.length_eq;rw[cu]at t;have K:∀c x:Nat,g[c]?=Z x->x<cp:=λc x h=>aB.mp (E.mem_iff.mp (gM1 h));walk_at"w";have eS:o'::(T++dO F::(G++[Ob.lst [],Ob.lst (nmD g)]))=o'::((T++dO F::G)++[Ob.lst [],Ob.lst (nmD g)]):=by simp
 have B:∀(f:List (TK×D)),(o'::(T++dO f::(G++[Ob.lst [],Ob.lst (nmD g)])))[T.length+(G.length+1)+2]?=Z (.lst (nmD g)):=λf=>by
  rw[show T.length+(G.length+1)+2=T.length+(G.length+1+1)+1 by lia,gC1,eD,gC1,eD];rfl
 refine⟨T.length+(G.length+1)+2,nmD g,by first|rfl|(congr 3;lia),by first|exact B F|(rw[<- B F];congr 1;lia),?_⟩;have au:∀(wq:Ob) (ar:Sto),(o'::(T++wq::ar))[T.length+1]?=Z wq:=λwq ar=>by rw[gC1,dF];rfl
 have aq:∀(wq V:Ob) (ar:Sto),(o'::(T++wq::ar)).set (T.length+1) V=o'::(T++V::ar):=λwq V ar=>by
  rw[cy,cW _ _ (nR1 _),cB];rfl
 refine eH (λi m S=>∃f u j,i<=cp/\(∀a k b,mT w cp F a k b->mT w cp f a k b)/\(∀c,c<i->mT w cp f r c d)/\(∀c x:Nat,c<i->g[c]?=Z x->mT w cp f e.1 x e.2)/\f.length<=F.length+2*i/\S=o'::(T++dO f::(G++[Ob.lst [],Ob.lst (nmD g)]))/\m=[Z (.ref 0),z,Z (.int cp),Z (.ref (T.length+1)),Z (.int r),x5,Z (.int d),Z (.int e.1),Z (.int e.2),u,j,x11,x12,x13,l]) _ 0 _ _ ⟨F,_,_,by lia,λ_ _ _ h=>h,λc h=>by lia,λc x h=>by lia,by lia,O,O⟩ ?_ ?_ ?_
 ·rintro i m S ⟨f,u,j,_,_,_,_,_,rfl,_⟩;exact ff (B f)
 ·rintro i dd N m S ⟨f,u,j,hi,mono,A,L,R,rfl,rfl⟩;rw[fV,nmD,gP1,Option.map_map]at N;obtain⟨x,H,rfl⟩:=oM1.mp N;have P:=(gE1.mp H).1;have p:=K i x H;rw[bN]at *
  unfold Function.comp;walk_at"w";unfold hW;refine dS (λm S=>S=o'::(T++dO (g6 f (uy r i d) (uP e.1 x e.2))::(G++[Ob.lst [],Ob.lst (nmD g)]))/\m=[Z (.ref 0),z,Z (.int cp),Z (.ref (T.length+1)),Z (.int r),x5,Z (.int d),Z (.int e.1),Z (.int e.2),Z (.int (i:Nat)),Z (.int (x:Nat)),x11,x12,x13,l]) ?_ ?_
  ·walk_at"w";refine vB (key:=uP r i d) (v:=uP e.1 x e.2) (F:=f) (au _ _) G7 (by lia) ?_;walk_at"w";exact⟨aq _ _ _,trivial⟩
  rintro m S ⟨rfl,rfl⟩;have pl:=qB (k:=uy r i d) (v:=uP e.1 x e.2) (a:=f);have U:=qB (k:=uy e.1 x e.2) (v:=uP r i d) (a:=g6 f (uy r i d) (uP e.1 x e.2));walk_at"w";refine vB (key:=uP e.1 x e.2) (v:=uP r i d) (F:=g6 f (uy r i d) (uP e.1 x e.2)) (au _ _) G7 (by lia) ?_;refine⟨_,_,_,by lia,λa k b h=>?_,λc h=>?_,λc y h C=>?_,by lia,aq _ _ _,O⟩
  ·exact mT.put (e0:=(r,d)) (k1:=i) hb (by lia) (.inl (mT.put ha p (.inl (mono a k b h))))
  ·refine mT.put (e0:=(r,d)) (k1:=i) hb (by lia) (.inl (mT.put ha p ?_));rcases cZ.mp h with h|rfl
   ·exact .inl (A c h)
   ·exact .inr ⟨O,O,O⟩
  ·refine mT.put (e0:=(r,d)) (k1:=i) hb (by lia) ?_;rcases cZ.mp h with h|rfl
   ·exact .inl (mT.put ha p (.inl (L c y h C)))
   ·rw[H]at C;cases C;exact .inr ⟨O,O,O⟩
 ·rintro m S ⟨f,u,j,hi,mono,A,L,R,rfl,rfl⟩;rw[fU,ea,bN]at *
  refine q f _ o' _ _ (I.more (by lia)) mono (λk hk=>⟨A k (by lia),?_⟩) (by lia);obtain⟨c,hc⟩:=bq (E.mem_iff.mpr (aB.mpr hk));exact L c k (gE1.mp hc).1 hc
def AS(a b:Nat×Nat):Bool:=decide (a.1<b.1)||(decide (a.1=b.1)&&decide (a.2<b.2))
theorem He{a b:Nat×Nat}{S:Sto}:gLt (pD a) (pD b) S=Z (.bl (AS a b),S):=by
 have d:∀(n x y:Nat),kG S (n+1) (.int x) (.int y)=Z (decide (x=y)):=λn x y=>by
  show Z ((x:Int) == (y:Int))=_
  congr 1
  rw[bP,beq_iff_eq,am];lia
 have c:∀(n x y:Nat),EC S (n+1) (.int x) (.int y)=Z (decide (x<y)):=λn x y=>by
  show Z (decide ((x:Int)<(y:Int)))=_
  congr 1
  rw[bP,am,am];lia
 unfold gLt d4;rw[show(60:Nat)=58+1+1 from rfl,EC];simp only[pD,K3,dP,if_true,Jq,d,c,oS1];unfold AS;by_cases h1:a.1=b.1
 ·by_cases h2:a.2=b.2
  ·simp[h1,h2]
  ·simp[h1,h2]
 ·simp[h1]
theorem Dp{a b:Nat×Nat}(h:AS a b=J)(c:b≠a):AS b a=M:=by
 unfold AS at *
 obtain⟨a1,a2⟩:=a;obtain⟨b1,b2⟩:=b;simp at *
 lia
theorem few:∀{N:Nat} {l:List Nat},l.Nodup->(∀x∈l,x<N)->l.length<=N
 |0,l,_,h=>by
  cases l with
  |nil=>simp
  |cons a l=>have:=h a mS1;lia
 |N+1,l,n,h=>by
  by_cases d:N∈l
  ·have h1:=few (N:=N) (l:=l.erase N) (n.erase N) fun x c=>by
    have b:=(List.Nodup.mem_erase_iff n).mp c;have:=h x b.2;have:=b.1;lia
   have:=List.length_erase_of_mem d;lia
  ·have:=few (N:=N) (l:=l) n fun x c=>by
    have h1:=h x c;have:x≠N:=λz=>d (z ▸ c);lia
   lia
theorem Lb{A B:Nat}{l:List (Nat×Nat)}(n:l.Nodup)(h:∀x∈l,x.1<A/\x.2<B):l.length<=A*B:=by
 have h1:=few (N:=A*B) (l:=l.map λx=>x.1*B+x.2) ?_ ?_
 ·simpa using h1
 ·rw[List.nodup_iff_pairwise_ne,List.pairwise_map];refine List.Pairwise.imp_of_mem ?_ n;intro x y a g b e;apply b;have h1:=h x a;have h2:=h y g;have ex:x.1=(x.1*B+x.2)/B:=by rw[Nat.mul_comm,Nat.mul_add_div (by lia),Nat.div_eq_of_lt h1.2,Nat.add_zero]
  have f:y.1=(y.1*B+y.2)/B:=by rw[Nat.mul_comm,Nat.mul_add_div (by lia),Nat.div_eq_of_lt h2.2,Nat.add_zero]
  have c:x.1=y.1:=by rw[ex,f,e]
  rw[c]at e;exact Prod.ext c (by lia)
 ·intro z d;obtain⟨x,a,rfl⟩:=cc.mp d;have h1:=h x a;have:(x.1+1)*B<=A*B:=Nat.mul_le_mul_right B h1.1;rw[Nat.add_mul]at this;lia
theorem yd{α:Type}[BEq α][LawfulBEq α]{l:List α}{x:α}(h:x∈l):∃j,l.findIdx? (· == x)=Z j/\l[j]?=Z x:=by
 cases e:l.findIdx? (· == x)with
 |none=>
  rw[List.findIdx?_eq_none_iff]at e;have:=e x h;simp at this
 |some j=>
  obtain⟨a,h1,_⟩:=b4.mp e;exact⟨j,O,by rw[gG1 a];simp at h1;rw[h1]⟩
theorem AW{S:Sto}{n:Nat}{x:Nat×Nat}:∀a:List (Nat×Nat),BQ (kG S (n+2)) (pD x) (a.map pD)=Z (a.contains x)
 |[]=>rfl
 |y::a=>by
  rw[mP1,BQ,vi,AW a,b7,show(y == x)=(x == y)from Bool.beq_comm];rfl
theorem Ec{S:Sto}{n:Nat}{row:List (Nat×Nat)}{x:Nat×Nat}{Q:D×Sto->Prop}(h:S[n]?=Z (.lst (row.map pD)))(q:Q (.bl (!row.contains x),S)):W (fA (pD x) (.ref n) S) Q:=by
 refine W.of ?_ q;simp only[fA,h,i3,ma,gj h,oS1,d4,show(60:Nat)=58+2 from rfl,AW,oP1]
theorem EV{m:FE}{lo hi:FO}{r:Ev}{S:Sto}{xs:List D}{a b:Option Int}{Q:D×Sto->Prop}(hm:m r S=Z (.tup xs,S))(d:lo r S=Z (a,S))(c:hi r S=Z (b,S))(q:Q (.tup (Mi.iO xs a b),S)):W (kC m lo hi r S) Q:=by
 refine W.of ?_ q;unfold kC;rw[hm,oS1];dsimp only;rw[d,oS1];dsimp only;rw[c,oS1];simp only[zt,jU,oP1,bF1,if_false]
def LA(w:dA)(cp i j:Nat)(F:List (TK×D)):Prop:=∀r d e,At w r d e->AS (r,d) e=M->(r<i\/(r=i/\d<j)) -> ∀k,k<cp->mT w cp F r k d/\mT w cp F e.1 k e.2
inductive AI (w:dA)(cp m n:Nat)(T:Sto):Nat->Ev->Sto->Prop
 |mk (i:Nat) (F:List (TK×D)) (G:Sto) (o':Ob) (x4 x5 x6 x7 x8 x9 x10:Option D) (hi:i<=m) (don:LA w cp i 0 F) (hF:F.length<=32*i) (ho:Hnd o' (n+16*i)):AI w cp m n T i [some (.ref 0),some (webD w),some (.int cp),some (.ref (T.length+1)),x4,x5,x6,x7,x8,x9,x10,none,none,none,none] (o'::(T++dO F::G))
inductive AJ (w:dA)(cp n:Nat)(T:Sto)(i:Nat)(row:List (Nat×Nat)):Nat->Ev->Sto->Prop
 |mk (j:Nat) (F:List (TK×D)) (G:Sto) (o':Ob) (x6 x7 x8 x9 x10:Option D) (hj:j<=row.length) (don:LA w cp i j F) (hF:F.length<=32*i+8*j) (ho:Hnd o' (n+16*i+4*j)):AJ w cp n T i row j [some (.ref 0),some (webD w),some (.int cp),some (.ref (T.length+1)),some (.int (i:Nat)),some (.tup (row.map pD)),x6,x7,x8,x9,x10,none,none,none,none] (o'::(T++dO F::G))
theorem vx{T:Sto}{o:Ob}{n m p:Nat}{w:dA}{Q:Fl×Ev×Sto->Prop}(hw:sr m w)(hm:m<=8)(hc:p<=4)(ho:Hnd o n)(hn:n<=2^41)(q:∀F G o' K ao x6 v x8 x9 x10,Hnd o' (n+128)->(∀r d e k,At w r d e->k<p->mT w p F r k d) ->
   Q (.nx,[Z (.ref 0),Z (webD w),Z (.int p),Z (.ref (T.length+1)),K,ao,x6,v,x8,x9,x10,Y,Y,Y,Y],o'::(T++dO F::G))):
  W (eZ (om (dr (mV 1) dt)) (gT 2 (fB (gN 4) (fB (gN 5) jl))) hU [Z (.ref 0),Z (webD w),Z (.int p),Z (.ref (T.length+1)),Y,Y,Y,Y,Y,Y,Y,Y,Y,Y,Y] (o::(T++dO []::[]))) Q:=by
 unfold eZ;rw[dw];refine oS (xs:=w.map λl=>.tup (l.map pD)) O ?_;refine eH (AI w p m n T) _ 0 _ _ (.mk 0 [] [] o _ _ _ _ _ _ _ (bh _) (λr d e h1 h2 H=>by lia) (by simp) ho) (λ_ _ _ _=>rfl) ?_ ?_
 ·rintro i dd A r S ⟨F,G,o',K,ao,x6,v,x8,x9,x10,hi,g,L,f⟩;rw[fV,gP1,Option.map_map]at A;obtain⟨l,c,rfl⟩:=oM1.mp A;have t:=(gE1.mp c).1;rw[hw.len]at t;have V:=hw.le i l c;rw[bN]at *
  unfold Function.comp;walk_at"w";unfold hU eZ;rw[dw];refine oS (xs:=l.map pD) O ?_;refine eH (AJ w p n T i l) _ 0 _ _ (.mk 0 F G o' _ _ _ _ _ (bh _) g (by lia) (f.more (by lia))) (λ_ _ _ _=>rfl) ?_ ?_
  ·rintro j dd A r S ⟨F,G,o',x6,v,x8,x9,x10,U,g,L,f⟩;rw[fV,gP1,Option.map_map]at A;obtain⟨e,aq,rfl⟩:=oM1.mp A;have B:=(gE1.mp aq).1;have N:At w i j e:=⟨l,c,aq⟩;have y:=hw.back i j e N;rw[bN]at *
   unfold Function.comp pD;walk_at"w";unfold jz;have el:∀S,gLt (D.tup [D.int (i:Int),D.int (j:Int)]) (D.tup [D.int (e.1:Int),D.int (e.2:Int)]) S=Z (.bl (AS (i,j) e),S):=λS=>He (a:=(i,j)) (b:=e);unfold eJ;rw[dw];refine W.of (x:=(AS (i,j) e,o'::(T++dO F::G))) ?_ ?_
   ·simp only[mB,m2,dR,dr,dt,mV,gC1,cN,cR,oP1,oS1,lC1,bb,b2,el,cQ,ak (show 2<=di by decide)]
   dsimp only;have up:∀F',(∀a k b,mT w p F a k b->mT w p F' a k b)->(AS (i,j) e=M -> ∀k,k<p->mT w p F' i k j/\mT w p F' e.1 k e.2)->LA w p i (j+1) F':=λF' mono new r d wq h1 h2 H k E=>by
    by_cases P:r=i/\d=j
    ·obtain⟨rfl,rfl⟩:=P;obtain⟨C,s,I⟩:=h1;rw[c]at s;cases s;rw[aq]at I;cases I;exact new h2 k E
    ·have:=g r d wq h1 h2 (by lia) k E;exact⟨mono _ _ _ this.1,mono _ _ _ this.2⟩
   cases hl:AS (i,j) e with
   |false=>
    rw[aj (by decide)];exact dB.mpr ⟨O,.mk _ F G o' _ _ _ _ _ B (up F (λ_ _ _ h=>h) (λz=>by rw[hl]at z;cases z)) (by lia) (f.more (by lia))⟩
   |true=>
    rw[ak O];refine Cb (w:=w) f (by lia) hc N y.1 (by lia) λF' ar R X au h1 h2 H h4=>?_;exact⟨O,.mk _ F' ar R _ _ _ _ _ B (up F' h2 (λ_=>H)) (by lia) (h1.more (by lia))⟩
  ·rintro r S ⟨F,G,o',x6,v,x8,x9,x10,U,g,L,f⟩;rw[fU,lM1,bN]at *
   refine⟨O,.mk _ F G o' _ _ _ _ _ _ _ t (λr d e h1 h2 H=>g r d e h1 h2 ?_) (by lia) (f.more (by lia))⟩;rcases(show r<i\/r=i by lia)with h|rfl
   ·exact .inl h
   ·obtain⟨C,s,I⟩:=h1;rw[c]at s;cases s;exact .inr ⟨O,(gE1.mp I).1⟩
 ·rintro r S ⟨F,G,o',K,ao,x6,v,x8,x9,x10,hi,g,L,f⟩;rw[fU,lM1,bN,hw.len]at *
  refine q F G o' _ _ _ _ _ _ _ (f.more (by lia)) λr d e k h E=>?_;have u:∀r d e,At w r d e->r<m:=λr d e h=>by
   obtain⟨l,s,_⟩:=h;rw[<- hw.len];exact(gE1.mp s).1
  have y:=hw.back r d e h;cases hl:AS (r,d) e with
  |true=>exact(g r d e h hl (.inl (u r d e h)) k E).1
  |false=>exact(g e.1 e.2 (r,d) y.1 (Dp hl y.2) (.inl (u _ _ _ y.1)) k E).2
def ij(F:List (TK×D))(x:Nat×Nat)(d:Nat):(Nat×Nat)×Nat:=match dM F (uy x.1 x.2 d)with
 |some (.tup [.int a,.int b,.int c])=>((a.toNat,b.toNat),c.toNat)
 |_=>((0,0),0)
def oT(w:dA)(r:Nat):Nat:=(w.getD r []).length
def C1(p:(Nat×Nat)×Nat):D:=uP p.1.1 p.1.2 p.2
structure MI (m cp:Nat)(met:List (Nat×Nat)):Prop where
 nd:met.Nodup
 inn:∀x∈met,x.1<m/\x.2<cp
theorem MI.few{m a:Nat}{met:List (Nat×Nat)}(i:MI m a met)(h:m*a<=8):met.length<=8:=aC (Lb i.nd i.inn) h
def All(w:dA)(cp:Nat)(F:List (TK×D)):Prop:=∀r d e k,At w r d e->k<cp->mT w cp F r k d
theorem Af{w:dA}{m cp d:Nat}{F:List (TK×D)}{x:Nat×Nat}(hw:sr m w)(all:All w cp F)(hx:x.1<m/\x.2<cp)(hd:d<oT w x.1):
  dM F (uy x.1 x.2 d)=Z (C1 (ij F x d))/\(ij F x d).1.1<m/\(ij F x d).1.2<cp:=by
 obtain⟨row,a⟩:∃row,w[x.1]?=some row:=⟨_,gG1 (by rw[hw.len];exact hx.1)⟩;have b:d<row.length:=by
  unfold oT at hd;rw[bI,a,b5]at hd;exact hd
 obtain⟨e,f,h1,h2,c⟩:=all x.1 d row[d] x.2 ⟨row,a,gG1 b⟩ hx.2;have g:ij F x d=((e.1,f),e.2):=by
  unfold ij;rw[c];simp[uP]
 rw[g];exact⟨c,hw.to x.1 d e h1,h2⟩
def Cl(w:dA)(F:List (TK×D))(met:List (Nat×Nat))(i j:Nat):Prop:=∀a d x,met[a]?=Z x->d<oT w x.1->(a<i\/(a=i/\d<j))->(ij F x d).1∈met
def Jn(w:dA)(F:List (TK×D))(met:List (Nat×Nat)):Prop:=∀b y,1<=b->met[b]?=Z y -> ∃a d x,a<b/\met[a]?=Z x/\d<oT w x.1/\(ij F x d).1=y
theorem Jn.snoc{w:dA}{F:List (TK×D)}{met:List (Nat×Nat)}{a d:Nat}{x:Nat×Nat}(j:Jn w F met)(ha:met[a]?=Z x)(hd:d<oT w x.1):Jn w F (met++[(ij F x d).1]):=by
 have c:=(gE1.mp ha).1;intro b y o f;by_cases g:b<met.length
 ·rw[gL1 g]at f;obtain⟨l,m,h,p,i,n,k⟩:=j b y o f;exact⟨l,m,h,p,by rw[gL1 (by lia)];exact i,n,k⟩
 ·have:=(gE1.mp f).1;rw[lA1,aY]at this;have e:b=met.length:=by lia
  subst e;rw[cX]at f;cases f;exact⟨a,d,x,c,by rw[gL1 c];exact ha,hd,O⟩
theorem JE{S:Sto}{n:Nat}{F:List (TK×D)}{x:Nat×Nat}{d:Nat}(h:S[n]?=Z (dO F))(a:dM F (uy x.1 x.2 d)=Z (C1 (ij F x d))):dD (.ref n) (uP x.1 x.2 d) S=Z (C1 (ij F x d),S):=by
 obtain⟨p,e,rfl⟩:=BG (Q:=λp=>p=(C1 (ij F x d),S)) h G7 a O;exact e
theorem JW{f:FN}{a b:FE}{r:Ev}{S:Sto}{Q:D×Sto->Prop}(h:W (a r S) λp=>W (b r p.2) λq=>W (f [p.1,q.1] q.2) Q):W (m2 f a b r S) Q:=by
 unfold m2;rw[dw];exact h.mono λp c=>by rw[dw];exact c
theorem Lg{p:(Nat×Nat)×Nat}:D.tup (Mi.iO [.int p.1.1,.int p.1.2,.int p.2] Y (Z 2))=pD p.1:=rfl
theorem Jc{V:Sto}{o:Ob}{n m s:Nat}{w:dA}{F:List (TK×D)}{x4 x5 x6 ao x8 x9 x10 x13 t:Option D}{Q:Fl×Ev×Sto->Prop}(hw:sr m w)(T:0<m)(wq:0<s)(h8:m*s<=8)(all:All w s F)(hV:V[n]? = some (dO F))(q:∀met au E aq y12,MI m s met->0<met.length->Cl w F met met.length 0->Jn w F met->Q (.nx,[some (.ref 0),some (webD w),some (.int s),some (.ref (n+1)),au,x5,E,ao,x8,aq,x10,some (.ref (V.length+1)),y12,x13,t],o::(V++[.lst (met.map pD)]))):
  W (ux hR hO 100000 [Z (.ref 0),Z (webD w),Z (.int s),Z (.ref (n+1)),x4,x5,x6,ao,x8,x9,x10,Z (.ref (V.length+1)),Z (.int ((0:Nat):Int)),x13,t] (o::(V++[.lst ([(0,0)].map pD)]))) Q:=by
 have L:∀(X:Ob),(o::(V++[X]))[V.length+1]?=Z X:=λX=>by rw[gC1,dF];rfl
 have gs:∀(ar:Sto),(o::(V++ar))[n+1]?=Z (dO F):=λar=>by rw[gC1,gL1 (gE1.mp hV).1];exact hV
 refine vO (λk r S=>∃met au E aq,MI m s met/\k<=met.length/\0<met.length/\Cl w F met k 0/\Jn w F met/\S=o::(V++[.lst (met.map pD)])/\r=[Z (.ref 0),Z (webD w),Z (.int s),Z (.ref (n+1)),au,x5,E,ao,x8,aq,x10,Z (.ref (V.length+1)),Z (.int (k:Nat)),x13,t]) 8 ?_ 100000 0 _ _ (by lia) ⟨[(0,0)],_,_,_,⟨by simp,λx I=>by simp at I;subst I;exact⟨T,wq⟩⟩,by lia,by simp,λa d x _ _ h=>by lia,λb y h1 h2=>by have:=(gE1.mp h2).1;simp at this;lia,O,O⟩;rintro k r S ⟨met,au,E,aq,N,hk,hp,cl,jn,rfl,rfl⟩;have hf:=N.few h8;unfold hR;walk_at"w";refine d5 (L _) ?_;walk_at"w";rw[lM1];by_cases R:k<met.length
 ·rw[ak (by rw[am];lia)];refine⟨by lia,?_⟩;obtain⟨x,I⟩:∃x,met[k]?=some x:=⟨_,gG1 R⟩;have K:=N.inn x (gM1 I);obtain⟨row,v⟩:∃row,w[x.1]?=some row:=⟨_,gG1 (by rw[hw.len];exact K.1)⟩;have A:oT w x.1=row.length:=by unfold oT;rw[bI,v];rfl
  have hr4:=hw.le _ row v;unfold hO;refine dS (λr S=>S=o::(V++[.lst (met.map pD)])/\r=[Z (.ref 0),Z (webD w),Z (.int s),Z (.ref (n+1)),Z (.int (x.1:Nat)),x5,E,ao,x8,Z (.int (x.2:Nat)),x10,Z (.ref (V.length+1)),Z (.int (k:Nat)),x13,t]) ?_ ?_
  ·walk_at"w";refine iR (i:=k) (xs:=met.map pD) (x:=pD x) (L _) (by rw[gP1,I];rfl) ?_;rw[pD];walk_at"w"
  rintro r S ⟨rfl,rfl⟩;refine dS (λr S=>∃c E,c[k]?=Z x/\MI m s c/\Cl w F c k row.length/\Jn w F c/\S=o::(V++[.lst (c.map pD)])/\r=[Z (.ref 0),Z (webD w),Z (.int s),Z (.ref (n+1)),Z (.int (x.1:Nat)),x5,E,ao,x8,Z (.int (x.2:Nat)),x10,Z (.ref (V.length+1)),Z (.int (k:Nat)),x13,t]) ?_ ?_
  ·walk_at"w";unfold webD;refine lN (i:=x.1) (x:=.tup (row.map pD)) (by rw[gP1,v];rfl) ?_;walk_at"w";rw[lM1];refine⟨fX (by lia),?_⟩;rw[lj,Int.toNat_natCast];refine eH (λj r S=>∃c E,j<=row.length/\c[k]?=Z x/\MI m s c/\Cl w F c k j/\Jn w F c/\S=o::(V++[.lst (c.map pD)])/\r=[Z (.ref 0),Z (webD w),Z (.int s),Z (.ref (n+1)),Z (.int (x.1:Nat)),x5,E,ao,x8,Z (.int (x.2:Nat)),x10,Z (.ref (V.length+1)),Z (.int (k:Nat)),x13,t]) _ 0 _ _ ⟨met,_,by lia,I,N,cl,jn,O,O⟩ (λ_ _ _ _=>rfl) ?_ ?_
   ·rintro j dd hd r S ⟨c,z6,hj,f,l,B,u,rfl,rfl⟩;have G:=(gE1.mp hd).1;rw[lM1,cu]at G;rw[gP1,cj G]at hd;cases hd;rw[bN]at *
    have hf':=l.few h8;obtain⟨n1,n2,n3⟩:=Af hw all K (d:=j) (by rw[A];exact G);have sl:∀(r:Ev) (S:Sto) (P:D×Sto->Prop),S[n+1]?=Z (dO F)->r[3]?=Z (Z (.ref (n+1)))->r[4]?=Z (Z (.int (x.1:Nat)))->r[9]?=Z (Z (.int (x.2:Nat)))->r[6]?=Z (Z (.int (j:Nat)))->P (pD (ij F x j).1,S)->W (kC (m2 (b2 dD) (mV 3) (dR (dr (mV 4) (dr (mV 9) (dr (mV 6) dt))))) ip (io (mC (D.int (2)))) r S) P:=by
     intro r S P hS h3 h4 h9 h6 p;refine EV (xs:=[.int (ij F x j).1.1,.int (ij F x j).1.2,.int (ij F x j).2]) (a:=Y) (b:=Z 2) ?_ O O p;have:=JE hS n1;simp only[m2,dR,dr,dt,mV,h3,h4,h9,h6,cR,oP1,oS1,lC1,bb,b2,cQ,ak (show 3<=di by decide)];exact this
    walk_at"w";unfold jy eJ mB;rw[dw,dw];refine JW ?_;refine sl _ _ _ (gs _) O O O O ?_;walk_at"w";refine Ec (L _) ?_;walk_at"w";have step:∀g:List (Nat×Nat),(∀a,a<=k->g[a]?=c[a]?)->(∀z∈c,z∈g)->(ij F x j).1∈g->Cl w F g k (j+1):=λg hg hs hm a d y h1 h2 h3=>by
     rw[hg a (by lia)]at h1;by_cases hz:a=k/\d=j
     ·obtain⟨rfl,rfl⟩:=hz;rw[f]at h1;cases h1;exact hm
     ·exact hs _ (B a d y h1 h2 (by lia))
    have U:=(gE1.mp f).1;by_cases C:(ij F x j).1∈c
    ·rw[aj (by simpa using C)];exact⟨c,_,by lia,f,l,step c (λ_ _=>rfl) (λ_ h=>h) C,u,O,O⟩
    ·rw[ak (by simpa using C)];refine gX ?_;walk_at"w";refine⟨V.length+1,c.map pD,O,L _,?_⟩;refine sl _ _ _ (gs _) O O O O ?_;walk_at"w";refine(ji (L _)).mpr ⟨dG (by rw[lM1];lia),?_⟩;refine⟨c++[(ij F x j).1],_,by lia,by rw[gL1 U];exact f,⟨?_,?_⟩,step _ (λa ha=>gL1 (by lia)) (λz h=>aG _ h) (by simp),u.snoc f (by rw[A];exact G),?_,O⟩
     ·refine bw.mpr ⟨l.nd,by simp,λa ha b hb e=>?_⟩;rw[cm]at hb;exact C (by rw[<- hb,<- e];exact ha)
     ·intro y H;rcases aF.mp H with H|H
      ·exact l.inn y H
      ·rw[cm]at H;subst H;exact⟨n2,n3⟩
     ·rw[cy,cW _ _ (nR1 _),cB,cE];rfl
   ·rintro r S ⟨c,z6,hj,f,l,B,u,rfl,rfl⟩;rw[lM1,cu,bN]at *
    exact⟨O,c,_,f,l,B,u,O,O⟩
  rintro r S ⟨c,z6,f,l,B,u,rfl,rfl⟩;have hlt':=(gE1.mp f).1;walk_at"w";refine⟨c,_,_,_,l,by lia,by lia,λa d y h1 h2 h3=>B a d y h1 h2 ?_,u,O,by push_cast;rfl⟩;rcases(show a<k\/a=k by lia)with h|rfl
  ·exact .inl h
  ·rw[f]at h1;cases h1;exact .inr ⟨O,by rw[<- A];exact h2⟩
 ·rw[aj (by rw[am];lia)];have e:k=met.length:=by lia
  subst e;exact q met _ _ _ _ N hp cl jn
def BR(met:List (Nat×Nat))(y:Nat×Nat):Nat:=(met.findIdx? (· == y)).getD 0
def sO(w:dA)(F:List (TK×D))(met:List (Nat×Nat))(x:Nat×Nat):List (Nat×Nat):=(af (oT w x.1)).map λd=>(BR met (ij F x d).1,(ij F x d).2)
def uB(w:dA)(F:List (TK×D))(met:List (Nat×Nat)):dA:=met.map (sO w F met)
theorem vb{met:List (Nat×Nat)}{y:Nat×Nat}(h:y∈met):met.findIdx? (· == y)=Z (BR met y)/\met[BR met y]?=Z y:=by
 obtain⟨j,h1,h2⟩:=yd h;unfold BR;rw[h1];exact⟨O,h2⟩
theorem Bx{w:dA}{F:List (TK×D)}{met:List (Nat×Nat)}{r d:Nat}{e:Nat×Nat}:At (uB w F met) r d e ↔ ∃x,met[r]?=Z x/\d<oT w x.1/\e=(BR met (ij F x d).1,(ij F x d).2):=by
 unfold At uB;rw[gP1];constructor
 ·rintro⟨c,h1,h2⟩;obtain⟨x,f,rfl⟩:=oM1.mp h1;unfold sO at h2;rw[gP1]at h2;obtain⟨g,b,rfl⟩:=oM1.mp h2;have a:=(gE1.mp b).1;rw[cu]at a;rw[cj a]at b;cases b;exact⟨x,f,a,O⟩
 ·rintro⟨x,h1,h2,rfl⟩;refine⟨sO w F met x,by rw[h1];rfl,?_⟩;unfold sO;rw[gP1,cj h2];rfl
theorem Hm{m:Nat}{w:dA}(hw:sr m w)(r:Nat):oT w r<=4:=by
 unfold oT;rw[bI];cases h:w[r]? with
 |none=>simp
 |some a=>exact hw.le r a h
theorem yO{m:Nat}{w:dA}{F:List (TK×D)}{met:List (Nat×Nat)}(hw:sr m w)(p:met.Nodup)(l:Cl w F met met.length 0)(c:Jn w F met):WebJ met.length (uB w F met):=by
 refine⟨by unfold uB;rw[lM1],λi g h=>?_,λr d e h=>?_,λj h1 h2=>?_⟩
 ·unfold uB at h;rw[gP1]at h;obtain⟨x,_,rfl⟩:=oM1.mp h;unfold sO;rw[lM1,cu];exact Hm hw _
 ·obtain⟨x,h1,h2,rfl⟩:=Bx.mp h;have:=(vb (l r d x h1 h2 (.inl (gE1.mp h1).1))).2;exact(gE1.mp this).1
 ·obtain⟨y,b⟩:∃y,met[j]?=some y:=⟨_,gG1 h2⟩;obtain⟨a,d,x,t,k,o,n⟩:=c j y h1 b;refine⟨a,d,_,t,Bx.mpr ⟨x,k,o,O⟩,?_⟩;dsimp only;rw[n];have q:=(vb (gM1 b)).2;obtain⟨v,f⟩:=gE1.mp q;obtain⟨u,s⟩:=gE1.mp b;exact(List.getElem_inj p).mp (by rw[f,s])
theorem wv{o a b X:Ob}{V G:Sto}:(o::(V++a::b::(G++[X])))[V.length+(G.length+2)+1]?=Z X:=by
 rw[gC1,eD,gC1,gC1,dF];rfl
inductive CI (w:dA)(cp n:Nat)(T:Sto):Ev->Sto->Prop
 |mk (F:List (TK×D)) (G:Sto) (o':Ob) (x4 x5 x6 x7 x8 x9 x10:Option D) (ho:Hnd o' (n+128)) (all:All w cp F):CI w cp n T [some (.ref 0),some (webD w),some (.int cp),some (.ref (T.length+1)),x4,x5,x6,x7,x8,x9,x10,none,none,none,none] (o'::(T++dO F::G))
inductive CJ (w:dA)(m cp:Nat)(T V:Sto)(F:List (TK×D))(o':Ob)(x5 x7 x8 x10:Option D):Ev->Sto->Prop
 |mk (met:List (Nat×Nat)) (y4 y6 y9 y12:Option D) (mi:MI m cp met) (hp:0<met.length) (cl:Cl w F met met.length 0) (jn:Jn w F met):CJ w m cp T V F o' x5 x7 x8 x10 [some (.ref 0),some (webD w),some (.int cp),some (.ref (T.length+1)),y4,x5,y6,x7,x8,y9,x10,some (.ref (V.length+1)),y12,none,none] (o'::(V++[.lst (met.map pD)]))
theorem DY{o:Ob}{n m c:Nat}{T:Sto}{w:dA}{Q:D×Sto->Prop}(hw:sr m w)(N:0<m)(I:0<c)(hc:c<=4)(P:m*c<=8)(ho:Hnd o n)(hn:n<=2^40)(hT:T.all (Ob.und (T.length+1))=M)(q:∀K cw rs o',0<K->K<=8->WebJ K cw->rs.length=K->(∀x∈rs,x<8)->Hnd o' (n+128)->Q (.tup [webD cw,.tup (nmD rs)],o'::T)):W (dy 3 gr [.ref 0,webD w,.int c] (o::T)) Q:=by
 have au:m<=8:=aC (Nat.le_mul_of_pos_right m I) P;refine uk O O hT ?_;unfold gr;refine jm ?_;unfold lJ;refine dS (λr S=>S=o::(T++dO []::[])/\r=[Z (.ref 0),Z (webD w),Z (.int c),Z (.ref (T.length+1)),Y,Y,Y,Y,Y,Y,Y,Y,Y,Y,Y]) ?_ ?_
 ·have d0:dO [] = .dct []:=ak O;rw[d0]
  ((try walk_at"w");repeat(simp only[iu];try walk_at"w"))
 rintro r S ⟨rfl,rfl⟩;refine dS (CI w c n T) ?_ ?_
 ·exact vx hw au hc ho (by lia) λF G o' x4 k x6 p x8 x9 x10 h1 h2=>⟨O,.mk F G o' _ _ _ _ _ _ _ h1 h2⟩
 rintro r S ⟨F,G,o',x4,k,x6,p,x8,x9,x10,H,all⟩;generalize hV:T++dO F::G=V;have s:V[T.length]?=Z (dO F):=by rw[<- hV,dF];rfl
 refine dS (λr S=>S=o'::(V++[.lst ([(0,0)].map pD)])/\r=[Z (.ref 0),Z (webD w),Z (.int c),Z (.ref (T.length+1)),x4,k,x6,p,x8,x9,x10,Z (.ref (V.length+1)),Z (.int ((0:Nat):Int)),Y,Y]) ?_ ?_
 ·walk_at"w";exact⟨O,O⟩
 rintro r S ⟨rfl,rfl⟩;refine dS (CJ w m c T V F o' k p x8 x10) ?_ ?_
 ·exact Jc hw N I P all s λmet A ao v h h1 h2 h3 h4=>⟨O,.mk met _ _ _ _ h1 h2 h3 h4⟩
 rintro r S ⟨met,A,ao,v,h,L,hp,cl,jn⟩;have hf:=L.few P;refine dS (λr S=>S=o'::(V ++ .lst (met.map pD) :: .lst []::[])/\r=[Z (.ref 0),Z (webD w),Z (.int c),Z (.ref (T.length+1)),A,k,ao,p,x8,v,x10,Z (.ref (V.length+1)),h,Z (.ref (V.length+2)),Y]) ?_ ?_
 ·walk_at"w"
 rintro r S ⟨rfl,rfl⟩;have z:∀(X:Ob) (ar:Sto),(o'::(V++X::ar))[V.length+1]?=Z X:=λX ar=>by rw[gC1,dF];rfl
 have U:∀(X wq:Ob) (ar:Sto),(o'::(V++X::wq::ar))[V.length+2]?=Z wq:=λX wq ar=>by rw[gC1,eD];rfl
 have gs:∀(ar:Sto),(o'::(V++ar))[T.length+1]?=Z (dO F):=λar=>by rw[gC1,gL1 (gE1.mp s).1];exact s
 let rD:List (Nat×Nat)->D:=λrow=>.tup (row.map pD)
 refine dS (λr S=>∃G2 A v t,S=o'::(V ++ .lst (met.map pD) :: .lst ((uB w F met).map rD)::G2)/\r=[Z (.ref 0),Z (webD w),Z (.int c),Z (.ref (T.length+1)),A,k,ao,p,x8,v,x10,Z (.ref (V.length+1)),h,Z (.ref (V.length+2)),t]) ?_ ?_
 ·walk_at"w";refine d5 (z _ _) ?_;refine eH (λi r S=>∃G2 A v t,i<=met.length/\S=o'::(V ++ .lst (met.map pD) :: .lst (((uB w F met).take i).map rD)::G2)/\r=[Z (.ref 0),Z (webD w),Z (.int c),Z (.ref (T.length+1)),A,k,ao,p,x8,v,x10,Z (.ref (V.length+1)),h,Z (.ref (V.length+2)),t]) _ 0 _ _ ⟨[],_,_,_,by lia,O,O⟩ ?_ ?_ ?_
  ·rintro i r S ⟨G2,_,_,_,_,rfl,_⟩;exact ff (z _ _)
  ·rintro i dd u r S ⟨G2,z4,z9,B,hi,rfl,rfl⟩;dsimp only at u;rw[gP1]at u;obtain⟨x,l,rfl⟩:=oM1.mp u;have aq:=(gE1.mp l).1;have E:=L.inn x (gM1 l);obtain⟨row,g⟩:∃row,w[x.1]?=some row:=⟨_,gG1 (by rw[hw.len];exact E.1)⟩;have C:oT w x.1=row.length:=by unfold oT;rw[bI,g];rfl
   have hr4:=hw.le _ row g;rw[bN]at *
   rw[pD];walk_at"w";unfold jx;refine dS (λr S=>S=o'::(V ++ .lst (met.map pD) :: .lst (((uB w F met).take i).map rD)::(G2++[.lst ((af (oT w x.1)).map λd=>C1 (ij F x d))]))/\r=[Z (.ref 0),Z (webD w),Z (.int c),Z (.ref (T.length+1)),Z (.int (x.1:Nat)),k,ao,p,x8,Z (.int (x.2:Nat)),x10,Z (.ref (V.length+1)),h,Z (.ref (V.length+2)),Z (.ref (V.length+(G2.length+2)+1))]) ?_ ?_
   ·walk_at"w";rw[show webD w = .tup (w.map λrow=>.tup (row.map pD))from rfl];refine lN (i:=x.1) (x:=.tup (row.map pD)) (by rw[gP1,g];rfl) ?_;walk_at"w";rw[lM1];refine⟨fX (by lia),?_⟩;rw[lj,Int.toNat_natCast,<- C];refine j6 (f:=λj:Nat=>D.int j) (λd=>C1 (ij F x d)) (λr=>∃y,r=[y,Z (.ref (T.length+1)),Z (.int (x.1:Nat)),Z (.int (x.2:Nat))]) O (af (oT w x.1)) _ ⟨_,O⟩ ?_ ?_
    ·rintro d u r ⟨y,rfl⟩;have n1:=(Af hw all E (aB.mp u)).1;walk_at"w";refine W.of (JE (gs _) n1) ⟨O,O,_,O⟩
    ·rintro r' _;refine⟨dG (by rw[lM1,cu];lia),?_⟩;walk_at"w"
   rintro r S ⟨rfl,rfl⟩;walk_at"w";refine gX ?_;walk_at"w";refine⟨V.length+2,_,O,U _ _ _,?_⟩;refine d5 wv ?_;refine j6 (f:=λd=>C1 (ij F x d)) (λd=>pD (BR met (ij F x d).1,(ij F x d).2)) (λr=>∃y,r=[y,Z (.ref (V.length+1))]) (ff wv) (af (oT w x.1)) _ ⟨_,O⟩ ?_ ?_
   ·rintro d u r ⟨y,rfl⟩;have R:=cl i d x l (aB.mp u) (.inl aq);walk_at"w";refine gX ?_;walk_at"w";refine⟨V.length+1,_,O,z _ _,?_⟩;refine EV (xs:=[.int (ij F x d).1.1,.int (ij F x d).1.2,.int (ij F x d).2]) (a:=Y) (b:=Z 2) O O O ?_;rw[Lg];walk_at"w";refine HG (e:=(ij F x d).1) (z _ _) (by lia) (vb R).1 ?_;refine lN (i:=2) (xs:=[.int (ij F x d).1.1,.int (ij F x d).1.2,.int (ij F x d).2]) (x:=.int (ij F x d).2) O ?_;walk_at"w";exact⟨O,_,O⟩
   ·rintro r' _;refine⟨dG (by rw[lM1,cu];lia),?_⟩;walk_at"w";refine d5 (xs:=(af (oT w x.1)).map λd=>pD (BR met (ij F x d).1,(ij F x d).2)) ?_ ?_
    ·rw[show∀(a b:Ob),G2++[a,b]=(G2++[a])++[b]from λa b=>by simp];have:=wv (o:=o') (a:=.lst (met.map pD)) (b:=.lst (((uB w F met).take i).map rD)) (V:=V) (G:=G2++[.lst ((af (oT w x.1)).map λd=>C1 (ij F x d))]) (X:=.lst ((af (oT w x.1)).map λd=>pD (BR met (ij F x d).1,(ij F x d).2)));rw[<- this]
     congr 1
     simp
     try lia
    refine(ji (U _ _ _)).mpr ⟨dG (by rw[lM1,aR];lia),?_⟩;refine⟨G2++[.lst ((af (oT w x.1)).map λd=>C1 (ij F x d)),.lst ((af (oT w x.1)).map λd=>pD (BR met (ij F x d).1,(ij F x d).2))],_,_,_,by lia,?_,O⟩
    ·rw[cy,cW _ _ (by lia),show V.length+1-V.length=1 by lia,cF];rw[show(uB w F met)[i]?=Z (sO w F met x) by unfold uB;rw[gP1,l];rfl];rw[Option.toList_some,cE];rw[show[sO w F met x].map rD=[.tup ((af (oT w x.1)).map λd=>pD (BR met (ij F x d).1,(ij F x d).2))] by simp[rD,sO,Function.comp_def]];rfl
  ·rintro r S ⟨G2,z4,z9,B,hi,rfl,rfl⟩;rw[lM1,bN,b8 (by unfold uB;rw[lM1];exact nR1 _)];exact⟨O,G2,_,_,_,O,O⟩
 rintro r S ⟨G2,z4,z9,B,rfl,rfl⟩;have hcl:(uB w F met).length=met.length:=by unfold uB;rw[lM1]
 walk_at"w";refine d5 (U _ _ _) ?_;refine d5 (z _ _) ?_;refine j6 (f:=pD) (λx:Nat×Nat=>D.int (x.1:Nat)) (λr=>∃y0 y1,r=[y0,y1]) (ff (z _ _)) met _ ⟨_,_,O⟩ ?_ ?_
 ·rintro x l r ⟨y0,y1,rfl⟩;rw[pD];walk_at"w";exact⟨_,_,O⟩
 ·rintro r' _;refine⟨dG (by rw[lM1];lia),?_⟩;walk_at"w";refine d5 (xs:=met.map λx:Nat×Nat=>D.int (x.1:Nat)) wv ?_;walk_at"w";have e:met.map (λx:Nat×Nat=>D.int (x.1:Nat))=nmD (met.map (·.1)):=by rw[nmD,bt];rfl
  rw[e];refine⟨.tup [webD (uB w F met),.tup (nmD (met.map (·.1)))],o',(dO F::G)++(.lst (met.map pD) :: .lst ((uB w F met).map rD)::(G2++[.lst (nmD (met.map (·.1)))])),?_,?_,H.und,q met.length _ _ o' hp hf (yO hw L.nd cl jn) (by rw[lM1]) (λx l=>by obtain⟨y,hy,rfl⟩:=cc.mp l;have:=(L.inn y hy).1;lia) H⟩
  ·rw[<- hV,bF];rfl
  ·rw[D.und,D.unds,ee,D.unds,D.unds,D.und,fy];rfl
theorem EX{m:FA}{r:Ev}{S S1:Sto}{k:Nat}{Q:D×Sto->Prop}(h:m r S=Z ([.int k],S1))(hk:k<=1000)(q:Q (.tup (nmD (af k)),S1)):W (Az m r S) Q:=by
 refine W.of ?_ q;unfold Az;rw[h,oS1];dsimp only;have:my 0 (k:Int)=M:=by
  unfold my;simp only[bA1,am];lia
 rw[ak this,Int.toNat_natCast,lj];rfl
theorem Lc{a:Nat}{S:Sto}(h1:1<=a)(b:a<=4):rM (.int 8) (.int a) S=Z (.int ((8/a:Nat):Int),S):=by
 match a,h1,b with
 |1,_,_=>rfl
 |2,_,_=>rfl
 |3,_,_=>rfl
 |4,_,_=>rfl
theorem lv{w:dA}{S:Sto}:dV (webD w) S=Z (.int w.length,S):=by
 unfold webD;rw[fz,lM1]
theorem L7{d:Nat}(h:d<6):∃a:Nat,([.int 1,.int 1,.int 2,.int 2,.int 3,.int 4]:List D)[d]?=Z (.int a)/\1<=a/\a<=4:=by
 match d,h with
 |0,_=>exact⟨1,O,by decide,by decide⟩
 |1,_=>exact⟨1,O,by decide,by decide⟩
 |2,_=>exact⟨2,O,by decide,by decide⟩
 |3,_=>exact⟨2,O,by decide,by decide⟩
 |4,_=>exact⟨3,O,by decide,by decide⟩
 |5,_=>exact⟨4,O,by decide,by decide⟩
theorem K1{m a:Nat}(h:m<=8/a):m*a<=8:=aC (Nat.mul_le_mul_right a h) (Nat.div_mul_le_self 8 a)
theorem HZ{o:Ob}{n:Nat}{T:Sto}{Q:D×Sto->Prop}(ho:Hnd o n)(hn:n<=2^39)(E:T.all (Ob.und (T.length+1))=M)(q:∀m w rs o',0<m->m<=8->WebJ m w->rs.length=m->(∀x∈rs,x<8)->Hnd o' (n+300)->Q (.tup [webD w,.tup (nmD rs)],o'::T)):W (dy 1 hZ [.ref 0] (o::T)) Q:=by
 refine uk O O E ?_;unfold hZ;refine jm ?_;unfold oO;generalize t:T++[Ob.lst [.int 1,.int 1,.int 2,.int 2,.int 3,.int 4]]=X;have g:X.all (Ob.und (X.length+1))=M:=by rw[<- t];exact Ll E O
 refine dS (λr S=>∃(cp:Nat) (l:Ob),1<=cp/\cp<=4/\Hnd l (n+1)/\S=l::X/\r=[Z (.ref 0),Z (.int cp),Y]) ?_ ?_
 ·walk_at"w";refine gi ho (by lia) (by lia) (by lia) λd l e L=>?_;obtain⟨cp,h1,h2,K⟩:=L7 (d:=d) (by lia);walk_at"w";refine iR (i:=d) (xs:=[.int 1,.int 1,.int 2,.int 2,.int 3,.int 4]) (x:=.int cp) (by rw[gC1,dF];rfl) h1 ?_;exact⟨cp,l,h2,K,e,by rw[t],O⟩
 rintro r S ⟨cp,l,h1,F,e,rfl,rfl⟩;refine dS (λr S=>∃(m:Nat) (w:dA) (b:Ob),0<m/\m<=8/cp/\sr m w/\Hnd b (n+101)/\S=b::X/\r=[Z (.ref 0),Z (.int cp),Z (webD w)]) ?_ ?_
 ·((try walk_at"w");repeat(simp only[Lc h1 F];try walk_at"w"))
  have ao:1<=8/cp:=Nat.div_pos (by lia) (by lia);refine CF e (by lia) g ao (Nat.div_le_self 8 cp) λm w b c u p a=>?_;exact⟨m,w,b,c,u,p,a.more (by lia),O,O⟩
 rintro r S ⟨m,w,b,c,u,p,a,rfl,rfl⟩;have y:m<=8:=aC u (Nat.div_le_self 8 cp);have H:((cp:Int) == 1)=decide (cp=1):=by
  rw[bP,beq_iff_eq,am];lia
 unfold dH eJ;rw[dw];have h:mB (m2 (b2 gEq) (mV 1) (mC (D.int (1)))) [Z (.ref 0),Z (.int cp),Z (webD w)] (b::X)=Z (decide (cp=1),b::X):=by
  rw[<- H];rfl
 rw[dw];refine W.of h ?_;dsimp only;by_cases s:cp=1
 ·rw[ah s,ak O];simp(implicitDefEqProofs:=J) only[d6,mN,dr,mV,dt,oS1,dw,dB,ss,gC1,cN,lC1,bb,cQ,LQ,LO,true_and];refine EX (k:=m) (S1:=b::X) ?_ (by lia) ?_
  ·simp only[dr,dt,mN,mV,b1,gC1,cN,cR,oP1,oS1,lv,p.len]
  walk_at"w";refine⟨.tup [webD w,.tup (nmD (af m))],b,[Ob.lst [.int 1,.int 1,.int 2,.int 2,.int 3,.int 4]],by rw[t],?_,a.und,q m w _ b c y p.toWebJ cu (λx I=>by have:=aB.mp I;lia) (a.more (by lia))⟩;rw[D.und,D.unds,ee,D.unds,D.unds,D.und,fy];rfl
 ·rw[ai s,aj (by decide)];walk_at"w";refine DY p c (by lia) F (K1 u) a (by lia) g λG cw rs C j B A v z f=>?_;refine⟨.tup [webD cw,.tup (nmD rs)],C,[Ob.lst [.int 1,.int 1,.int 2,.int 2,.int 3,.int 4]],by rw[t],?_,f.und,q G cw rs C j B A v z (f.more (by lia))⟩;rw[D.und,D.unds,ee,D.unds,D.unds,D.und,fy];rfl
open Classical in
def tf(P:Prop):Bool:=decide P
theorem xr{P:Prop}:tf P=M↔P:=by unfold tf;exact @decide_eq_true_iff P (Classical.propDecidable P)
theorem oW{P:Prop}(h:P):tf P=M:=xr.mpr h
theorem xt{P:Prop}{b:Bool}(h:b=M↔P):b=tf P:=by rw[bP,xr];exact h
theorem uO{P:Prop}(h:¬ P):tf P=J:=(xt ⟨λz=>(by cases z),λz=>(h z).elim⟩).symm
theorem Kw{P Q:Prop}(h:P↔Q):tf P=tf Q:=xt (xr.trans h)
section
variable{α β:Type}
def isF(k:Nat->α)(r:Nat):Prop:=∀s,s<r->k s≠k r
theorem wQ(k:Nat->α)(r:Nat):∃s,s<=r/\k s=k r/\isF k s:=by
 induction r using Nat.strongRecOn with
 |ind r ih=>
  by_cases h:isF k r
  ·exact⟨r,nR1 _,O,h⟩
  ·obtain⟨s,h1,h2⟩:∃s,s<r/\k s=k r:=Classical.byContradiction λz=>h λs b e=>z ⟨s,b,e⟩;obtain⟨u,d,a,c⟩:=ih s h1;exact⟨u,by lia,a.trans h2,c⟩
def fs(k:Nat->α)(r:Nat):Nat:=Classical.choose (wQ k r)
theorem pR(k:Nat->α)(r:Nat):fs k r<=r:=(Classical.choose_spec (wQ k r)).1
theorem tY(k:Nat->α)(r:Nat):k (fs k r)=k r:=(Classical.choose_spec (wQ k r)).2.1
theorem vf(k:Nat->α)(r:Nat):isF k (fs k r):=(Classical.choose_spec (wQ k r)).2.2
theorem wR{k:Nat->α}{r s:Nat}(h:k s=k r)(hf:isF k s):s=fs k r:=by
 rcases cD s (fs k r)with z|z|z
 ·exact(vf k r s z (h.trans (tY k r).symm)).elim
 ·exact z
 ·exact(hf _ z ((tY k r).trans h.symm)).elim
theorem oy{k:Nat->α}{r s:Nat}:fs k r=fs k s↔k r=k s:=by
 constructor
 ·intro h;rw[<- tY k r,h];exact tY k s
 ·intro h;exact wR ((tY k r).trans h) (vf k r)
def cnt(k:Nat->α)(n:Nat):Nat:=((af n).filter λs=>tf (isF k s)).length
def cn(k:Nat->α)(r:Nat):Nat:=cnt k (fs k r)
theorem ug{k:Nat->α}{n:Nat}:cnt k (n+1)=cnt k n+if tf (isF k n)=M then 1 else 0:=by
 unfold cnt;rw[c0,cV,lA1]
 congr 1
 cases h:tf (isF k n)with
 |true=>rw[c5 (by exact h)];rfl
 |false=>rw[c6 (by rw[h];decide)];rfl
theorem uh{k:Nat->α}{a b:Nat}(h:a<=b):cnt k a<=cnt k b:=by
 induction b with
 |zero=>rw[show a=0 by lia];exact nR1 _
 |succ b ih=>
  rcases cZ.mp (Nat.lt_succ_of_le h)with z|z
  ·rw[ug];have:=ih (by lia);lia
  ·rw[z];exact nR1 _
theorem vm{k:Nat->α}{a b:Nat}(h:a<b)(hf:isF k a):cnt k a<cnt k b:=by
 have h1:=uh (k:=k) (show a+1<=b from h);rw[ug,oW hf,ak O]at h1;lia
theorem Bm{k:Nat->α}{r s:Nat}:cn k r=cn k s↔k r=k s:=by
 constructor
 ·intro h;rw[<- oy];rcases cD (fs k r) (fs k s)with z|z|z
  ·have:=vm z (vf k r);unfold cn at h;lia
  ·exact z
  ·have:=vm z (vf k s);unfold cn at h;lia
 ·intro h;unfold cn;rw[oy.mpr h]
theorem pL{k:Nat->α}{k':Nat->β}{m r:Nat}(h:∀a b,a<m->b<m->(k a=k b↔k' a=k' b))(hr:r<m):isF k r↔isF k' r:=
 ⟨λf s c e=>f s c ((h s r (by lia) hr).mpr e),λf s c e=>f s c ((h s r (by lia) hr).mp e)⟩
theorem A4{k:Nat->α}{k':Nat->β}{m r:Nat}(h:∀a b,a<m->b<m->(k a=k b↔k' a=k' b))(hr:r<m):fs k r=fs k' r:=by
 have h1:=pR k r;exact wR ((h _ _ (by lia) hr).mp (tY k r)) ((pL h (by lia)).mp (vf k r))
theorem yk{k:Nat->α}{k':Nat->β}{m n:Nat}(h:∀a b,a<m->b<m->(k a=k b↔k' a=k' b))(hn:n<=m):cnt k n=cnt k' n:=by
 unfold cnt
 congr 1
 refine List.filter_congr λs c=>?_;exact Kw (pL h (by have:=aB.mp c;lia))
theorem ui{k:Nat->α}{k':Nat->β}{m r:Nat}(h:∀a b,a<m->b<m->(k a=k b↔k' a=k' b))(hr:r<m):cn k r=cn k' r:=by
 unfold cn;have h1:=pR k r;rw[<- A4 h hr];exact yk h (by lia)
theorem JN{k:Nat->α}{r:Nat}:cn (cn k) r=cn k r:=ui (m:=r+1) (λ_ _ _ _=>Bm) (bB r)
end
def fv(w:dA)(r:Nat):List (Nat×Nat):=w[r]?.getD []
theorem qw{w:dA}{r:Nat}{row:List (Nat×Nat)}(h:w[r]?=Z row):fv w r=row:=by unfold fv;rw[h];rfl
def gu(sg:List Int)(r:Nat):Int:=sg.getD r 0
def Go(c:Nat->Nat)(e:Nat×Nat):Nat×Nat:=(c e.1,e.2)
def lk(w:dA)(sg:List Int)(c:Nat->Nat)(r:Nat):Nat×Int×List (Nat×Nat):=(c r,gu sg r,(fv w r).map (Go c))
def col(w:dA)(sg:List Int):Nat->Nat->Nat
 |0=>λ_=>0
 |n+1=>cn (lk w sg (col w sg n))
def Dr(w:dA)(R:Nat->Nat->Prop)(r s:Nat):Prop:=(fv w r).length=(fv w s).length /\ ∀(d:Nat) (e e':Nat×Nat),(fv w r)[d]?=Z e->(fv w s)[d]?=Z e'->R e.1 e'.1/\e.2=e'.2
theorem Dr.imp{w:dA}{R c:Nat->Nat->Prop}{r s:Nat}(h:Dr w R r s)(i:∀a b,R a b->c a b):Dr w c r s:=⟨h.1,λd e f h1 h2=>⟨i _ _ (h.2 d e f h1 h2).1,(h.2 d e f h1 h2).2⟩⟩
theorem GO{γ:Type}{w:dA}{c:Nat->γ}{r s:Nat}:(fv w r).map (λe=>(c e.1,e.2))=(fv w s).map (λe=>(c e.1,e.2))↔Dr w (λa b=>c a=c b) r s:=by
 constructor
 ·intro h;refine⟨by have:=congrArg List.length h;rwa [lM1,lM1]at this,λd e e' h1 h2=>?_⟩;have:=congrArg (λl:List (γ×Nat)=>l[d]?) h;simp only[gP1,h1,h2,oP1,Option.some.injEq,Prod.mk.injEq]at this;exact this
 ·rintro⟨h1,h2⟩;refine bX λd=>?_;rw[gP1,gP1];cases he:(fv w r)[d]? with
  |none=>
   rw[List.getElem?_eq_none_iff]at he;rw[bY (by lia)]
  |some e=>
   have j:=(gE1.mp he).1;obtain⟨e',f⟩:∃e',(fv w s)[d]?=some e':=⟨_,gG1 (by lia)⟩;rw[f];obtain⟨i,g⟩:=h2 d e e' he f;simp only[oP1,i,g]
def RA(w:dA)(sg:List Int):Nat->Nat->Nat->Prop
 |0=>λ_ _=>True
 |n+1=>λr s=>RA w sg n r s/\gu sg r=gu sg s/\Dr w (RA w sg n) r s
theorem i7{w:dA}{c:List Int}:∀{n r s:Nat},col w c n r=col w c n s↔RA w c n r s
 |0,r,s=>⟨λ_=>trivial,λ_=>rfl⟩
 |n+1,r,s=>by
  have ih:=@i7 w c n;rw[col,Bm,lk,lk,Prod.mk.injEq,Prod.mk.injEq,RA,ih];refine and_congr_right λ_=>and_congr_right λ_=>?_;exact GO.trans ⟨λh=>h.imp λa b=>ih.mp,λh=>h.imp λa b=>ih.mpr⟩
theorem vk{w:dA}{a:List Int}:∀{n r:Nat},col w a n r=cn (col w a n) r
 |0,r=>by
  have:fs (col w a 0) r=0:=(wR (k:=col w a 0) (s:=0) (r:=r) O λs b=>absurd b (bv s)).symm;unfold cn;rw[this];rfl
 |n+1,r=>by rw[col,JN]
def EB(w:dA)(sg:List Int):Nat->Nat->Nat->Prop
 |0=>λr s=>(fv w r).length=(fv w s).length/\gu sg r=gu sg s
 |n+1=>λr s=>EB w sg n r s/\Dr w (EB w sg n) r s
theorem RA.eb{w:dA}{c:List Int}:∀{n r s:Nat},RA w c (n+1) r s->EB w c n r s
 |0,r,s,h=>⟨h.2.2.1,h.2.1⟩
 |n+1,r,s,h=>⟨RA.eb h.1,h.2.2.imp λa b=>RA.eb⟩
def Stl(m:Nat)(w:dA)(sg:List Int)(n:Nat):Prop:=∀r s,r<m->s<m->RA w sg n r s->RA w sg (n+1) r s
theorem Dr.lt{m:Nat}{w:dA}{R g:Nat->Nat->Prop}{r s:Nat}(hw:WebJ m w)(h:Dr w R r s)(i:∀a b,a<m->b<m->R a b->g a b):Dr w g r s:=by
 have at_:∀{r d:Nat} {e:Nat×Nat},(fv w r)[d]?=Z e->e.1<m:=λ{r d e} c=>by
  unfold fv at c;cases hr:w[r]? with
  |none=>rw[hr]at c;simp at c
  |some f=>rw[hr]at c;exact hw.to r d e ⟨f,hr,c⟩
 exact⟨h.1,λd e j h1 h2=>⟨i _ _ (at_ h1) (at_ h2) (h.2 d e j h1 h2).1,(h.2 d e j h1 h2).2⟩⟩
theorem Stl.next{m n:Nat}{w:dA}{a:List Int}(hw:WebJ m w)(h:Stl m w a n):Stl m w a (n+1):=λr s c b q=>
 ⟨q,q.2.1,q.2.2.lt hw h⟩
theorem Stl.on{m n:Nat}{w:dA}{a:List Int}(hw:WebJ m w)(h:Stl m w a n):∀k,Stl m w a (n+k)
 |0=>h
 |k+1=>(h.on hw k).next hw
theorem Stl.up{m n:Nat}{w:dA}{a:List Int}(hw:WebJ m w)(h:Stl m w a n):∀k r s,r<m->s<m->(RA w a n r s↔RA w a (n+k) r s)
 |0,r,s,_,_=>Iff.rfl
 |k+1,r,s,hr,hs=>(h.up hw k r s hr hs).trans ⟨λq=>h.on hw k r s hr hs q,λq=>q.1⟩
theorem uf{m n k:Nat}{w:dA}{c:List Int}(h:∀r s,r<m->s<m->(RA w c n r s↔RA w c k r s)){r:Nat}(hr:r<m):col w c n r=col w c k r:=by
 rw[vk (n:=n),vk (n:=k)];exact ui (m:=m) (λa b e d=>by rw[i7,i7];exact h a b e d) hr
theorem B9{m n:Nat}{w:dA}{b:List Int}:(∀r,r<m->col w b (n+1) r=col w b n r)↔Stl m w b n:=by
 constructor
 ·intro h r s a c q;rw[<- i7]at q ⊢;rw[h r a,h s c,q]
 ·intro h r a;exact(uf (λr s a c=>⟨λq=>h r s a c q,λq=>q.1⟩) a).symm
theorem wU{p q:Nat->Bool}(h:∀x,p x=M->q x=M):∀l:List Nat,(l.filter p).length<=(l.filter q).length/\((l.filter p).length=(l.filter q).length -> ∀x∈l,q x=M->p x=M)
 |[]=>⟨nR1 _,λ_ x b=>by cases b⟩
 |a::l=>by
  obtain⟨h1,h2⟩:=wU h l;cases hp:p a with
  |true=>
   rw[c5 hp,c5 (h a hp),lC1,lC1];refine⟨by lia,λe x b d=>?_⟩;rcases aE.mp b with rfl|b
   ·exact hp
   ·exact h2 (by lia) x b d
  |false=>
   rw[c6 (by rw[hp];decide)];cases d:q a with
   |true=>
    rw[c5 d,lC1];exact⟨by lia,λe=>by lia⟩
   |false=>
    rw[c6 (by rw[d];decide)];refine⟨h1,λe x b c=>?_⟩;rcases aE.mp b with rfl|b
    ·rw[d]at c;cases c
    ·exact h2 e x b c
theorem more{m n:Nat}{w:dA}{a:List Int}(h:¬ Stl m w a n):cnt (col w a n) m<cnt (col w a (n+1)) m:=by
 have c:∀r,isF (col w a n) r->isF (col w a (n+1)) r:=λr d s f e=>d s f (by rw[i7]at e ⊢;exact e.1);obtain⟨h1,h2⟩:=wU (p:=λs=>tf (isF (col w a n) s)) (q:=λs=>tf (isF (col w a (n+1)) s)) (λx b=>oW (c x (xr.mp b))) (af m);refine Nat.lt_of_le_of_ne h1 λe=>h λr s g f q=>?_;have back:∀x,x<m->isF (col w a (n+1)) x->isF (col w a n) x:=λx b d=>xr.mp (h2 e x (aB.mpr b) (oW d))
 -- both have one first place
 have one:∀x,x<m->fs (col w a (n+1)) x=fs (col w a n) x:=λx b=>by
  have i:=pR (col w a (n+1)) x;refine wR ?_ (back _ (by lia) (vf _ x));have:=tY (col w a (n+1)) x;rw[i7]at this ⊢;exact this.1
 rw[<- i7]at q ⊢;rw[<- oy,one r g,one s f,oy];exact q
theorem Bl(k:Nat->Nat)(m:Nat):cnt k m<=m:=by
 unfold cnt;exact aC (cT ..) (by rw[cu];exact nR1 _)
theorem zC{m n:Nat}{w:dA}{a:List Int}(hm:0<m)(h:∀k,k<n -> ¬ Stl m w a k):n<m:=by
 have:∀k,k<=n->k+1<=cnt (col w a k) m:=λk=>by
  induction k with
  |zero=>
   intro _;have:=vm (k:=col w a 0) hm (λs b=>by lia);lia
  |succ k ih=>
   intro c;have h1:=ih (by lia);have h2:=more (h k (by lia));lia
 have h1:=this n (nR1 _);have h2:=Bl (col w a n) m;lia
def iz(m:Nat)(w:dA)(sg:List Int):List Nat:=(af m).map (col w sg m)
theorem Ca{m n:Nat}{w:dA}{sg:List Int}(hw:WebJ m w)(h:Stl m w sg n)(hn:n<=m):(af m).map (col w sg n)=iz m w sg:=by
 refine cH λr e=>?_;refine uf (λa b d c=>?_) (aB.mp e);have:=h.up hw (m-n) a b d c
 rwa [show n+(m-n)=m by lia]at this
theorem Ac{n:Nat}{o:Ob}(h:o.und 0=M):o.sh n=o:=by
 have a:∀{κ:Type} (l:List (κ×D)),D.unds 0 (l.map (·.2))=M->(l.map λp=>(p.1,p.2.sh n))=l:=λl=>by
  induction l with
  |nil=>intro _;rfl
  |cons x l ih=>
   intro h;rw[mP1,D.unds,bA1]at h;rw[mP1,ih h.2,zv h.1]
 cases o with
 |lst xs=>rw[Ob.und]at h;rw[Ob.sh,kW h]
 |dct l=>rw[Ob.und]at h;rw[Ob.sh,a l h]
 |dcT l=>rw[Ob.und]at h;rw[Ob.sh,a l h]
 |dcF l=>rw[Ob.und]at h;rw[Ob.sh,a l h]
 |iset l=>rfl
 |tst l=>rfl
theorem zm{n:Nat}{S:Sto}(h:S.all (Ob.und 0)=M):S.map (Ob.sh n)=S:=by
 have:S.map (Ob.sh n)=S.map id:=cH λo a=>Ac (bA.mp h o a);rw[this,List.map_id]
theorem ES{n:Nat}{f:FN}{ds:List D}{S:Sto}{Q:D×Sto->Prop}(hn:ds.length=n)(c:D.unds 0 ds=M)(h:W (f ds []) λp=>∃k xs,p.1 = .ref k/\p.2[k]?=Z (.lst xs)/\p.2.all (Ob.und 0)=M /\ ∀G j,(S++G)[j]?=Z (.lst xs)->G.all (Ob.und 0)=M->S.length<=j->Q (.ref j,S++G)):W (dy n f ds S) Q:=by
 obtain⟨⟨d,G⟩,e,k,xs,rfl,b,a,q⟩:=h;refine⟨_,oI e hn c O,?_⟩;dsimp only at b a;rw[zm a];exact q G _ (by rw[eD];exact b) a (br _ _)
theorem Ln{S:Sto}(h:S.all (Ob.und 0)=M):S.all (Ob.und S.length)=M:=by
 rw[bA]at *
 exact λo a=>fP (bh _) (h o a)
abbrev sgD(sg:List Int):D:=.tup (sg.map D.int)
theorem hH(a:List Int):(sgD a).und 0=M:=by rw[D.und];exact eR λ_ _=>rfl
abbrev ER(m:Nat)(c:Nat->Nat):List Nat:=(af m).map c
abbrev rZ(m:Nat)(c:Nat->Nat):D:=.tup (nmD (ER m c))
theorem J7{m r:Nat}{c:Nat->Nat}{S:Sto}{Q:D×Sto->Prop}(hr:r<m)(q:Q (.int (c r:Nat),S)):W (dD (rZ m c) (.int r) S) Q:=
 lN (i:=r) (x:=.int (c r:Nat)) (by rw[nmD,gP1,gP1,cj hr];rfl) q
theorem BD{m r:Nat}{a:List Int}{S:Sto}{Q:D×Sto->Prop}(b:a.length=m)(hr:r<m)(q:Q (.int (gu a r),S)):W (dD (sgD a) (.int r) S) Q:=
 lN (i:=r) (x:=.int (gu a r)) (by rw[gP1,gG1 (by lia)];unfold gu;rw[bI,gG1 (by lia)];rfl) q
abbrev Lk:=Nat×Int×List (Nat×Nat)
def rp(x:Lk):D:=.tup [.int (x.1:Nat),.int x.2.1,.tup (x.2.2.map pD)]
theorem Dm(x:Lk):(rp x).und 0=M:=by
 unfold rp;rw[D.und,D.unds,D.unds,D.unds,D.und,eR (λ_ _=>rfl)];rfl
theorem Di{m:Nat}{w:dA}{b:List Int}{c:Nat->Nat}(hw:WebJ m w)(hm:m<=8)(hs:b.length=m):W (gp [webD w,sgD b,rZ m c] []) λp=>∃k,p.1 = .ref k/\p.2[k]?=Z (.lst ((af m).map λr=>rp (lk w b c r)))/\p.2.all (Ob.und 0)=M:=by
 unfold gp;refine jm ?_;unfold sn;refine dS (λr V=>V=[.lst []]/\r=[Z (webD w),Z (sgD b),Z (rZ m c),Z (.ref 0),Y,Y,Y]) ?_ ?_
 ·walk_at"w"
  try exact⟨O,trivial⟩
 rintro r V ⟨rfl,rfl⟩;refine dS (λr V=>∃G h j x6,G.all (Ob.und 0)=M/\V = .lst ((af m).map λr=>rp (lk w b c r))::G/\r=[Z (webD w),Z (sgD b),Z (rZ m c),Z (.ref 0),h,j,x6]) ?_ ?_
 ·unfold eZ;rw[dw];refine oS (xs:=w.map λa=>.tup (a.map pD)) O ?_;refine eH (λi r V=>∃G h j x6,i<=m/\G.all (Ob.und 0)=M/\V = .lst ((af i).map λr=>rp (lk w b c r))::G/\r=[Z (webD w),Z (sgD b),Z (rZ m c),Z (.ref 0),h,j,x6]) _ 0 _ _ ⟨[],_,_,_,by lia,O,O,O⟩ (λ_ _ _ _=>rfl) ?_ ?_
  ·rintro i B o r V ⟨G,h,j,x6,hi,l,rfl,rfl⟩;rw[fV,gP1]at o;obtain⟨z,A,rfl⟩:=oM1.mp o;obtain⟨a,g,rfl⟩:=oM1.mp A;have q:i<m:=by rw[<- hw.len];exact(gE1.mp g).1
   have x:=hw.le i a g;rw[bN]at *
   walk_at"w";unfold lX;refine dS (λr V=>V = .lst ((af i).map λr=>rp (lk w b c r))::(G++[.lst (a.map λe=>pD (Go c e))])/\r=[Z (webD w),Z (sgD b),Z (rZ m c),Z (.ref 0),Z (.int (i:Nat)),Z (.tup (a.map pD)),Z (.tup (a.map λe=>pD (Go c e)))]) ?_ ?_
   ·walk_at"w";rw[kB];refine j6 (f:=pD) (λe=>pD (Go c e)) (λs=>∃t u,s=[t,u,Z (rZ m c)]) O a _ ⟨_,_,O⟩ ?_ ?_
    ·rintro e y s ⟨t,u,rfl⟩;obtain⟨d,v⟩:=bq y;have:=hw.to i d e ⟨a,g,v⟩;rw[pD];walk_at"w";refine J7 this ?_;walk_at"w";exact⟨O,_,_,O⟩
    ·rintro s _;refine⟨dG (by rw[lM1];lia),?_⟩;walk_at"w";refine d5 (xs:=a.map λe=>pD (Go c e)) (by rw[gC1,dF];rfl) ?_
     first|exact⟨rfl,rfl⟩|exact⟨rfl,trivial⟩|rfl
   rintro r V ⟨rfl,rfl⟩;unfold eU;rw[dw];refine gX ?_;walk_at"w";refine⟨0,(af i).map λr=>rp (lk w b c r),O,O,?_⟩;refine J7 q ?_;walk_at"w";refine BD hs q ?_;walk_at"w";refine(ji (n:=0) (xs:=(af i).map λr=>rp (lk w b c r)) O).mpr ⟨dG (by rw[lM1,cu];lia),?_⟩;refine⟨G++[.lst (a.map λe=>pD (Go c e))],_,_,_,by lia,?_,?_,O⟩
   ·rw[cJ,l,bO,Ob.und,eR (λ_ _=>rfl)];rfl
   ·have e:rp (lk w b c i)=D.tup [D.int (c i:Nat),D.int (gu b i),D.tup (a.map fun e=>pD (Go c e))]:=by
     unfold lk;rw[qw g,rp,bt];rfl
    rw[c0,cE,mP1,e];rfl
  ·rintro r V ⟨G,h,j,x6,hi,l,rfl,rfl⟩;rw[fU,lM1,bN,hw.len];exact⟨O,G,_,_,_,l,O,O⟩
 rintro r V ⟨G,h,j,x6,l,rfl,rfl⟩;walk_at"w";refine⟨0,O,O,?_⟩;rw[bO,l,Ob.und,eR (λ_ _=>Dm _)];rfl
def Dl(x:Lk):TK:=.tup [.int (x.1:Nat),.int x.2.1,.tup (x.2.2.map HR)]
theorem EF:∀l:List (Nat×Nat),xY (l.map pD)=Z (l.map HR)
 |[]=>rfl
 |e::l=>by
  rw[mP1,xY,EF l];rfl
theorem EQ:∀l:List (Nat×Nat),TK.depAll (l.map HR)<=2
 |[]=>by simp[TK.depAll]
 |e::l=>by
  have:=EQ l;rw[mP1,TK.depAll];have:(HR e).dep<=2:=by simp[HR,TK.dep,TK.depAll]
  lia
theorem og(x:Lk):iM (rp x)=Z (Dl x):=by
 have e:xY [.int (x.1:Nat),.int x.2.1,.tup (x.2.2.map pD)]=Z [.int (x.1:Nat),.int x.2.1,.tup (x.2.2.map HR)]:=by
  simp only[xY,kD,EF,oP1,oS1]
 unfold rp;rw[iM,e,oS1,ak]
 ·rfl
 ·have:=EQ x.2.2;simp[TK.dep,TK.depAll];lia
theorem Do{x y:Lk}(h:rp x=rp y):x=y:=by
 obtain⟨a,b,l⟩:=x;obtain⟨g,i,l'⟩:=y;unfold rp at h;injection h with h;injection h with h1 h;injection h with h2 h;injection h with c h;injection h1 with h1;injection h2 with h2;injection c with c;have:l=l':=(List.map_inj_right λx y e=>by
  unfold pD at e;injection e with e;injection e with d e;injection e with f e;injection d with d;injection f with f;exact Prod.ext (by lia) (by lia)).mp c
 dsimp only at h1 h2;rw[this,h2,show a=g by lia]
theorem wC{x y:Lk}(h:Dl x=Dl y):x=y:=by
 have h1:=(nj (og x)).1;have h2:=(nj (og y)).1;exact Do (by rw[<- h1,<- h2,h])
def nF(k:Nat->Lk)(i:Nat):List (TK×D):=((af i).filter λf=>tf (isF k f)).map λf=>(Dl (k f),.int (cnt k f:Nat))
theorem nF_len{k:Nat->Lk}{i:Nat}:(nF k i).length=cnt k i:=by unfold nF cnt;rw[lM1]
theorem ri{k:Nat->Lk}{i:Nat}:nF k (i+1)=nF k i++if tf (isF k i)=M then[(Dl (k i),.int (cnt k i:Nat))]else[]:=by
 unfold nF;rw[c0,cV,cE]
 congr 1
 cases h:tf (isF k i)with
 |true=>rw[c5 (by exact h)];rfl
 |false=>rw[c6 (by rw[h];decide)];rfl
theorem rj{k:Nat->Lk}:∀{i r:Nat},fs k r<i->dM (nF k i) (Dl (k r))=Z (.int (cn k r:Nat))
 |0,r,h=>by lia
 |i+1,r,h=>by
  rw[ri,oa];by_cases hi:fs k r<i
  ·rw[rj hi];rfl
  ·have e:fs k r=i:=by lia
   have b:=vf k r;have c:=tY k r;rw[e]at b c;rw[oW b,ak O];have g:dM (nF k i) (Dl (k r))=Y:=by
    refine j0 ?_;rw[cK];intro z;obtain⟨p,j,l⟩:=bQ.mp z;obtain⟨f,d,rfl⟩:=cc.mp j;have a:=aB.mp (aA.mp d).1;have:=wC (of_decide_eq_true l);exact b f a (by rw[c];exact this)
   rw[g,Option.none_or,fM,ak (by rw[c])];unfold cn;rw[e]
theorem Am{k:Nat->Lk}{i:Nat}(h:isF k i):((nF k i).any λp=>decide (p.1=Dl (k i)))=J:=by
 rw[cK];intro z;obtain⟨p,d,b⟩:=bQ.mp z;obtain⟨f,c,rfl⟩:=cc.mp d;have a:=aB.mp (aA.mp c).1;exact h f a (wC (of_decide_eq_true b))
theorem Gj{S:Sto}{n:Nat}{F:List (TK×D)}{d:D}{k:TK}(h:S[n]?=Z (dO F))(hk:iM d=Z k):j3 d (.ref n) S=Z (.bl (!(dM F k).isSome),S):=by
 unfold dO at h;by_cases a:F=[]
 ·subst a;rw[ak O]at h;simp only[j3,h,hk];rfl
 ·rw[aj a]at h;simp only[j3,fA,h,hk,oP1]
theorem K6{S:Sto}{n:Nat}{F:List (TK×D)}(h:S[n]?=Z (dO F)):pQ (.ref n) S=Z (.int (F.length:Nat),S):=by
 unfold dO at h;by_cases a:F=[]
 ·subst a;rw[ak O]at h;simp only[pQ,ox,h];rfl
 ·rw[aj a]at h;simp only[pQ,h]
theorem Gi{m n:Nat}{S:Sto}{k:Nat->Lk}{Q:D×Sto->Prop}(t:S.all (Ob.und 0)=M)(hn:S[n]?=Z (.lst ((af m).map λr=>rp (k r))))(hm:m<=8)(q:Q (rZ m (cn k),S)):W (dy 1 ga [.ref n] S) Q:=by
 refine oJ O O ?_;unfold ga;refine jm ?_;unfold oM;have gn:∀(X:Ob),(S++[X])[n]?=Z (.lst ((af m).map λr=>rp (k r))):=λX=>by rw[gL1 (gE1.mp hn).1];exact hn
 have h:∀(X:Ob),(S++[X])[S.length]?=Z X:=λX=>by rw[dF];rfl
 have st:∀(X ar:Ob),(S++[X]).set S.length ar=S++[ar]:=λX ar=>by rw[cW _ _ (nR1 _),cB];rfl
 refine dS (λr V=>V=S++[dO (nF k 0)]/\r=[Z (.ref n),Z (.ref S.length),Y]) ?_ ?_
 ·have v:dO (nF k 0) = .dct []:=ak O;rw[v]
  ((try walk_at"w");repeat(simp only[iu];try walk_at"w"))
 rintro r V ⟨rfl,rfl⟩;refine dS (λr V=>∃x2,V=S++[dO (nF k m)]/\r=[Z (.ref n),Z (.ref S.length),x2]) ?_ ?_
 ·walk_at"w";refine d5 (gn _) ?_;refine eH (λi r V=>∃x2,i<=m/\V=S++[dO (nF k i)]/\r=[Z (.ref n),Z (.ref S.length),x2]) _ 0 _ _ ⟨_,by lia,O,O⟩ ?_ ?_ ?_
  ·rintro i r V ⟨_,_,rfl,_⟩;exact ff (gn _)
  ·rintro i d g r V ⟨x2,hi,rfl,rfl⟩;dsimp only at g;have a:=(gE1.mp g).1;rw[lM1,cu]at a;rw[gP1,cj a]at g;cases g;rw[bN]at *
   walk_at"w";unfold lf;have p:=Gj (S:=S++[dO (nF k i)]) (d:=rp (k i)) (h _) (og _)
   ((try walk_at"w");repeat(simp only[p];try walk_at"w"))
   by_cases c:isF k i
   ·have b:dM (nF k i) (Dl (k i))=Y:=j0 (Am c);rw[b,ak (by rfl)];have u:=K6 (S:=S++[dO (nF k i)]) (h _)
    ((try walk_at"w");repeat(simp only[u];try walk_at"w"))
    refine vB (F:=nF k i) (h _) (og _) (by rw[nF_len];have:=uh (k:=k) hi;have y:cnt k m<=m:=(by unfold cnt;exact aC (cT ..) (by rw[cu];exact nR1 _));lia) ?_;rw[st];refine⟨_,a,?_,O⟩;rw[ri,oW c,ak O,nF_len];unfold g6;rw[Am c,aj (by decide)]
   ·obtain⟨s,o,l⟩:∃s,s<i/\k s=k i:=Classical.byContradiction λz=>c λs o e=>z ⟨s,o,e⟩;have j:fs k i<i:=bG (by rw[<- oy.mpr l];exact pR k s) o;rw[rj j,aj (by simp)];refine⟨_,a,?_,O⟩;rw[ri,uO c,aj (by decide),aM]
  ·rintro r V ⟨x2,hi,rfl,rfl⟩;rw[lM1,cu,bN];exact⟨O,_,O,O⟩
 rintro r V ⟨x2,rfl,rfl⟩;walk_at"w";refine d5 (gn _) ?_;refine j6 (f:=λr=>rp (k r)) (λr=>D.int (cn k r:Nat)) (λr=>∃x,r=[x,Z (.ref S.length)]) (ff (gn _)) (af m) _ ⟨_,O⟩ ?_ ?_
 ·rintro i hi r ⟨x,rfl⟩;walk_at"w";refine BG (h _) (og _) (rj (by have:=pR k i;have:=aB.mp hi;lia)) ?_;exact⟨O,O,_,O⟩
 ·rintro w _;refine⟨dG (by rw[lM1,cu];lia),?_⟩;walk_at"w";refine d5 (xs:=nmD (ER m (cn k))) (by first|(rw[eD,nmD,bt];rfl)|simp[nmD]) ?_;have:=rJ (d:=rZ m (cn k)) (S:=S) (G:=[dO (nF k m),.lst ((af m).map λr=>D.int (cn k r:Nat))]) (by rw[D.und];exact fy _) (Ln t)
  first|(rw[this];exact q)|(show Q (gc _ _);rw[this];exact q)
theorem A8{S:Sto}{n:Nat}:∀a b:List Nat,A9 (kG S (n+1)) (nmD a) (nmD b)=Z (tf (a=b))
 |[],[]=>by rw[oW O];rfl
 |[],_::_=>by rw[uO (by simp)];rfl
 |_::_,[]=>by rw[uO (by simp)];rfl
 |x::a,y::b=>by
  have c:kG S (n+1) (.int x) (.int y)=Z ((x:Int) == (y:Int)):=rfl;show A9 _ (.int x::nmD a) (.int y::nmD b)=_;rw[A9,c,A8 a b,oS1];refine congrArg Z (xt ?_);rw[bA1,beq_iff_eq,xr,List.cons.injEq];constructor
  ·rintro⟨h1,h2⟩;exact⟨by lia,h2⟩
  ·rintro⟨h1,h2⟩;exact⟨by lia,h2⟩
theorem Hj{S:Sto}{n:Nat}{a b:List Nat}:kG S (n+2) (.tup (nmD a)) (.tup (nmD b))=Z (tf (a=b)):=by
 rw[show n+2=n+1+1 from rfl,kG];simp only[jU,A8 (S:=S) (n:=n) a b];simp
theorem I7{S:Sto}{a b:List Nat}:gNe (.tup (nmD a)) (.tup (nmD b)) S=Z (.bl (!tf (a=b)),S):=by
 show(kG S d4 _ _).map _=_;rw[show d4=58+2 from rfl,Hj];rfl
theorem JO{m:Nat}{c c':Nat->Nat}:ER m c=ER m c' ↔ ∀r,r<m->c r=c' r:=by
 unfold ER;rw[List.map_inj_left];exact⟨λh r a=>h r (aB.mpr a),λh r a=>h r (aB.mp a)⟩
theorem HF{i:Nat}{x:Str}{g:FN}{a:FA}{r:Ev}{S:Sto}{Q:D×Sto->Prop}(h:r[i]?=Z (Z (.fn x)))(q:W (mN g a r S) Q):W (tK i x g a r S) Q:=by
 unfold tK;rw[h];dsimp only;rw[ak O];exact q
theorem wc{m n:Nat}{w:dA}{b:List Int}{c:Nat->Nat}{S:Sto}{x4:Option D}{Q:D×Sto->Prop}(hw:WebJ m w)(hm:m<=8)(hs:b.length=m)(e:S.all (Ob.und 0)=M)(q:∀G,(S++G).all (Ob.und 0)=M->Q (rZ m (cn (lk w b c)),S++G)):W (tK 2 "numbered" (dy 1 ga) (dr (mN (dy 3 gp) (dr (mV 0) (dr (mV 1) (dr (mV 3) dt)))) dt) [Z (webD w),Z (sgD b),Z (.fn "numbered"),Z (rZ m c),x4] S) Q:=by
 refine HF O ?_;simp(implicitDefEqProofs:=J) only[mN,dr,mV,dt,cN,gC1,oS1,dw,dB];refine ES O (by rw[D.unds,ee,D.unds,hH,D.unds,D.und,fy];rfl) ((Di (c:=c) hw hm hs).mono ?_);rintro p ⟨k,h1,h2,h⟩;refine⟨k,_,h1,h2,h,λG j g d f=>?_⟩;have a:(S++G).all (Ob.und 0)=M:=by rw[cJ,e,d];rfl
 exact Gi a g hm (q G a)
theorem xF{m:Nat}{w:dA}{a:List Int}{S:Sto}{Q:D×Sto->Prop}(hw:WebJ m w)(p:0<m)(hm:m<=8)(hs:a.length=m)(q:Q (.tup (nmD (iz m w a)),S)):W (dy 3 iJ [webD w,sgD a,.fn "numbered"] S) Q:=by
 refine iP O (by rw[D.unds,ee,D.unds,hH];rfl) ?_;unfold iJ;refine jm ?_;unfold qc;refine dS (λr V=>V.all (Ob.und 0)=M/\r=[Z (webD w),Z (sgD a),Z (.fn "numbered"),Z (rZ m (col w a 0)),Y]) ?_ ?_
 ·walk_at"w";rw[show webD w = .tup (w.map λd=>.tup (d.map pD))from rfl,kB];refine j6 (f:=λd:List (Nat×Nat)=>D.tup (d.map pD)) (λ_=>.int 0) (λr=>∃x,r=[x]) O w _ ⟨_,O⟩ ?_ ?_
  ·rintro d B r ⟨x,rfl⟩;walk_at"w";exact⟨_,O⟩
  ·rintro u _;refine ⟨dG (by rw [lM1,hw.len];lia),?_⟩;walk_at"w";refine d5 (xs:=w.map fun _=>D.int 0) rfl ?_;have e:(w.map fun _=>D.int 0)=nmD (ER m (col w a 0)):=by
    have h1:(w.map λ_=>D.int 0)=aP m (D.int 0):=by rw[List.map_const',hw.len]
    have h2:nmD (ER m (col w a 0))=aP m (D.int 0):=by
     unfold nmD ER;rw[bt];have:((λi:Nat=>D.int i)∘col w a 0)=λ_=>D.int 0:=rfl;rw[this,List.map_const',cu]
    rw[h1,h2]
   rw[e];refine⟨?_,O⟩;rw[bO,Ob.und,fy];rfl
 rintro r V ⟨o,rfl⟩;refine dS (λr V=>V.all (Ob.und 0)=M/\r=[Z (webD w),Z (sgD a),Z (.fn "numbered"),Z (rZ m (col w a 0)),Z (rZ m (col w a 1))]) ?_ ?_
 ·unfold dL;rw[dw];refine wc (n:=0) hw hm hs o λG t=>?_;exact W.of O ⟨O,t,O⟩
 rintro r V ⟨o,rfl⟩;refine dS (λr V=>r[3]?=Z (Z (.tup (nmD (iz m w a))))) ?_ ?_
 ·refine vO (λk r V=>(∀j,j<k -> ¬ Stl m w a j)/\V.all (Ob.und 0)=M/\r=[Z (webD w),Z (sgD a),Z (.fn "numbered"),Z (rZ m (col w a k)),Z (rZ m (col w a (k+1)))]) 8 ?_ 100000 0 _ _ (by lia) ⟨λj h=>by lia,o,O⟩;rintro k r V ⟨l,o,rfl⟩;unfold mE
  ((try walk_at"w");repeat(simp only[I7];try walk_at"w"))
  have s:=(JO (m:=m) (c:=col w a (k+1)) (c':=col w a k)).trans B9;by_cases b:Stl m w a k
  ·rw[oW (s.mpr b),aj (by decide)];have y:=zC p l;show Z (Z (rZ m (col w a k)))=_;rw[<- Ca hw b (by lia)]
  ·rw [uO (fun h=>b (s.mp h)),if_pos (show (!false)=true from rfl)];have g:∀ j,j<k+1 -> ¬ Stl m w a j:=fun j z=>by
    rcases cZ.mp z with h|rfl
    ·exact l j h
    ·exact b
   have y:=zC p g;refine⟨by lia,?_⟩;unfold mD;refine dS (λu v=>v=V/\u=[Z (webD w),Z (sgD a),Z (.fn "numbered"),Z (rZ m (col w a (k+1))),Z (rZ m (col w a (k+1)))]) ?_ ?_
   ·walk_at"w"
   rintro u v ⟨rfl,rfl⟩;unfold dL;rw[dw];refine wc (n:=0) hw hm hs o λG t=>?_;exact W.of O ⟨O,g,t,O⟩
 rintro r V A;unfold d6;rw[dw];unfold mV;rw[A,dB];exact dB.mpr ⟨by rw[D.und];exact fy _,q⟩
theorem mP{m:Nat}{w:dA}{a:List Int}{S:Sto}{Q:D×Sto->Prop}(hw:WebJ m w)(b:0<m)(hm:m<=8)(hs:a.length=m)(q:Q (.tup (nmD (iz m w a)),S)):W (dy 2 fD [webD w,sgD a] S) Q:=by
 refine iP O (by rw[D.unds,ee,D.unds,hH];rfl) ?_;unfold fD;refine jm ?_;unfold mR;walk_at"w";refine xF hw b hm hs ?_;exact⟨by rw[D.und];exact fy _,q⟩
theorem xM{S:Sto}{x n:Nat}{cs:List Nat}(h:S[n]?=Z (.lst (nmD cs))):fA (.int x) (.ref n) S=Z (.bl (!cs.contains x),S):=by
 simp only[fA,i3,ma,h,dP,oS1,d4,show(60:Nat)=59+1 from rfl,rF,oP1]
def xz(ws cs:List Nat)(b:Bool)(r:Nat):Int:=(if cs.contains r then 1 else 0)+(if(b&&ws.contains r)=M then 2 else 0)
def sgL(m:Nat)(ws cs:List Nat)(b:Bool):List Int:=(af m).map (xz ws cs b)
theorem kX{m:Nat}{ws cs:List Nat}{b:Bool}:(sgL m ws cs b).length=m:=by unfold sgL;rw[lM1,cu]
def stD(ws cs:List Nat):D:=.tup [.tup (nmD ws),.tup (nmD cs)]
theorem nE{ws cs:List Nat}:(stD ws cs).und 0=M:=by unfold stD;rw[D.und,D.unds,D.unds,D.und,D.und,fy,fy];rfl
theorem r6{m:Nat}{w:dA}{ws cs:List Nat}{S:Sto}{Q:D×Sto->Prop}(hw:WebJ m w)(hm:m<=8)(q:Q (sgD (sgL m ws cs J),S)):W (dy 2 eB [webD w,.tup (nmD cs)] S) Q:=by
 refine iP O (by rw[D.unds,ee,D.unds,D.und,fy];rfl) ?_;unfold eB;refine jm ?_;unfold kr
 ((try walk_at"w");repeat(simp only[lv];try walk_at"w"))
 rw[hw.len];refine⟨fX (by lia),?_⟩;rw[lj,Int.toNat_natCast];refine j6 (f:=λi:Nat=>D.int i) (λr=>D.int (xz ws cs J r)) (λr=>∃x,r=[x,Z (.tup (nmD cs))]) O (af m) _ ⟨_,O⟩ ?_ ?_
 ·rintro r b a ⟨x,rfl⟩
  ((try walk_at"w");repeat(simp only[wL];try walk_at"w"))
  unfold xz;cases cs.contains r with
  |true=>exact⟨O,_,O⟩
  |false=>exact⟨O,_,O⟩
 ·rintro a _;refine⟨dG (by rw[lM1,cu];lia),?_⟩;walk_at"w";have e:((af m).map λr=>D.int (xz ws cs J r))=(sgL m ws cs J).map D.int:=by unfold sgL;rw[bt];rfl
  rw[e];refine d5 (xs:=(sgL m ws cs J).map D.int) O ?_;exact⟨hH _,q⟩
theorem BA{m:Nat}{w:dA}{ws cs:List Nat}{S:Sto}{Q:D×Sto->Prop}(hw:WebJ m w)(hm:m<=8)(q:Q (sgD (sgL m ws cs M),S)):W (dy 2 fE [webD w,stD ws cs] S) Q:=by
 refine iP O (by rw[D.unds,ee,D.unds,nE];rfl) ?_;unfold fE;refine jm ?_;unfold mS;refine dS (λr V=>V=[]/\r=[Z (webD w),Z (stD ws cs),Z (.tup (nmD ws)),Z (.tup (nmD cs)),Y]) ?_ ?_
 ·unfold stD;walk_at"w"
 rintro r V ⟨rfl,rfl⟩;refine dS (λr V=>V=[]/\r=[Z (webD w),Z (stD ws cs),Z (.tup (nmD ws)),Z (.tup (nmD cs)),Z (sgD (sgL m ws cs J))]) ?_ ?_
 ·walk_at"w";refine r6 (ws:=ws) hw hm ?_
  first|exact⟨rfl,rfl⟩|exact⟨rfl,trivial⟩|rfl
 rintro r V ⟨rfl,rfl⟩;walk_at"w";refine oS (xs:=(sgL m ws cs J).map D.int) O ?_;have d:sC 0 ((sgL m ws cs J).map D.int)=(af m).map λr=>D.tup [.int (r:Nat),.int (xz ws cs J r)]:=by
  refine bX λi=>?_;rw[fV,gP1,gP1];unfold sgL;rw[gP1];by_cases h:i<m
  ·rw[cj h,bN];rfl
  ·rw[bY (by rw[cu];lia)];rfl
 rw[d];refine j6 (f:=λr:Nat=>D.tup [.int (r:Nat),.int (xz ws cs J r)]) (λr=>D.int (xz ws cs M r)) (λr=>∃a b,r=[a,b,Z (.tup (nmD ws))]) O (af m) _ ⟨_,_,O⟩ ?_ ?_
 ·rintro r g c ⟨a,b,rfl⟩
  ((try walk_at"w");repeat(simp only[wL];try walk_at"w"))
  unfold xz;cases ws.contains r with
  |true=>
   cases cs.contains r with
   |true=>exact⟨O,_,_,O⟩
   |false=>exact⟨O,_,_,O⟩
  |false=>exact⟨O,_,_,O⟩
 ·rintro c _;refine⟨dG (by rw[lM1,cu];lia),?_⟩;walk_at"w";have e:((af m).map λr=>D.int (xz ws cs M r))=(sgL m ws cs M).map D.int:=by unfold sgL;rw[bt];rfl
  rw[e];refine d5 (xs:=(sgL m ws cs M).map D.int) O ?_;exact⟨hH _,q⟩
theorem AF{m:Nat}{w:dA}{ws cs:List Nat}{b:Bool}(hw:WebJ m w)(hm:m<=8):W (fr [webD w,stD ws cs,.bl b] []) λp=>p=(.ref 0,[.lst ((sgL m ws cs b).map D.int)]):=by
 unfold fr;refine jm ?_;unfold lH
 ((try walk_at"w");repeat(simp only[lv];try walk_at"w"))
 rw[hw.len];refine⟨fX (by lia),?_⟩;rw[lj,Int.toNat_natCast];have a:∀(k:Bool) (S:Sto),j8 (.int 2) (.int (if k=M then 1 else 0)) S=Z (.int (if k=M then 2 else 0),S):=λk S=>by cases k<;>rfl
 refine j6 (f:=λi:Nat=>D.int i) (λr=>D.int (xz ws cs b r)) (λr=>∃x,r=[x,Z (stD ws cs),Z (.bl b)]) O (af m) _ ⟨_,O⟩ ?_ ?_
 ·rintro r j h ⟨x,rfl⟩;have d:∀S,dD (stD ws cs) (.int 1) S=Z (.tup (nmD cs),S):=λS=>rfl;have g:∀S,dD (stD ws cs) (.int 0) S=Z (.tup (nmD ws),S):=λS=>rfl;cases b with
  |true=>
   ((try walk_at"w");repeat(simp only[wL,d,g,a];try walk_at"w"))
   unfold xz;exact⟨O,_,O⟩
  |false=>
   have c:∀S:Sto,j8 (.int 2) (.int 0) S=Z (.int 0,S):=λS=>rfl
   ((try walk_at"w");repeat(simp only[wL,d,g,c];try walk_at"w"))
   unfold xz;exact⟨O,_,O⟩
 ·rintro h _;refine⟨dG (by rw[lM1,cu];lia),?_⟩;walk_at"w";have e:((af m).map λr=>D.int (xz ws cs b r))=(sgL m ws cs b).map D.int:=by unfold sgL;rw[bt];rfl
  rw[e]
  try exact⟨O,O⟩
theorem Hb{S:Sto}{x n:Nat}{cs:List Nat}(h:S[n]?=Z (.lst (nmD cs))):m4 (.int x) (.ref n) S=Z (.bl (cs.contains x),S):=by
 simp only[m4,ve,HV,h,dP,oS1,d4,show(60:Nat)=59+1 from rfl,rF,oP1]
abbrev Rms(m:Nat)(l:List Nat):Prop:=(∀x∈l,x<m)/\l.length<=m
theorem zp{o:Ob}{n m:Nat}{wq:Sto}{p:Nat}{r:Ev}{Q:D×Sto->Prop}(ho:Hnd o n)(hn:n<=2^40)(hm:m<=8)(hp:wq[p]? = Z (.lst (nmD (af m))))(A:r[0]? = Z (Z (.ref 0)))(y:r[4]? = Z (Z (.ref (p+1))))(q:∀o' l,Hnd o' (n+8)->Rms m l->Q (.ref (wq.length+1),o'::(wq++[.lst (nmD l)]))):W (eO 1 [0] (gU (mV 4)) (gN 0) (mB (m2 (b2 gEq) (mN (dy 2 dz) (dr (mV 1) (dr (mC (D.int (2))) dt))) (mC (D.int (0))))) (ej (mV 0)) r (o::wq)) Q:=by
 have z:mV 4 r (o::wq)=Z (.ref (p+1),o::wq):=by unfold mV;rw[y]
 have v:∀o:Ob,(o::wq)[p+1]?=Z (.lst (nmD (af m))):=λo=>by rw[gC1];exact hp
 rw[lO,ml,z,dB];refine d5 (v o) ?_;have t:l9 1 [0] r=[Y,Z (.ref 0)]:=by
  simp[l9,A]
 rw[t];refine iw (λi b r S=>∃o' l x,i<=m/\b=nmD l/\(∀x∈l,x<m)/\l.length<=i/\Hnd o' (n+i)/\S=o'::wq/\r=[x,Z (.ref 0)]) _ 0 [] _ _ ⟨o,[],_,by lia,O,λx h=>(by cases h),by simp,ho,O,O⟩ ?_ ?_ ?_
 ·rintro i b r S ⟨o',l,x,_,_,_,_,_,rfl,_⟩;exact ff (v o')
 ·rintro i d s b r S ⟨o',l,x,hi,rfl,j,k,a,rfl,rfl⟩;dsimp only at s;have f:=(gE1.mp s).1;rw[ea,cu]at f;rw[nmD,gP1,cj f]at s;cases s;rw[bN]at *
  walk_at"w";refine gi a (by lia) (by lia) (by lia) λc u g hc=>?_;walk_at"w";split
  ·refine⟨u,l++[i],_,by lia,ll,λx w=>?_,by rw[lA1];simp;lia,g.more (by lia),O,O⟩;rcases aF.mp w with h|h
   ·exact j x h
   ·rw[cm]at h;subst h;exact f
  ·exact⟨u,l,_,by lia,O,j,by lia,g.more (by lia),O,O⟩
 ·rintro xs r S ⟨o',l,x,hi,e,j,k,a,rfl,rfl⟩;rw[cP]at e;subst e;dsimp only at k hi a;rw[ea,cu,bN]at k hi a;refine⟨dG (by dsimp only;rw[ea];lia),?_⟩;exact q o' l (a.more (by lia)) ⟨j,k⟩
theorem Bj{o:Ob}{m:Nat}{wq:Sto}{p k:Nat}{kept rs:List Nat}{r:Ev}{Q:D×Sto->Prop}(hm:m<=8)(y:rs.length=m)(hp:wq[p]? = Z (.lst (nmD (af m))))(hk:wq[k]? = Z (.lst (nmD kept)))(h2:r[2]? = Z (Z (.tup (nmD rs))))(u:r[4]? = Z (Z (.ref (p+1))))(s:r[7]? = Z (Z (.ref (k+1))))(q:∀l,Rms m l->Q (.ref (wq.length+1),o::(wq++[.lst (nmD l)]))):W (eO 1 [2,7] (gU (mV 4)) (gN 0) (mB (m2 (b2 m4) (m2 (b2 dD) (mV 1) (mV 0)) (mV 2))) (ej (mV 0)) r (o::wq)) Q:=by
 have v:mV 4 r (o::wq)=Z (.ref (p+1),o::wq):=by unfold mV;rw[u]
 have n:(o::wq)[p+1]?=Z (.lst (nmD (af m))):=by rw[gC1];exact hp
 have w:(o::wq)[k+1]?=Z (.lst (nmD kept)):=by rw[gC1];exact hk
 rw[lO,ml,v,dB];refine d5 n ?_;have j:l9 1 [2,7] r=[Y,Z (.tup (nmD rs)),Z (.ref (k+1))]:=by
  simp[l9,h2,s]
 rw[j];refine iw (λi a r S=>∃l x,i<=m/\a=nmD l/\(∀x∈l,x<m)/\l.length<=i/\S=o::wq/\r=[x,Z (.tup (nmD rs)),Z (.ref (k+1))]) _ 0 [] _ _ ⟨[],_,by lia,O,λx h=>(by cases h),by simp,O,O⟩ ?_ ?_ ?_
 ·rintro i a r S ⟨l,x,_,_,_,_,rfl,_⟩;exact ff n
 ·rintro i d g a r S ⟨l,x,hi,rfl,c,f,rfl,rfl⟩;dsimp only at g;have b:=(gE1.mp g).1;rw[ea,cu]at b;rw[nmD,gP1,cj b]at g;cases g;rw[bN]at *
  walk_at"w";refine lN (i:=i) (x:=.int (rs.getD i 0:Nat)) (by rw[nmD,gP1,bI,gG1 (by lia)];rfl) ?_
  ((try walk_at"w");repeat(simp only[Hb w];try walk_at"w"))
  split
  ·refine⟨l++[i],_,by lia,ll,λx t=>?_,by rw[lA1];simp;lia,O⟩;rcases aF.mp t with h|h
   ·exact c x h
   ·rw[cm]at h;subst h;exact b
  ·exact⟨l,_,by lia,O,c,by lia,O⟩
 ·rintro xs r S ⟨l,x,hi,e,c,f,rfl,rfl⟩;rw[cP]at e;subst e;dsimp only at f hi;rw[ea,cu,bN]at f hi;refine⟨dG (by dsimp only;rw[ea];lia),?_⟩;exact q l ⟨c,f⟩
structure HX (m N:Nat)(G:Sto)(ks:List Nat):Prop where
 at_:∀k∈ks,∃l,G[k]?=some (.lst (nmD l))/\Rms m l
 up:ks.Pairwise (· < ·)
theorem HX.snoc{m N:Nat}{G i:Sto}{ks:List Nat}{l:List Nat}(h:HX m N G ks)(j:Rms m l):HX m N (G++i++[.lst (nmD l)]) (ks++[(G++i).length]):=by
 refine⟨λk c=>?_,?_⟩
 ·rcases aF.mp c with c|c
  ·obtain⟨f,e,d⟩:=h.at_ k c;have:=(gE1.mp e).1;exact⟨f,by rw[bF,gL1 this];exact e,d⟩
  ·rw[cm]at c;subst c;exact⟨l,by rw[dF];rfl,j⟩
 ·rw[List.pairwise_append];refine⟨h.up,List.pairwise_singleton _ _,λa n b g=>?_⟩;rw[cm]at g;subst g;obtain⟨f,e,_⟩:=h.at_ a n;have:=(gE1.mp e).1;rw[lA1];lia
theorem zn{m n i:Nat}{w:dA}{rs ks:List Nat}{o:Ob}{T G:Sto}{x3 x6 z:Option D}{Q:Fl×Ev×Sto->Prop}(hm:m<=8)(v:rs.length=m)(ho:Hnd o n)(hn:n<=2^39)(h2:HX m T.length G ks)(aq:ks.length<=2)(q:∀o' a g I,Hnd o' (n+20)->HX m T.length a g->g.length=ks.length+1->Q (.nx,[some (.ref 0),some (webD w),some (.tup (nmD rs)),x3,some (.ref (T.length+1)),some (.ref (T.length+2)),x6,I,none,none,none],o'::(T ++ .lst (nmD (List.range m)) :: .lst (g.map fun k=>D.ref (T.length+3+k))::a))):
  W (gm [Z (.ref 0),Z (webD w),Z (.tup (nmD rs)),x3,Z (.ref (T.length+1)),Z (.ref (T.length+2)),x6,z,Y,Y,Y] (o::(T ++ .lst (nmD (af m)) :: .lst (ks.map λk=>D.ref (T.length+3+k))::G))) Q:=by
 generalize K:Ob.lst (nmD (af m))=A;have ao:∀ar,(T++A::ar)[T.length]?=Z (.lst (nmD (af m))):=λar=>by rw[dF,<- K];rfl
 have y:∀(o X:Ob) (ar:Sto),(o::(T++A::X::ar))[T.length+2]?=Z X:=λo X ar=>by rw[gC1,eD];rfl
 have st:∀(o X F:Ob) (ar:Sto),(o::(T++A::X::ar)).set (T.length+2) F=o::(T++A::F::ar):=λo X F ar=>by
  rw[cy,cW _ _ (by lia),show T.length+1-T.length=1 by lia];rfl
 generalize B:Ob.lst (ks.map λk=>D.ref (T.length+3+k))=X at *
 unfold gm eJ;rw[dw];have j:W (mB (m2 (b2 gEq) (mN (dy 2 dz) (dr (mV 0) (dr (mC (D.int (3))) dt))) (mC (D.int (0)))) [Z (.ref 0),Z (webD w),Z (.tup (nmD rs)),x3,Z (.ref (T.length+1)),Z (.ref (T.length+2)),x6,z,Y,Y,Y] (o::(T++A::X::G))) λp=>∃o',Hnd o' (n+1)/\p.2=o'::(T++A::X::G):=by
  walk_at"w";refine gi ho (by lia) (by lia) (by lia) λc H d hc=>?_;walk_at"w";exact⟨H,d,O⟩
 -- the last step of both
 have s:∀(o':Ob) (a:Sto) (l:List Nat) (C:Option D),Hnd o' (n+20)->Rms m l->W (gJ (.ref (T.length+2)) (.ref ((T++A::X::(G++a)).length+1)) (o'::((T++A::X::(G++a))++[.lst (nmD l)]))) λp=>Q (.nx,[Z (.ref 0),Z (webD w),Z (.tup (nmD rs)),x3,Z (.ref (T.length+1)),Z (.ref (T.length+2)),x6,C,Y,Y,Y],p.2):=λo' a l C E h=>by
  have L:o'::((T++A::X::(G++a))++[Ob.lst (nmD l)])=o'::(T++A::X::(G++a++[.lst (nmD l)])):=by simp
  rw[L];refine(ji (xs:=ks.map λk=>D.ref (T.length+3+k)) (by rw[y,B])).mpr ⟨dG (by rw[lM1];lia),?_⟩;rw[st];have:=q o' (G++a++[.lst (nmD l)]) (ks++[(G++a).length]) C E (h2.snoc h) (by rw[lA1];rfl);rw[cE]at this;have el:(T++A::X::(G++a)).length+1=T.length+3+(G++a).length:=by simp;lia
  rw[el,<- K];exact this
 refine j.mono ?_;rintro⟨t,au⟩ ⟨H,d,e⟩;dsimp only at e ⊢;subst e;cases t with
 |true=>
  rw[ak O];unfold eU;rw[dw];refine gX ?_;refine W.of (x:=(.ref (T.length+2),H::(T++A::X::G))) O ?_;refine⟨T.length+2,_,O,by rw[y,<- B],?_⟩;unfold dr;rw[dw];refine zp (p:=T.length) d (by lia) hm (ao _) O O λf l b h=>?_;refine W.of O ?_;have:=s f [] l z (b.more (by lia)) h;rw[aM]at this;exact this.mono λp u=>dB.mpr u
 |false=>
  rw[aj (by decide)];refine dS (λr V=>∃f kept,Hnd f (n+9)/\V=f::(T++A::X::(G++[.lst (nmD kept)]))/\r=[Z (.ref 0),Z (webD w),Z (.tup (nmD rs)),x3,Z (.ref (T.length+1)),Z (.ref (T.length+2)),x6,Z (.ref ((T++A::X::G).length+1)),Y,Y,Y]) ?_ ?_
  ·unfold dL;rw[dw];refine zp (p:=T.length) d (by lia) hm (ao _) O O λf l b h=>?_;refine W.of O ⟨O,f,l,b.more (by lia),by simp,O⟩
  rintro r V ⟨f,kept,b,rfl,rfl⟩;unfold eU;rw[dw];refine gX ?_;refine W.of (x:=(.ref (T.length+2),f::(T++A::X::(G++[.lst (nmD kept)])))) O ?_;refine⟨T.length+2,_,O,by rw[y,<- B],?_⟩;unfold dr;rw[dw];have N:(T++A::X::(G++[Ob.lst (nmD kept)]))[(T++A::X::G).length]?=Z (.lst (nmD kept)):=by
   have:T++A::X::(G++[Ob.lst (nmD kept)])=(T++A::X::G)++[.lst (nmD kept)]:=by simp
   rw[this,dF];rfl
  refine Bj (p:=T.length) (k:=(T++A::X::G).length) hm v (ao _) N O O O λl h=>?_;refine W.of O ?_;exact(s f [.lst (nmD kept)] l _ (b.more (by lia)) h).mono λp u=>dB.mpr u
theorem tV:∀l:List Nat,mJ (nmD l)=Z (l.map λ(r:Nat)=>(r:Int))
 |[]=>rfl
 |x::l=>by
  show mJ (.int x::nmD l)=_;rw[mJ,tV l];rfl
theorem Cd{m n:Nat}{S:Sto}{l:List Nat}(h:S[n]?=Z (.lst (nmD l)))(b:l.length<64)(hr:∀x∈l,x<m):∃ws:List Nat,jI (.ref n) S=Z (.ref S.length,S++[.lst (nmD ws)])/\(∀x∈ws,x<m)/\ws.length=l.length:=by
 have a:=gw (l.map λ(r:Nat)=>(r:Int));refine⟨(jb (l.map λ(r:Nat)=>(r:Int))).map Int.toNat,?_,λx d=>?_,by rw[lM1,a.length_eq,lM1]⟩
 ·unfold jI;rw [gj h];dsimp only;rw [tV];dsimp only;rw [if_pos (by rw [lM1];exact b)];have e:(jb (l.map fun (r:Nat)=>(r:Int))).map D.int=nmD ((jb (l.map fun (r:Nat)=>(r:Int))).map Int.toNat):=by
   rw[nmD,bt];refine cH λi hi=>?_;obtain⟨k,_,rfl⟩:=cc.mp (a.mem_iff.mp hi);rfl
  rw[e]
 ·obtain⟨i,hi,rfl⟩:=cc.mp d;obtain⟨k,c,rfl⟩:=cc.mp (a.mem_iff.mp hi);rw[Int.toNat_natCast];exact hr k c
theorem Cc{m n:Nat}{w:dA}{rs:List Nat}{a:Int}{o:Ob}{T:Sto}{Q:D×Sto->Prop}(hw:WebJ m w)(hm0:0<m)(hm:m<=8)(hrs:rs.length=m)(ho:Hnd o n)(hn:n<=2^38)(hT:T.all (Ob.und (T.length+1))=M)(q:∀ws cs o',Hnd o' (n+50)->(∀x∈ws,x<m)->ws.length<=20->cs.length<=8->Q (stD ws cs,o'::T)):W (dy 4 fw [.ref 0,webD w,.tup (nmD rs),.int a] (o::T)) Q:=by
 refine uk O O hT ?_;unfold fw;refine jm ?_;unfold jh;refine dS (λr V=>V=o::(T++[.lst (nmD (af m))])/\r=[Z (.ref 0),Z (webD w),Z (.tup (nmD rs)),Z (.int a),Z (.ref (T.length+1)),Y,Y,Y,Y,Y,Y]) ?_ ?_
 ·unfold dL;rw[dw];refine EY (k:=m) (S1:=o::T) ?_ (by lia) ?_
  ·unfold fh;simp only[dr,dt,mN,mV,b1,mP1,bi,gC1,cN,oS1,lv,hw.len]
  rw[lj];exact W.of O ⟨O,O,O⟩
 rintro r V ⟨rfl,rfl⟩;refine dS (λr V=>V=o::(T ++ .lst (nmD (af m)) :: .lst (([]:List Nat).map λk=>D.ref (T.length+3+k))::[])/\r=[Z (.ref 0),Z (webD w),Z (.tup (nmD rs)),Z (.int a),Z (.ref (T.length+1)),Z (.ref (T.length+2)),Y,Y,Y,Y,Y]) ?_ ?_
 ·walk_at"w"
  try exact⟨O,trivial⟩
 rintro r V ⟨rfl,rfl⟩;refine dS (λr V=>∃o' G b f B ao x6 y,Hnd o' (n+40)/\b<f/\G[b]?=Z (.lst (nmD B))/\Rms m B/\G[f]?=Z (.lst (nmD ao))/\Rms m ao/\V=o'::(T ++ .lst (nmD (af m)) :: .lst [.ref (T.length+3+b),.ref (T.length+3+f)]::G)/\r=[Z (.ref 0),Z (webD w),Z (.tup (nmD rs)),Z (.int a),Z (.ref (T.length+1)),Z (.ref (T.length+2)),x6,y,Y,Y,Y]) ?_ ?_
 ·unfold eZ;rw[dw,xc];refine W.of (x:=([.int 2],_)) O ?_;refine⟨sj (by decide) (by decide),?_⟩;refine eH (λi r V=>∃o' G ks x6 y,i<=2/\Hnd o' (n+20*i)/\HX m T.length G ks/\ks.length=i/\V=o'::(T ++ .lst (nmD (af m)) :: .lst (ks.map λk=>D.ref (T.length+3+k))::G)/\r=[Z (.ref 0),Z (webD w),Z (.tup (nmD rs)),Z (.int a),Z (.ref (T.length+1)),Z (.ref (T.length+2)),x6,y,Y,Y,Y]) _ 0 _ _ ⟨o,[],[],_,_,by lia,ho,⟨λk hk=>(by cases hk),List.Pairwise.nil⟩,O,O,O⟩ (λ_ _ _ _=>rfl) ?_ ?_
  ·rintro i d C r V ⟨o',G,ks,x6,y,hi,I,h2,u,rfl,rfl⟩;have g:=(gE1.mp C).1;rw[eT]at g;have g:i<2:=g;rw[bN]at *
   refine W.of O ?_;refine zn (i:=0) hm hrs I (by lia) h2 (by lia) λc G2 ks2 x7' s h22 hk2=>?_;exact⟨O,c,G2,ks2,_,_,by lia,s.more (by lia),h22,by lia,O,O⟩
  ·rintro r V ⟨o',G,ks,x6,y,hi,I,h2,u,rfl,rfl⟩;have u:ks.length=2:=u
   match ks,u with
   |[b,f],_=>
    obtain⟨B,R,U⟩:=h2.at_ b (by simp);obtain⟨ao,e2,r2⟩:=h2.at_ f (by simp);have au:=h2.up;rw[ca]at au;exact⟨O,o',G,b,f,B,ao,_,_,I.more (by rw[eT];show n+20*(0+2)<=n+40;lia),au.1 f (by simp),R,U,e2,r2,O,O⟩
 rintro r V ⟨o1,G,b,f,B,ao,x6,y,ho1,P,R,U,e2,r2,rfl,rfl⟩;generalize hA:Ob.lst (nmD (af m))=A;generalize hX:Ob.lst [D.ref (T.length+3+b),D.ref (T.length+3+f)]=X;have gG:∀(o:Ob) (ar:Sto) (k:Nat) (x:Ob),(G++ar)[k]?=Z x->(o::(T++A::X::(G++ar)))[T.length+3+k]?=Z x:=λo ar k x e=>by
  rw[show T.length+3+k=T.length+(k+1+1)+1 by lia,gC1,eD,gC1,gC1];exact e
 have gl:∀{k:Nat} {x:Ob} (ar:Sto),G[k]?=Z x->(G++ar)[k]?=Z x:=λ{k x} ar e=>by rw[gL1 (gE1.mp e).1];exact e
 have gs:∀(o:Ob) (ar:Sto),(o::(T++A::X::ar))[T.length+2]?=Z (.lst [D.ref (T.length+3+b),D.ref (T.length+3+f)]):=λo ar=>by rw[gC1,eD,<- hX];rfl
 -- walkers and chalk
 refine dS (λr V=>∃o' kc F,Hnd o' (n+41)/\b<kc/\F.length<=8/\(G++[.lst [],.lst [.ref (T.length+3+f),.ref (T.length+3+G.length)]])[kc]?=Z (.lst (nmD F))/\V=o'::(T++A::X::(G++[.lst [],.lst [.ref (T.length+3+f),.ref (T.length+3+G.length)]]))/\r=[Z (.ref 0),Z (webD w),Z (.tup (nmD rs)),Z (.int a),Z (.ref (T.length+1)),Z (.ref (T.length+2)),x6,y,Z (.ref (T.length+3+b)),Z (.ref (T.length+3+kc)),Y]) ?_ ?_
 ·have i0:∀ (o:Ob) (ar:Sto),dD (.ref (T.length+2)) (.int 0) (o::(T++A::X::ar))=some (.ref (T.length+3+b),o::(T++A::X::ar)):=fun o ar=>by
   obtain⟨p,e,rfl⟩:=iR (i:=0) (x:=.ref (T.length+3+b)) (Q:=λp=>p=(.ref (T.length+3+b),o::(T++A::X::ar))) (gs o ar) O O;exact e
  have i1:∀(o:Ob) (ar:Sto),dD (.ref (T.length+2)) (.int 1) (o::(T++A::X::ar))=Z (.ref (T.length+3+f),o::(T++A::X::ar)):=λo ar=>by
   obtain⟨p,e,rfl⟩:=iR (i:=1) (x:=.ref (T.length+3+f)) (Q:=λp=>p=(.ref (T.length+3+f),o::(T++A::X::ar))) (gs o ar) O O;exact e
  ((try walk_at"w");repeat(simp only[i0,i1];try walk_at"w"))
  refine gi ho1 (by lia) (by lia) (by lia) λd c s C=>?_;have eL:T.length+(G.length+2)+1=T.length+3+G.length:=by lia
  have eM:T.length+(G.length+2)+2=T.length+3+(G.length+1):=by lia
  have hk1:=(gE1.mp R).1;dsimp only;rw[eL,eM];have g2:=gG c [Ob.lst [],Ob.lst [D.ref (T.length+3+f),D.ref (T.length+3+G.length)]] (G.length+1) _ (by rw[eD];rfl)
  match d,C with
  |0,_=>
   refine iR (i:=0) (x:=.ref (T.length+3+f)) g2 O ?_;exact⟨c,f,ao,s,P,by have:=r2.2;lia,gl _ e2,O,O⟩
  |1,_=>
   refine iR (i:=1) (x:=.ref (T.length+3+G.length)) g2 O ?_;exact⟨c,G.length,[],s,hk1,by simp,by rw[dF];rfl,O,O⟩
 rintro r V ⟨c,kc,F,s,hkc,hlc,ec,rfl,rfl⟩;obtain⟨G2,L⟩:∃G2,G2=G++[Ob.lst [],.lst [.ref (T.length+3+f),.ref (T.length+3+G.length)]]:=⟨_,O⟩;have E:G2[b]?=Z (.lst (nmD B)):=by rw[L];exact gl _ R
 rw[<- L]at ec ⊢;clear gG gl gs;have gW:∀(l:List Nat) (ar:Sto),(c::(T++A::X::(G2.set b (.lst (nmD l))++ar)))[T.length+3+b]?=Z (.lst (nmD l)):=λl ar=>by
  have H:=(gE1.mp E).1;rw[show T.length+3+b=T.length+(b+1+1)+1 by lia,gC1,eD,gC1,gC1,gL1 (by rw[aW];exact H),aH H]
 have v:∀(l:List Nat),(c::(T++A::X::(G2.set b (.lst (nmD l)))))[T.length+3+b]?=Z (.lst (nmD l)):=λl=>by
  have:=gW l []
  rwa [aM]at this
 have gA:∀(ar:Sto),(c::(T++A::ar))[T.length+1]?=Z (.lst (nmD (af m))):=λar=>by rw[gC1,dF,<- hA];rfl
 have wq:∀(l l':List Nat),(c::(T++A::X::(G2.set b (.lst (nmD l))))).set (T.length+3+b) (.lst (nmD l'))=c::(T++A::X::(G2.set b (.lst (nmD l')))):=λl l'=>by
  rw[show T.length+3+b=(T.length+(b+1+1))+1 by lia,cy,cW _ _ (by lia),show T.length+(b+1+1)-T.length=b+1+1 by lia,cy,cy,List.set_set]
 have aq:G2.set b (.lst (nmD B))=G2:=by
  refine bX λj=>?_;by_cases h:b=j
  ·subst h;rw[aH (gE1.mp E).1,E]
  ·rw[gS1 h]
 refine dS (λr V=>∃l x10,(∀x∈l,x<m)/\l.length<=16/\V=c::(T++A::X::(G2.set b (.lst (nmD l))))/\r=[Z (.ref 0),Z (webD w),Z (.tup (nmD rs)),Z (.int a),Z (.ref (T.length+1)),Z (.ref (T.length+2)),x6,y,Z (.ref (T.length+3+b)),Z (.ref (T.length+3+kc)),x10]) ?_ ?_
 ·walk_at"w";refine d5 (gA _) ?_;refine eH (λi r V=>∃l x10,i<=m/\(∀x∈l,x<m)/\l.length<=m+i/\V=c::(T++A::X::(G2.set b (.lst (nmD l))))/\r=[Z (.ref 0),Z (webD w),Z (.tup (nmD rs)),Z (.int a),Z (.ref (T.length+1)),Z (.ref (T.length+2)),x6,y,Z (.ref (T.length+3+b)),Z (.ref (T.length+3+kc)),x10]) _ 0 _ _ ⟨B,_,by lia,U.1,by have:=U.2;lia,by rw[aq],O⟩ ?_ ?_ ?_
  ·rintro i r V ⟨l,x10,_,_,_,rfl,_⟩;exact ff (gA _)
  ·rintro i d C r V ⟨l,x10,hi,K,H,rfl,rfl⟩;dsimp only at C;have g:=(gE1.mp C).1;rw[ea,cu]at g;rw[nmD,gP1,cj g]at C;cases C;rw[bN]at *
   have z:∀S,vc (.int a) (.int m) S=Z (.int (if(m:Int)<a then(m:Int)else a),S):=λS=>rfl;refine W.of O ?_;unfold im eJ;rw[dw];have N:W (rn (mB (m2 (b2 gLt) (mN (b1 dV) (dr (mV 8) dt)) (mN (b2 vc) (dr (mV 3) (dr (mN (b1 dV) (dr (mV 1) dt)) dt))))) (mB (m2 (b2 fA) (mV 10) (mV 8))) [Z (.ref 0),Z (webD w),Z (.tup (nmD rs)),Z (.int a),Z (.ref (T.length+1)),Z (.ref (T.length+2)),x6,y,Z (.ref (T.length+3+b)),Z (.ref (T.length+3+kc)),Z (.int (i:Nat))] (c::(T++A::X::(G2.set b (.lst (nmD l)))))) λp=>p.2=c::(T++A::X::(G2.set b (.lst (nmD l)))):=by
    walk_at"w";refine d5 (v l) ?_
    ((try walk_at"w");repeat(simp only[lv];try walk_at"w"))
    rw[hw.len];generalize (if(m:Int)<a then(m:Int)else a)=mn at z
    ((try walk_at"w");repeat(simp only[z,xM (v l)];try walk_at"w"))
    split<;>trivial
   refine N.mono ?_;rintro⟨t,S1⟩ e;dsimp only at e ⊢;subst e;cases t with
   |true=>
    rw[ak O];unfold eU;rw[dw];refine gX ?_;walk_at"w";refine⟨T.length+3+b,nmD l,O,v l,?_⟩;refine(ji (v l)).mpr ⟨dG (by rw[ea];lia),?_⟩;rw[ll,wq];refine⟨l++[i],_,by lia,λx hx=>?_,by rw[lA1];simp;lia,O,O⟩;rcases aF.mp hx with h|h
    ·exact K x h
    ·rw[cm]at h;subst h;exact g
   |false=>
    rw[aj (by decide)];exact W.of O ⟨O,l,_,by lia,K,by lia,O,O⟩
  ·rintro r V ⟨l,x10,hi,K,H,rfl,rfl⟩;dsimp only at H;rw[ea,cu,bN]at H;exact⟨O,l,_,K,by lia,O,O⟩
 rintro r V ⟨l,x10,K,H,rfl,rfl⟩;obtain⟨ws,es,hws,hwl⟩:=Cd (m:=m) (v l) (by lia) K;have gc_:∀ar,(c::(T++A::X::(G2.set b (.lst (nmD l))++ar)))[T.length+3+kc]?=Z (.lst (nmD F)):=λar=>by
  have u:=(gE1.mp ec).1;rw[show T.length+3+kc=T.length+(kc+1+1)+1 by lia,gC1,eD,gC1,gC1,gL1 (by rw[aW];exact u),gS1 (by lia)];exact ec
 ((try walk_at"w");repeat(simp only[es];try walk_at"w"))
 have gws:(c::(T++A::X::(G2.set b (.lst (nmD l))++[Ob.lst (nmD ws)])))[T.length+3+G2.length]?=Z (.lst (nmD ws)):=by
  have hgl:(G2.set b (.lst (nmD l))).length=G2.length:=aW ..
  rw[show T.length+3+G2.length=T.length+(G2.length+1+1)+1 by lia,gC1,eD,gC1,gC1,<- hgl,dF];rfl
 refine d5 (xs:=nmD ws) (by rw[<- gws];congr 1;simp;try lia) ?_;refine d5 (xs:=nmD F) (gc_ _) ?_;walk_at"w";exact⟨stD ws F,c,A::X::(G2.set b (.lst (nmD l))++[.lst (nmD ws)]),O,nE,s.und,q ws F c (s.more (by lia)) hws (by lia) hlc⟩
theorem rY:∀(ns acc:List Int),acc.Nodup->((ns.foldl step_dedup acc).length<=acc.length+ns.length/\((ns.foldl step_dedup acc).length=acc.length+ns.length↔(acc++ns).Nodup))
 |[],acc,h=>by simp[h]
 |n::ns,acc,h=>by
  rw[b6];by_cases c:n∈acc
  ·have e:step_dedup acc n=acc:=by
    unfold step_dedup;rw[ak (bQ.mpr ⟨n,c,by simp⟩)]
   rw[e];obtain⟨h1,h2⟩:=rY ns acc h;rw[lC1];refine⟨by lia,⟨λz=>by lia,λz=>?_⟩⟩;rw[bw]at z;exact(z.2.2 n c n mS1 O).elim
  ·have e:step_dedup acc n=acc++[n]:=by
    unfold step_dedup;rw[aj (by rw[bQ];rintro⟨x,g,d⟩;exact c (by rw[<- beq_iff_eq.mp d];exact g))]
   rw[e];have hnd:(acc++[n]).Nodup:=by
    rw[bw];exact⟨h,by simp,λa i b f z=>by rw[cm]at f;subst f;subst z;exact c i⟩
   obtain⟨h1,h2⟩:=rY ns (acc++[n]) hnd;rw[lA1,aY,bF,List.singleton_append]at *
   rw[lC1];refine⟨by lia,?_⟩;rw[<- h2];constructor<;>intro z<;>lia
theorem yV{rs:List Nat}:(rs.map λ(r:Nat)=>(r:Int)).Nodup↔rs.Nodup:=by
 unfold List.Nodup;rw[List.pairwise_map];exact⟨λh=>h.imp λz e=>z (by rw[e]),λh=>h.imp λz e=>z (by lia)⟩
theorem yW{rs:List Nat}{S:Sto}{Q:D×Sto->Prop}(a:rs.length<=100)(q:Q (.bl (tf rs.Nodup),S)):W (dy 1 eN [.tup (nmD rs)] S) Q:=by
 refine iP O (by rw[D.unds,D.und,fy];rfl) ?_;unfold eN;refine jm ?_;unfold i9;have e:g8 (.tup (nmD rs)) []=Z (.ref 0,[.iset (ddI (rs.map λ(r:Nat)=>(r:Int)))]):=by
  unfold g8;rw[jU];dsimp only;rw[DA,oS1,ak (by rw[lM1];unfold scanBound;lia)];rfl
 ((try walk_at"w");repeat(simp only[e];try walk_at"w"))
 refine su O ?_;walk_at"w";refine⟨O,?_⟩;have:((((ddI (rs.map λ(r:Nat)=>(r:Int))).length:Nat):Int) == (((nmD rs).length:Nat):Int))=tf rs.Nodup:=xt (by
  have:=(rY (rs.map λ(r:Nat)=>(r:Int)) [] bp).2;rw[bb,bN,lM1,cP,yV]at this;rw[beq_iff_eq,ea,<- this];unfold ddI;lia)
 rw[this];exact q
theorem ls{c:List (Nat×List D)}{g:FG}{b:FS}{Q:Fl×Ev×Sto->Prop}(I:Nat->Ev->Sto->Prop):∀ (items:List D) (k:Nat) (r:Ev) (S:Sto),I k r S ->
  (∀i r S,I i r S->pc S c=M) ->
  (∀i d,items[i]?=Z d -> ∀r S,I (k+i) r S->W (g d r S) λp=>W (b p.1 p.2) λq=>(q.1 = .nx/\I (k+i+1) q.2.1 q.2.2) \/ ∃v,q.1 = .rt v/\Q (.rt v,q.2)) ->
  (∀r S,I (k+items.length) r S->Q (.nx,r,S))->W (jf c g b items r S) Q:=by
 intro items
 induction items with
 |nil=>intro k r S hi a _ j;rw[jf];dsimp only;rw[ak (a _ _ _ hi),dB];exact j r S (by simpa using hi)
 |cons d ds ih=>
  intro k r S hi a l j;rw[jf];dsimp only;rw[ak (a _ _ _ hi),dw];obtain⟨p,m,⟨f,u,o⟩,s,h⟩:=l 0 d O r S (by simpa using hi);refine⟨p,m,?_⟩;dsimp only;rw[dw];refine⟨_,s,?_⟩;dsimp only at h ⊢;rcases h with⟨rfl,e⟩|⟨v,rfl,t⟩
  ·exact ih (k+1) u o e a (fun i d n r S e=>by
    have:=l (i+1) d n r S (by rw[show k+(i+1)=k+1+i by lia];exact e);rw[show k+(i+1)+1=k+1+i+1 by lia]at this;exact this) λr S e=>j r S (by rw[lC1,show k+(ds.length+1)=k+1+ds.length by lia];exact e)
  ·exact dB.mpr t
theorem Ep{a b:FS}{r:Ev}{S:Sto}{Q:Fl×Ev×Sto->Prop}(h:W (a r S) λp=>(p.1 = .nx/\W (b p.2.1 p.2.2) Q) \/ ∃v,p.1 = .rt v/\Q (.rt v,p.2)):W (dH a b r S) Q:=by
 obtain⟨⟨f,d,c⟩,e,h⟩:=h;unfold dH;rw[e];dsimp only at h;rcases h with⟨rfl,h⟩|⟨v,rfl,h⟩
 ·exact h
 ·exact dB.mpr h
theorem kA{a b:FS}{r:Ev}{S:Sto}{Q:Fl×Ev×Sto->Prop}(h:W (a r S) λp=>match p.1 with | .rt d=>Q (.rt d,p.2)|_=>False):W (dH a b r S) Q:=by
 refine Ep (h.mono ?_);rintro⟨f,p⟩ q;cases f with
 |rt d=>exact .inr ⟨d,O,q⟩
 |_=>cases q
theorem Hc{c:FT}{m:FE}{b:FS}{r:Ev}{S:Sto}{Q:Fl×Ev×Sto->Prop}(C:Bool×Sto->Prop)(h1:W (c r S) C)(h2:∀V,C (M,V)->W (m r V) λp=>Q (.rt p.1,r,p.2))(d:∀V,C (J,V)->W (b r V) Q):W (dH (eJ c (d6 m) jk) b r S) Q:=by
 obtain⟨⟨t,V⟩,e,a⟩:=h1;unfold dH eJ;simp only[e,oS1];cases t with
 |true=>
  rw[ak O];unfold d6;rw[dw,dw];exact(h2 V a).mono λp f=>dB.mpr (dB.mpr f)
 |false=>
  rw[aj (by decide)];exact d V a
theorem fu{T:Ty}{m:FE}{r:Ev}{S:Sto}{Q:D×Sto->Prop}:W (iK T m r S) Q↔W (m r S) λp=>W (jF p.2 T p.1) λb=>Q (.bl b,p.2):=by
 unfold iK;rw[dw];simp only[kw]
theorem AU{S:Sto}{T:Ty}{xs:List D}:jF S T (.tup xs)=Z (decide (T = .tuple)):=rfl
theorem AV{S:Sto}{T:Ty}{i:Int}:jF S T (.int i)=Z (decide (T = .int)):=rfl
theorem JZ{m:FA}{r:Ev}{S:Sto}{xs ys:List D}{Q:yx×Sto->Prop}(hm:m r S=Z ([.tup xs,.tup ys],S))(q:Q (⟨uD xs ys,[]⟩,S)):W (Jz m r S) Q:=by
 refine W.of ?_ q;unfold Jz;rw[hm];rfl
def cw(cl ws:List Nat)(i:Nat):Nat:=cl.getD (ws.getD i 0) 0
def alD(i j:Nat)(cl:List Nat):D:=.tup [.str "alike",.int (i:Nat),.int (j:Nat),.tup (nmD cl)]
inductive Al (cl ws:List Nat):D->Prop
 |yes (i j:Nat) (h1:i<j) (h2:j<ws.length) (h3:cw cl ws i=cw cl ws j) (h4:∀i' j',i'<j'->j'<ws.length->(i'<i\/(i'=i/\j'<j))->cw cl ws i'≠cw cl ws j'):Al cl ws (alD i j cl)
 |no (h:∀i j,i<j->j<ws.length->cw cl ws i≠cw cl ws j):Al cl ws .non
theorem Al.und{a ws:List Nat}{d:D}(h:Al a ws d):d.und 0=M:=by
 cases h with
 |no _=>rfl
 |yes i j _ _ _ _=>unfold alD;rw[D.und,D.unds,D.unds,D.unds,D.unds,D.und,D.und,D.und,D.und,fy];rfl
theorem BI{rs:List Nat}{i:Nat}{S:Sto}{Q:D×Sto->Prop}(hi:i<rs.length)(q:Q (.int (rs.getD i 0:Nat),S)):W (dD (.tup (nmD rs)) (.int i) S) Q:=
 lN (i:=i) (x:=.int (rs.getD i 0:Nat)) (by rw[nmD,gP1,bI,gG1 hi];rfl) q
theorem j1{m i:Nat}{rs:List Nat}(hm:0<m)(h:∀x∈rs,x<m):rs.getD i 0<m:=by
 rw[bI];cases e:rs[i]? with
 |none=>exact hm
 |some x=>exact h x (gM1 e)
theorem oH{m:Nat}{w:dA}{a:List Int}:(iz m w a).length=m:=by unfold iz;rw[lM1,cu]
theorem HA{a b:Nat}:((a:Int) == (b:Int))=tf (a=b):=xt (by rw[beq_iff_eq];lia)
theorem Eb{m:Nat}{w:dA}{ws cs:List Nat}{S:Sto}{Q:D×Sto->Prop}(hw:WebJ m w)(l:0<m)(hm:m<=8)(o:∀x∈ws,x<m)(z:ws.length<=20)(q:∀d,Al (iz m w (sgL m ws cs J)) ws d->Q (d,S)):W (dy 2 lr [webD w,stD ws cs] S) Q:=by
 refine iP O (by rw[D.unds,ee,D.unds,nE];rfl) ?_;unfold lr;refine jm ?_;unfold w9;generalize t:iz m w (sgL m ws cs J)=cl at *
 have f:cl.length=m:=by rw[<- t];exact oH
 refine dS (λr V=>V=[]/\r=[Z (webD w),Z (stD ws cs),Z (.tup (nmD ws)),Z (.tup (nmD cs)),Y,Y,Y]) ?_ ?_
 ·unfold stD;walk_at"w"
 rintro r V ⟨rfl,rfl⟩;refine dS (λr V=>V=[]/\r=[Z (webD w),Z (stD ws cs),Z (.tup (nmD ws)),Z (.tup (nmD cs)),Z (.tup (nmD cl)),Y,Y]) ?_ ?_
 ·walk_at"w";refine r6 (ws:=ws) hw hm ?_;walk_at"w";refine mP hw l hm kX ?_;rw[t]
  first|exact⟨rfl,rfl⟩|exact⟨rfl,trivial⟩|rfl
 rintro r V ⟨rfl,rfl⟩;refine Ep ?_;walk_at"w";rw[ea];refine⟨fX (by lia),?_⟩;rw[Int.toNat_natCast];refine ls (λi r V=>∃y x6,i<=ws.length/\(∀c a,c<a->a<ws.length->c<i->cw cl ws c≠cw cl ws a)/\V=[]/\r=[Z (webD w),Z (stD ws cs),Z (.tup (nmD ws)),Z (.tup (nmD cs)),Z (.tup (nmD cl)),y,x6]) _ 0 _ _ ⟨_,_,by lia,λc a _ _ h=>by lia,O,O⟩ (λ_ _ _ _=>rfl) ?_ ?_
 ·rintro i d g r V ⟨y,x6,hi,b,rfl,rfl⟩;have p:=(gE1.mp g).1;rw[eT]at p;rw[lj,gP1,cj p]at g;cases g;rw[bN]at *
  walk_at"w";unfold pA;unfold eZ;rw[dw];walk_at"w";rw[ea];refine⟨sj (by lia) (by lia),fX (by lia),?_⟩;have A:gH ((i:Int)+1) (((ws.length:Nat):Int)-((i:Int)+1)).toNat=(af (ws.length-(i+1))).map λk:Nat=>D.int ((i+1+k:Nat):Int):=by
   rw[nf,show(((ws.length:Nat):Int)-((i:Int)+1)).toNat=ws.length-(i+1) by lia];refine cH λk _=>?_
   push_cast;rfl
  rw[A];refine ls (λk r V=>∃x6,(∀a,i<a->a<i+1+k->cw cl ws i≠cw cl ws a)/\V=[]/\r=[Z (webD w),Z (stD ws cs),Z (.tup (nmD ws)),Z (.tup (nmD cs)),Z (.tup (nmD cl)),Z (.int (i:Nat)),x6]) _ 0 _ _ ⟨_,λa h h'=>by lia,O,O⟩ (λ_ _ _ _=>rfl) ?_ ?_
  ·rintro k d g r V ⟨x6,u,rfl,rfl⟩;have s:=(gE1.mp g).1;rw[lM1,cu]at s;rw[gP1,cj s]at g;cases g;rw[bN]at *
   walk_at"w";unfold pB;walk_at"w";refine BI (by lia) ?_;refine BI (by rw[f];exact j1 l o) ?_;refine BI (by lia) ?_;refine BI (by rw[f];exact j1 l o) ?_;walk_at"w";rw[show((((cl.getD (ws.getD i 0) 0:Nat):Int) == ((cl.getD (ws.getD (i+1+k) 0) 0:Nat):Int)))=tf (cw cl ws i=cw cl ws (i+1+k))from HA];by_cases v:cw cl ws i=cw cl ws (i+1+k)
   ·rw [oW v];walk_at"w";have e:Al cl ws (alD i (i+1+k) cl):=.yes i (i+1+k) (by lia) (by lia) v fun c a h1 h2 n=>by
     rcases n with n|⟨rfl,n⟩
     ·exact b c a h1 h2 n
     ·exact u a h1 n
    exact .inr ⟨_,O,.inr ⟨_,O,.inr ⟨_,O,e.und,q _ e⟩⟩⟩
   ·rw[uO v];walk_at"w";refine .inl ⟨_,λa h1 h2=>?_,O⟩;rcases(show a<i+1+k\/a=i+1+k by lia)with h|rfl
    ·exact u a h1 h
    ·exact v
  ·rintro r V ⟨x6,u,rfl,rfl⟩;rw[lM1,cu,bN]at u;refine .inl ⟨O,_,_,by lia,λc a h1 h2 n=>?_,O,O⟩;rcases(show c<i\/c=i by lia)with h|rfl
   ·exact b c a h1 h2 h
   ·exact u a h1 (by lia)
 ·rintro r V ⟨y,x6,hi,b,rfl,rfl⟩;rw[eT,bN]at b;refine .inl ⟨O,?_⟩
  try walk_at"w"
  have e:Al cl ws .non:=.no λi j h1 h2=>b i j h1 h2 (by lia);exact⟨O,q _ e⟩
def Lh(cl:List Nat):D:=.tup [.str "colours",.tup (nmD cl)]
theorem Ho{a:List Nat}:(Lh a).und 0=M:=by unfold Lh;rw[D.und,D.unds,D.unds,D.und,D.und,fy];rfl
inductive Nv (m:Nat)(w:dA)(ws cs:List Nat)(b:Bool):D->Prop
 |co (h:¬ (iz m w (sgL m ws cs true)).Nodup):Nv m w ws cs b (Lh (iz m w (sgL m ws cs true)))
 |al (d:D) (h:(iz m w (sgL m ws cs true)).Nodup) (hb:b=true) (hd:Al (iz m w (sgL m ws cs false)) ws d):Nv m w ws cs b d
 |no (h:(iz m w (sgL m ws cs true)).Nodup) (hb:b=false):Nv m w ws cs b .non
theorem CZ{m:Nat}{w:dA}{ws cs:List Nat}{b:Bool}{S:Sto}{Q:D×Sto->Prop}(hw:WebJ m w)(c:0<m)(hm:m<=8)(g:∀x∈ws,x<m)(h:ws.length<=20)(q:∀d,Nv m w ws cs b d->Q (d,S)):W (dy 3 lp [webD w,stD ws cs,.bl b] S) Q:=by
 refine iP O (by rw[D.unds,ee,D.unds,nE];rfl) ?_;unfold lp;refine jm ?_;unfold w8;refine dS (λr V=>V=[]/\r=[Z (webD w),Z (stD ws cs),Z (.bl b),Z (.tup (nmD (iz m w (sgL m ws cs M))))]) ?_ ?_
 ·walk_at"w";refine BA hw hm ?_;walk_at"w";refine mP hw c hm kX ?_
  first|exact⟨rfl,rfl⟩|exact⟨rfl,trivial⟩|rfl
 rintro r V ⟨rfl,rfl⟩;have j:(iz m w (sgL m ws cs M)).length=m:=oH;refine Hc (λt=>t=(!tf (iz m w (sgL m ws cs M)).Nodup,[])) ?_ (λV e=>?_) λV e=>?_
 ·walk_at"w";refine yW (by lia) ?_;walk_at"w"
 ·injection e with a i;subst i;have f:¬ (iz m w (sgL m ws cs M)).Nodup:=λz=>by rw[oW z]at a;cases a
  walk_at"w";exact⟨Ho,q _ (.co f)⟩
 ·injection e with a i;subst i;have f:(iz m w (sgL m ws cs M)).Nodup:=Classical.byContradiction λz=>by rw[uO z]at a;cases a
  cases b with
  |true=>
   walk_at"w";refine Eb (cs:=cs) hw c hm g h λd k=>?_;exact⟨k.und,q d (.al d f O k)⟩
  |false=>
   walk_at"w";exact⟨O,q _ (.no f O)⟩
theorem Bh(xs:List Int)(x:Int):ddI (xs++[x])=step_dedup (ddI xs) x:=by unfold ddI;rw[List.foldl_append];rfl
theorem w1{y:Int}:∀(xs a:List Int),y∈xs.foldl step_dedup a↔y∈a\/y∈xs
 |[],a=>by simp
 |x::xs,a=>by
  rw[b6,w1 xs];unfold step_dedup;split
  ·rename_i h;obtain⟨z,b,e⟩:=bQ.mp h;have e:=beq_iff_eq.mp e;subst e;rw[aE];exact⟨λh=>h.elim .inl λh=>.inr (.inr h),λh=>h.elim .inl λh=>h.elim (λe=>.inl (e ▸ b)) .inr⟩
  ·rw[aF,cm,aE,or_assoc]
theorem wZ{y:TK}:∀(xs a:List TK),y∈xs.foldl j9 a↔y∈a\/y∈xs
 |[],a=>by simp
 |x::xs,a=>by
  rw[b6,wZ xs];unfold j9;split
  ·rename_i h;rw[aE];exact⟨λh=>h.elim .inl λh=>.inr (.inr h),λq=>q.elim .inl λq=>q.elim (λe=>.inl (e ▸ h)) .inr⟩
  ·rw[aF,cm,aE,or_assoc]
theorem DW(xs:List Int)(x:Int):(ddI (xs++[x])).length=(ddI xs).length+if x∈xs then 0 else 1:=by
 rw[Bh];unfold step_dedup;have a:x∈ddI xs↔x∈xs:=by unfold ddI;rw[w1];simp
 by_cases h:x∈xs
 ·rw[ak h,ak (bQ.mpr ⟨x,a.mpr h,by simp⟩)];rfl
 ·rw[aj h,aj λz=>?_,lA1];rfl;obtain⟨y,b,e⟩:=bQ.mp z;have e:=beq_iff_eq.mp e;subst e;exact h (a.mp b)
theorem DV(xs:List TK)(x:TK):(ddK (xs++[x])).length=(ddK xs).length+if x∈xs then 0 else 1:=by
 have e:ddK (xs++[x])=j9 (ddK xs) x:=by unfold ddK;rw[List.foldl_append];rfl
 rw[e];unfold j9;have a:x∈ddK xs↔x∈xs:=by unfold ddK;rw[wZ];simp
 by_cases h:x∈xs
 ·rw[ak h,ak (a.mpr h)];rfl
 ·rw[aj h,aj λz=>h (a.mp z),lA1];rfl
theorem l0{α:Type}{f:Nat->α}{x:α}{i:Nat}:x∈(af i).map f ↔ ∃j,j<i/\f j=x:=by
 rw[cc];exact⟨λ⟨j,h,e⟩=>⟨j,aB.mp h,e⟩,λ⟨j,h,e⟩=>⟨j,aB.mpr h,e⟩⟩
theorem xb{f:Nat->TK}{g:Nat->Int}(h:∀ i j,f i=f j->g i=g j):∀ m:Nat,(ddI ((List.range m).map g)).length<=(ddK ((List.range m).map f)).length /\
  ((ddK ((af m).map f)).length=(ddI ((af m).map g)).length ↔ ∀i,i<m->(∃j,j<i/\g j=g i) -> ∃j,j<i/\f j=f i)
 |0=>⟨nR1 _,λ_ i hi=>absurd hi (bv _),λ_=>rfl⟩
 |m + 1=>by
  obtain⟨h1,h2⟩:=xb h m;rw[c0,cE,cE,List.map_singleton,List.map_singleton,DW,DV];by_cases b:f m∈(af m).map f
  ·have a:g m∈(List.range m).map g:=by
    obtain⟨j,d,e⟩:=l0.mp b;exact l0.mpr ⟨j,d,h _ _ e⟩
   rw[ak b,ak a];refine⟨h1,h2.trans ⟨λq i hi c=>?_,λq i hi=>q i (by lia)⟩⟩;rcases bT i m with z|z
   ·exact q i z c
   ·have:i=m:=by lia
    subst this;exact l0.mp b
  ·rw[aj b];by_cases a:g m∈(af m).map g
   ·rw[ak a];refine⟨by lia,λq=>absurd q (by lia),λq=>?_⟩;exact absurd (l0.mpr (q m (bB m) (l0.mp a))) b
   ·rw[aj a];refine⟨by lia,⟨λq i hi c=>?_,λq=>?_⟩⟩
    ·rcases bT i m with z|z
     ·exact h2.mp (by lia) i z c
     ·have:i=m:=by lia
      subst this;exact absurd (l0.mpr c) a
    ·rw[h2.mpr λi hi=>q i (by lia)]
theorem vh{α β:Type}{f:Nat->α}{g:Nat->β}{m:Nat}(h:∀i j,f i=f j->g i=g j):(∀i,i<m->(∃j,j<i/\g j=g i) -> ∃j,j<i/\f j=f i) ↔ ∀i j,i<m->j<m->g i=g j->f i=f j:=by
 constructor
 ·intro q;have c:∀ n i,i<n->i<m -> ∀ j,j<i->g j=g i->f j=f i:=by
   intro n
   induction n with
   |zero=>intro i hi;exact absurd hi (bv _)
   |succ n ih=>
    intro i hi d j b e;obtain⟨k,l,a⟩:=q i d ⟨j,b,e⟩;rcases cD k j with z|z|z
    ·exact(ih j (by lia) (by lia) k z ((h _ _ a).trans e.symm)).symm.trans a
    ·rw[<- z];exact a
    ·exact(ih k (by lia) (by lia) j z (e.trans (h _ _ a).symm)).trans a
  intro i j hi b e;rcases cD i j with z|z|z
  ·exact c (j+1) j (by lia) b i z e
  ·rw[z]
  ·exact(c (i+1) i (by lia) hi j z e.symm).symm
 ·rintro q i hi ⟨j,b,e⟩;exact⟨j,b,q j i (by lia) hi e⟩
abbrev HQ:=Int×Int×List (Int×Nat)
def zD(e:Int×Nat):D:=.tup [.int e.1,.int (e.2:Nat)]
def zT(e:Int×Nat):TK:=.tup [.int e.1,.int (e.2:Nat)]
def BP(ts:List Int)(e:Nat×Nat):Int×Nat:=(gu ts e.1,e.2)
def lQ(w:dA)(sg ts:List Int)(r:Nat):HQ:=(gu ts r,gu sg r,(fv w r).map (BP ts))
def lu(x:HQ):D:=.tup [.int x.1,.int x.2.1,.tup (x.2.2.map zD)]
def mY(x:HQ):TK:=.tup [.int x.1,.int x.2.1,.tup (x.2.2.map zT)]
theorem Dk(x:HQ):(lu x).und 0=M:=by
 unfold lu;rw[D.und,D.unds,D.unds,D.unds,D.und,Mi.eR (λ_ _=>rfl)];rfl
theorem EE:∀l:List (Int×Nat),xY (l.map zD)=Z (l.map zT)
 |[]=>rfl
 |e::l=>by rw[mP1,xY,EE l];rfl
theorem EO:∀l:List (Int×Nat),TK.depAll (l.map zT)<=2
 |[]=>by decide
 |e::l=>by
  have:=EO l;rw[mP1,TK.depAll];have:(zT e).dep=1:=rfl;lia
theorem Ju(x:HQ):iM (lu x)=Z (mY x):=by
 have e:xY [.int x.1,.int x.2.1,.tup (x.2.2.map zD)]=Z [.int x.1,.int x.2.1,.tup (x.2.2.map zT)]:=by
  simp only[xY,kD,EE,oP1,oS1]
 unfold lu;rw[iM,e,oS1,ak]
 ·rfl
 ·have:=EO x.2.2;simp[TK.dep,TK.depAll];lia
theorem yG:∀{a b:List (Int×Nat)},a.map zT=b.map zT->a=b
 |[],[],_=>rfl
 |[],_::_,h=>by cases h
 |_::_,[],h=>by cases h
 |x::a,y::b,h=>by
  rw[mP1,mP1]at h;injection h with h1 h2;unfold zT at h1;injection h1 with h1;injection h1 with c h1;injection h1 with d h1;injection c with c;injection d with d;rw[yG h2,show x=y from Prod.ext c (by lia)]
theorem tL{x y:HQ}(h:mY x=mY y):x=y:=by
 unfold mY at h;injection h with h;injection h with c h;injection h with b h;injection h with a h;injection c with c;injection b with b;injection a with a;exact Prod.ext c (Prod.ext b (yG a))
def Eg(m:Nat)(w:dA)(sg ts:List Int):Prop:=∀i j,i<m->j<m->gu ts i=gu ts j->lQ w sg ts i=lQ w sg ts j
theorem DT(m:Nat)(w:dA)(a ts:List Int):(ddK ((af m).map λr=>mY (lQ w a ts r))).length=(ddI ((af m).map (gu ts))).length↔Eg m w a ts:=by
 have h:∀i j,mY (lQ w a ts i)=mY (lQ w a ts j)->gu ts i=gu ts j:=λi j e=>by
  have:=tL e;exact congrArg (·.1) this
 rw[(xb (f:=λr=>mY (lQ w a ts r)) h m).2,vh h];exact⟨λq i j hi b e=>tL (q i j hi b e),λq i j hi b e=>congrArg mY (q i j hi b e)⟩
theorem wH(f:Nat->HQ):∀l:List Nat,pH (l.map λr=>lu (f r))=Z (l.map λr=>mY (f r))
 |[]=>rfl
 |r::l=>by rw[mP1,pH,Ju,oS1,wH f l];rfl
theorem Cj{ts:List Int}{m:Nat}(h:ts.length=m):(af m).map (gu ts)=ts:=by
 subst h;apply bX;intro i;rw[gP1];by_cases hi:i<ts.length
 ·rw[cj hi,gG1 hi];unfold gu;rw[oP1,bI,gG1 hi];rfl
 ·rw[bY (by simpa using hi),bY (by lia)];rfl
theorem AN{m:Nat}{w:dA}{c b:List Int}(hw:WebJ m w)(hm:m<=8)(hs:c.length=m)(ht:b.length=m):W (gp [webD w,sgD c,sgD b] []) λp=>∃k,p.1 = .ref k/\p.2[k]?=Z (.lst ((af m).map λr=>lu (lQ w c b r)))/\p.2.all (Ob.und 0)=M:=by
 unfold gp;refine jm ?_;unfold sn;refine dS (λr V=>V=[.lst []]/\r=[Z (webD w),Z (sgD c),Z (sgD b),Z (.ref 0),Y,Y,Y]) ?_ ?_
 ·walk_at"w"
  try exact⟨O,trivial⟩
 rintro r V ⟨rfl,rfl⟩;refine dS (λr V=>∃G h j x6,G.all (Ob.und 0)=M/\V = .lst ((af m).map λr=>lu (lQ w c b r))::G/\r=[Z (webD w),Z (sgD c),Z (sgD b),Z (.ref 0),h,j,x6]) ?_ ?_
 ·unfold eZ;rw[dw];refine oS (xs:=w.map λa=>.tup (a.map pD)) O ?_;refine eH (λi r V=>∃G h j x6,i<=m/\G.all (Ob.und 0)=M/\V = .lst ((af i).map λr=>lu (lQ w c b r))::G/\r=[Z (webD w),Z (sgD c),Z (sgD b),Z (.ref 0),h,j,x6]) _ 0 _ _ ⟨[],_,_,_,by lia,O,O,O⟩ (λ_ _ _ _=>rfl) ?_ ?_
  ·rintro i B o r V ⟨G,h,j,x6,hi,l,rfl,rfl⟩;rw[fV,gP1]at o;obtain⟨z,A,rfl⟩:=oM1.mp o;obtain⟨a,g,rfl⟩:=oM1.mp A;have q:i<m:=by rw[<- hw.len];exact(gE1.mp g).1
   have x:=hw.le i a g;rw[bN]at *
   walk_at"w";unfold lX;refine dS (λr V=>V = .lst ((af i).map λr=>lu (lQ w c b r))::(G++[.lst (a.map λe=>zD (BP b e))])/\r=[Z (webD w),Z (sgD c),Z (sgD b),Z (.ref 0),Z (.int (i:Nat)),Z (.tup (a.map pD)),Z (.tup (a.map λe=>zD (BP b e)))]) ?_ ?_
   ·walk_at"w";rw[kB];refine j6 (f:=pD) (λe=>zD (BP b e)) (λs=>∃t u,s=[t,u,Z (sgD b)]) O a _ ⟨_,_,O⟩ ?_ ?_
    ·rintro e y s ⟨t,u,rfl⟩;obtain⟨d,v⟩:=bq y;have:=hw.to i d e ⟨a,g,v⟩;rw[pD];walk_at"w";refine BD ht this ?_;walk_at"w";exact⟨O,_,_,O⟩
    ·rintro s _;refine⟨dG (by rw[lM1];lia),?_⟩;walk_at"w";refine d5 (xs:=a.map λe=>zD (BP b e)) (by rw[gC1,dF];rfl) ?_
     first|exact⟨rfl,rfl⟩|exact⟨rfl,trivial⟩|rfl
   rintro r V ⟨rfl,rfl⟩;unfold eU;rw[dw];refine gX ?_;walk_at"w";refine⟨0,(af i).map λr=>lu (lQ w c b r),O,O,?_⟩;refine BD ht q ?_;walk_at"w";refine BD hs q ?_;walk_at"w";refine(ji (n:=0) (xs:=(af i).map λr=>lu (lQ w c b r)) O).mpr ⟨dG (by rw[lM1,cu];lia),?_⟩;refine⟨G++[.lst (a.map λe=>zD (BP b e))],_,_,_,by lia,?_,?_,O⟩
   ·rw[cJ,l,bO,Ob.und,Mi.eR (λ_ _=>rfl)];rfl
   ·have e:lu (lQ w c b i)=D.tup [D.int (gu b i),D.int (gu c i),D.tup (a.map fun e=>zD (BP b e))]:=by
     unfold lQ;rw[qw g,lu,bt];rfl
    rw[c0,cE,mP1,e];rfl
  ·rintro r V ⟨G,h,j,x6,hi,l,rfl,rfl⟩;rw[fU,lM1,bN,hw.len];exact⟨O,G,_,_,_,l,O,O⟩
 rintro r V ⟨G,h,j,x6,l,rfl,rfl⟩;walk_at"w";refine⟨0,O,O,?_⟩;rw[bO,l,Ob.und,Mi.eR (λ_ _=>Dk _)];rfl
def iS(S:Sto):Prop:=S.all (Ob.und S.length)=M
mutual
def vd(S:Sto):D->Bool
 | .non=>M
 | .bl _=>M
 | .int _=>M
 | .str _=>M
 | .tup xs=>fN S xs
 | .rol xs=>fN S xs
 | .ref n=>match S[n]? with
  |some (.lst _)=>M
  |some (.dct _)=>M
  |some (.dcT _)=>M
  |_=>J
 | .fn _=>J
def fN(S:Sto):List D->Bool
 |[]=>M
 |d::ds=>vd S d&&fN S ds
end
mutual
theorem H0{S T:Sto}:∀{d:D},vd S d=M->d.und 0=M->vd T d=M
 | .non,_,_=>by rw[vd]
 | .bl _,_,_=>by rw[vd]
 | .int _,_,_=>by rw[vd]
 | .str _,_,_=>by rw[vd]
 | .tup xs,v,h=>by rw[D.und]at h;rw[vd]at v ⊢;exact qk v h
 | .rol xs,v,h=>by rw[D.und]at h;rw[vd]at v ⊢;exact qk v h
 | .ref k,_,h=>by simp[D.und]at h
 | .fn x,v,_=>by simp[vd]at v
theorem qk{S T:Sto}:∀{ds:List D},fN S ds=M->D.unds 0 ds=M->fN T ds=M
 |[],_,_=>by rw[fN]
 |d::ds,v,h=>by
  rw[D.unds,bA1]at h;rw[fN,bA1]at v;rw[fN,H0 v.1 h.1,qk v.2 h.2];rfl
end
theorem iT{S:Sto}{d:D}:∀{ds:List D},fN S ds=M->d∈ds->vd S d=M
 |[],_,h=>by cases h
 |x::ds,h,m=>by
  rw[fN,bA1]at h;rcases aE.mp m with z|z
  ·rw[z];exact h.1
  ·exact iT h.2 z
theorem lE{n:Nat}{f:FN}{ds:List D}{S:Sto}{Q:D×Sto->Prop}(hn:ds.length=n)(b:iS S)(hv:fN S ds=M)(h:∀T,iS T->fN T ds=M->W (f ds T) λp=>(∃G,p.2=T++G)/\p.1.und 0=M/\Q (p.1,S)):W (dy n f ds S) Q:=by
 cases hu:D.unds 0 ds with
 |true=>exact iP hn hu ((h [] rfl (qk hv hu)).mono λp q=>⟨q.2.1,q.2.2⟩)
 |false=>
  refine oJ hn hu ((h S b hv).mono ?_);rintro⟨d,V⟩ ⟨⟨G,e⟩,a,q⟩;dsimp only at e a q;subst e;rw[rJ a b];exact q
def EH:D->Bool
 | .tup _=>M
 |_=>J
def whD:D->Bool
 | .int _=>M
 |_=>J
def LN:D->Bool
 | .bl _=>M
 |_=>J
theorem nB{S:Sto}{d:D}(h:vd S d=M):jF S .tuple d=Z (EH d):=by
 cases d with
 |ref n=>
  rw[vd]at h;rw[jF];split at h<;>first|(rename_i e;rw[e];rfl)|rfl|cases h
 |fn x=>simp[vd]at h
 |_=>rfl
theorem yZ{S:Sto}{d:D}(h:vd S d=M):jF S .int d=Z (whD d||LN d):=by
 cases d with
 |ref n=>
  rw[vd]at h;rw[jF];split at h<;>first|(rename_i e;rw[e];rfl)|rfl|cases h
 |fn x=>simp[vd]at h
 |_=>rfl
theorem vS{S:Sto}{d:D}(h:vd S d=M):jF S .bool d=Z (LN d):=by
 cases d with
 |ref n=>
  rw[vd]at h;rw[jF];split at h<;>first|(rename_i e;rw[e];rfl)|rfl|cases h
 |fn x=>simp[vd]at h
 |_=>rfl
theorem LC{S:Sto}{d:D}(h:vd S d=M):fN S [d]=M:=by rw[fN,fN,h];rfl
theorem vd1'{S:Sto}{d:D}{ds:List D}(h:fN S (d::ds)=M):vd S d=M:=iT h mS1
theorem vN{d:D}{S:Sto}{Q:D×Sto->Prop}(c:iS S)(hv:vd S d=M)(q:Q (.bl (whD d),S)):W (dy 1 e9 [d] S) Q:=by
 refine lE O c (LC hv) λT _ a=>?_;have h1:=yZ (vd1' a);have h2:=vS (vd1' a);unfold e9;refine jm ?_;unfold kI
 ((try walk_at"w");repeat(simp only[iK,h1,h2];try walk_at"w"))
 cases d with
 |int i=>exact⟨⟨[],(aM T).symm⟩,O,q⟩
 |bl b=>exact⟨⟨[],(aM T).symm⟩,O,q⟩
 |_=>exact⟨⟨[],(aM T).symm⟩,O,q⟩
theorem JV{f g:FN}{a b c:FE}{r:Ev}{S:Sto}{Q:D×Sto->Prop}:W (GR f g a b c r S) Q↔W (a r S) λp=>W (b r p.2) λq=>W (f [p.1,q.1] q.2) λt=>W (match t.1 with | .bl k=>if k=true then(c r t.2).bind λz=>g [q.1,z.1] z.2 else some (.bl false,t.2)|_=>none) Q:=by
 unfold GR;simp only[dw]
 try exact Iff.rfl
theorem hB{d:D}{S:Sto}{Q:D×Sto->Prop}(c:iS S)(hv:vd S d=M)(q:Q (.bl (whD d),S)):W (dy 1 dW [d] S) Q:=by
 refine lE O c (LC hv) λT _ a=>?_;have h1:=yZ (vd1' a);have h2:=vS (vd1' a);unfold dW;refine jm ?_;unfold ja
 ((try walk_at"w");repeat(simp only[iK,h1,h2];try walk_at"w"))
 cases d with
 |int i=>exact⟨⟨[],(aM T).symm⟩,O,q⟩
 |bl b=>exact⟨⟨[],(aM T).symm⟩,O,q⟩
 |_=>exact⟨⟨[],(aM T).symm⟩,O,q⟩
def lG(m:Nat):D->Bool
 | .int i=>decide (0<=i)&&decide (i<m)
 |_=>J
theorem D6{m:Nat}{d:D}(h:whD d=J):lG m d=J:=by
 cases d with
 |int i=>cases h
 |_=>rfl
theorem sm{d:D}(h:whD d=M):∃i,d = .int i:=by
 cases d with
 |int i=>exact⟨i,O⟩
 |_=>cases h
theorem D0{r:Ev}{S:Sto}{m i:Nat}{j:Int}{c:FE}{Q:D×Sto->Prop}(hi:r[i]?=Z (Z (.int j)))(hc:c r S=Z (.int m,S))(q:Q (.bl (decide (0<=j)&&decide (j<m)),S)):W (GR (b2 (i4 λi j=>decide (i<=j))) (b2 gLt) (mC (D.int (0))) (mV i) c r S) Q:=by
 have e:mV i r S=Z (.int j,S):=by unfold mV;rw[hi]
 rw[JV];unfold mC;rw[dB];dsimp only;rw[e,dB];dsimp only;unfold b2 i4;dsimp only;rw[dB];dsimp only;cases h:decide (0<=j)with
 |false=>
  rw[aj (by decide),dB];rw[h]at q;exact q
 |true=>
  rw[ak O,hc,dw,dB];rw[h]at q;exact W.of O q
theorem lF{m:Nat}{d:D}{S:Sto}{Q:D×Sto->Prop}(e:iS S)(hv:vd S d=M)(q:Q (.bl (lG m d),S)):W (dy 2 gy [d,.int m] S) Q:=by
 refine lE O e (by rw[fN,hv,fN,fN,vd];rfl) λT c a=>?_;have b:=vd1' a;unfold gy;refine jm ?_;unfold oN;walk_at"w";refine vN c b ?_;walk_at"w";cases hw:whD d with
 |false=>
  rw[aj (by decide)];rw[D6 hw]at q
  first|exact⟨⟨[],(aM T).symm⟩,rfl,q⟩|(rw[dB];exact⟨⟨[],(aM T).symm⟩,O,q⟩)
 |true=>
  rw[ak O];obtain⟨i,rfl⟩:=sm hw;refine D0 (m:=m) O O ?_
  try walk_at"w"
  exact⟨⟨[],(aM T).symm⟩,O,q⟩
mutual
def bd(k:Nat):D->Bool
 | .tup xs=>decide (xs.length<=k)&&yC k xs
 | .non=>M
 | .bl _=>M
 | .int _=>M
 | .str _=>M
 | .rol _=>J
 | .ref _=>M
 | .fn _=>J
def yC(k:Nat):List D->Bool
 |[]=>M
 |d::ds=>bd k d&&yC k ds
end
mutual
theorem w6{k k':Nat}(h:k<=k'):∀{d:D},bd k d=M->bd k' d=M
 | .tup xs,q=>by
  rw[bd,bA1,am]at q;rw[bd,ur h q.2,ah (by lia)];rfl
 | .non,_=>by rw[bd]
 | .bl _,_=>by rw[bd]
 | .int _,_=>by rw[bd]
 | .str _,_=>by rw[bd]
 | .rol _,q=>by simp[bd]at q
 | .ref _,_=>by rw[bd]
 | .fn _,q=>by simp[bd]at q
theorem ur{k k':Nat}(h:k<=k'):∀{ds:List D},yC k ds=M->yC k' ds=M
 |[],_=>by rw[yC]
 |d::ds,q=>by
  rw[yC,bA1]at q;rw[yC,w6 h q.1,ur h q.2];rfl
end
theorem i8{k:Nat}:∀xs:List D,yC k xs=xs.all (bd k)
 |[]=>by rw[yC];rfl
 |x::xs=>by rw[yC,i8 xs];rfl
theorem uJ{S:Sto}:∀xs:List D,fN S xs=xs.all (vd S)
 |[]=>by rw[fN];rfl
 |x::xs=>by rw[fN,uJ xs];rfl
theorem m8{n:Nat}:∀xs:List D,D.unds n xs=xs.all (D.und n)
 |[]=>rfl
 |x::xs=>by rw[D.unds,m8 xs];rfl
structure Ok (k:Nat)(S:Sto)(d:D):Prop where
 v:vd S d=true
 u:d.und S.length=true
 b:bd k d=true
theorem Ok.tup{k:Nat}{S:Sto}{xs:List D}(b:xs.length<=k)(h:∀x∈xs,Ok k S x):Ok k S (.tup xs):=by
 refine⟨?_,?_,?_⟩
 ·rw[vd,uJ,bA];exact λx a=>(h x a).v
 ·rw[D.und,m8,bA];exact λx a=>(h x a).u
 ·rw[bd,i8,bA1,am,bA];exact⟨b,λx a=>(h x a).b⟩
theorem Ok.of{k:Nat}{S:Sto}{xs:List D}(h:Ok k S (.tup xs)):xs.length<=k /\ ∀x∈xs,Ok k S x:=by
 obtain⟨h1,h2,a⟩:=h;rw[vd,uJ,bA]at h1;rw[D.und,m8,bA]at h2;rw[bd,i8,bA1,am,bA]at a;exact⟨a.1,λx b=>⟨h1 x b,h2 x b,a.2 x b⟩⟩
theorem Ok.more{k k':Nat}{S:Sto}{d:D}(h:Ok k S d)(hk:k<=k'):Ok k' S d:=⟨h.v,h.u,w6 hk h.b⟩
mutual
theorem sH{k:Nat}{S:Sto}:∀{d:D},bd k d=M->d.und 0=M->vd S d=M
 | .non,_,_=>by rw[vd]
 | .bl _,_,_=>by rw[vd]
 | .int _,_,_=>by rw[vd]
 | .str _,_,_=>by rw[vd]
 | .tup xs,v,h=>by
  rw[D.und]at h;rw[bd,bA1]at v;rw[vd];exact yR v.2 h
 | .rol xs,v,h=>by simp[bd]at v
 | .ref k,_,h=>by simp[D.und]at h
 | .fn x,v,_=>by simp[bd]at v
theorem yR{k:Nat}{S:Sto}:∀{ds:List D},yC k ds=M->D.unds 0 ds=M->fN S ds=M
 |[],_,_=>by rw[fN]
 |d::ds,v,h=>by
  rw[D.unds,bA1]at h;rw[yC,bA1]at v;rw[fN,sH v.1 h.1,yR v.2 h.2];rfl
end
theorem Ok.shut{k:Nat}{S:Sto}{d:D}(h:d.und 0=M)(hb:bd k d=M):Ok k S d:=⟨sH hb h,kS h,hb⟩
theorem Ok.lst{k n:Nat}{S:Sto}{xs:List D}(h:S[n]?=Z (.lst xs)):Ok k S (.ref n):=⟨by rw[vd,h],by rw[D.und,am];exact(gE1.mp h).1,by rw[bd]⟩
theorem Ok.dct{k n:Nat}{S:Sto}{xs:List (Key×D)}(h:S[n]?=Z (.dct xs)):Ok k S (.ref n):=⟨by rw[vd,h],by rw[D.und,am];exact(gE1.mp h).1,by rw[bd]⟩
theorem Ok.nm{k:Nat}{S:Sto}{rs:List Nat}(h:rs.length<=k):Ok k S (.tup (nmD rs)):=Ok.tup (by rw[ea];exact h) λx a=>by
 obtain⟨i,_,rfl⟩:=cc.mp a;exact .shut O (by rw[bd])
mutual
theorem ql{S a:Sto}(h:∀n,vd S (.ref n)=M->vd a (.ref n)=M):∀{d:D},vd S d=M->vd a d=M
 | .non,_=>by rw[vd]
 | .bl _,_=>by rw[vd]
 | .int _,_=>by rw[vd]
 | .str _,_=>by rw[vd]
 | .tup xs,q=>by rw[vd]at q ⊢;exact nw h q
 | .rol xs,q=>by rw[vd]at q ⊢;exact nw h q
 | .ref n,q=>h n q
 | .fn x,q=>by simp[vd]at q
theorem nw{S a:Sto}(h:∀n,vd S (.ref n)=M->vd a (.ref n)=M):∀{ds:List D},fN S ds=M->fN a ds=M
 |[],_=>by rw[fN]
 |d::ds,q=>by
  rw[fN,bA1]at q;rw[fN,ql h q.1,nw h q.2];rfl
end
mutual
theorem yS{A B:Sto}:∀{d:D},vd (A++B) d=M->d.und A.length=M->vd A d=M
 | .non,_,_=>by rw[vd]
 | .bl _,_,_=>by rw[vd]
 | .int _,_,_=>by rw[vd]
 | .str _,_,_=>by rw[vd]
 | .tup xs,q,u=>by rw[vd]at q ⊢;rw[D.und]at u;exact qj q u
 | .rol xs,q,u=>by rw[vd]at q ⊢;rw[D.und]at u;exact qj q u
 | .ref n,q,u=>by
  rw[D.und,am]at u;rw[vd]at q ⊢;rw[gL1 u]at q;exact q
 | .fn x,q,_=>by simp[vd]at q
theorem qj{A B:Sto}:∀{ds:List D},fN (A++B) ds=M->D.unds A.length ds=M->fN A ds=M
 |[],_,_=>by rw[fN]
 |d::ds,q,u=>by
  rw[fN,bA1]at q;rw[D.unds,bA1]at u;rw[fN,yS q.1 u.1,qj q.2 u.2];rfl
end
theorem DD{o:Ob}{n:Nat}(h:Hnd o n):∃xs,o = .lst xs:=by
 obtain⟨g,m,c,rfl,_⟩:=h;exact⟨_,O⟩
theorem Ok.on{k n n':Nat}{o o':Ob}{T G:Sto}{d:D}(h:Ok k (o::T) d)(ho:Hnd o' n'):Ok k (o'::(T++G)) d:=by
 refine⟨ql (λi hi=>?_) h.v,yX (by simp) h.u,h.b⟩;obtain⟨xs,rfl⟩:=DD ho;cases i with
 |zero=>rw[vd];rfl
 |succ i=>
  rw[vd,gC1]at hi ⊢;cases e:T[i]? with
  |none=>rw[e]at hi;cases hi
  |some x=>
   rw[gL1 (gE1.mp e).1,e];rw[e]at hi;exact hi
abbrev ClT(T:Sto):Prop:=T.all (Ob.und (T.length+1))=M
theorem Br{m k n':Nat}{f:FN}{ds:List D}{o:Ob}{T:Sto}{Q:D×Sto->Prop}(hn:ds.length=m)(d:D.unds 0 ds=J)(g:ClT T)(h:W (f ds (o::T)) λp=>∃x o' G,p=(x,o'::(T++G))/\Hnd o' n'/\ClT (T++G)/\Ok k (o'::(T++G)) x)(q:∀x o' G,Hnd o' n'->ClT (T++G)->Ok k (o'::(T++G)) x->Q (x,o'::(T++G))):W (dy m f ds (o::T)) Q:=by
 refine oJ hn d (h.mono ?_);rintro p ⟨x,o',G,rfl,c,hc,b⟩;unfold gc;split
 ·rename_i a;have e:(o'::(T++G)).take (o::T).length=o'::(T++[]):=by rw[aM,lC1,cU,List.take_left]
  rw[e];refine q x o' [] c (by rw[aM];exact g) ⟨?_,?_,b.b⟩
  ·rw[bA1]at a;rw[aM];refine yS (A:=o'::T) (B:=G) (by rw[bi];exact b.v) ?_;have:=a.1
   rwa [lC1]at this
  ·rw[bA1]at a;rw[aM];have:=a.1
   rwa [lC1]at this
 ·exact q x o' G c hc b
theorem Bp{T G:Sto}(h:ClT T)(hg:∀o∈G,o.und ((T++G).length+1)=M):ClT (T++G):=by
 rw[ClT,bA]at h ⊢;intro o a;rcases aF.mp a with a|a
 ·exact fP (by rw[lA1];lia) (h o a)
 ·exact hg o a
theorem IJ:∃B:Int,∀S:Sto,oo (.int 10) (.int 30) S=Z (.int B,S):=⟨10^30,λS=>by
 unfold oo;dsimp only;rw[ak ⟨by decide,by decide,by decide⟩];rfl⟩
theorem FP{o:Ob}{n k p:Nat}{T G:Sto}{L:List D}{r:Ev}{Q:D×Sto->Prop}(ho:Hnd o n)(hn:n<=2^40)(hp:(T++G)[p]? = Z (.lst L))(m:0<L.length)(l:L.length<=100)(g:r[0]? = Z (Z (.ref 0)))(h2:r[2]? = Z (Z (.ref (p+1))))(hx:∀ o',Hnd o' (n+1) -> ∀ x∈L,Ok k (o'::(T++G)) x)(q:∀x o',Hnd o' (n+1)->Ok k (o'::(T++G)) x->Q (x,o'::(T++G))):W (m2 (b2 dD) (mV 2) (mN (dy 2 dz) (dr (mV 0) (dr (mN (b1 dV) (dr (mV 2) dt)) dt))) r (o::(T++G))) Q:=by
 have e:∀o:Ob,(o::(T++G))[p+1]?=Z (.lst L):=λo=>by rw[gC1];exact hp
 have h:∀S:Sto,mV 0 r S=Z (.ref 0,S):=λS=>by unfold mV;rw[g]
 have f:∀S:Sto,mV 2 r S=Z (.ref (p+1),S):=λS=>by unfold mV;rw[h2]
 have el:dV (.ref (p+1)) (o::(T++G))=Z (.int L.length,o::(T++G)):=by unfold dV;rw[gj (e o)];rfl
 refine JW ?_;rw[f,dB];dsimp only;unfold mN dr;simp only[h,f,dt,oS1,b1,el];refine gi ho (by lia) (by lia) (by lia) λd c a j=>?_;have b:d<L.length:=by lia
 unfold b2;refine iR (i:=d) (x:=L[d]) (e c) (gG1 b) ?_;exact q _ c a (hx c a _ (bR b))
def EK(k:Nat)(r:Ev)(o:Ob)(T:Sto)(e:FE):Prop:=∀G,ClT (T++G)->W (e r (o::(T++G))) λp=>∃G',p.2=o::(T++(G++G'))/\ClT (T++(G++G'))/\Ok k (o::(T++(G++G'))) p.1
def AK(k:Nat)(r:Ev)(o:Ob)(T:Sto)(n:Nat)(a:FA):Prop:=∀G,ClT (T++G)->W (a r (o::(T++G))) λp=>∃G',p.2=o::(T++(G++G'))/\ClT (T++(G++G'))/\p.1.length=n /\ ∀x∈p.1,Ok k (o::(T++(G++G'))) x
section
variable{k n N:Nat}{r:Ev}{o:Ob}{T:Sto}{e:FE}{a:FA}{d:D}
theorem eh(ho:Hnd o N)(h:∀S,e r S=Z (d,S))(hd:Ok k (o::T) d):EK k r o T e:=λG a=>by
 refine W.of (h _) ⟨[],by rw[aM],by rw[aM];exact a,?_⟩;rw[aM];exact hd.on (n:=N) ho
theorem d9:AK k r o T 0 dt:=λG a=>W.of O ⟨[],by rw[aM],by rw[aM];exact a,O,λx h=>by cases h⟩
theorem dv(ho:Hnd o N)(he:EK k r o T e)(ha:AK k r o T n a):AK k r o T (n+1) (dr e a):=λG i=>by
 unfold dr;rw[dw];refine(he G i).mono ?_;rintro⟨d,S⟩ ⟨G1,c,h1,h2⟩;dsimp only at c h2 ⊢;subst c;rw[dw];refine(ha (G++G1) h1).mono ?_;rintro⟨l,S⟩ ⟨G2,g,h,f,b⟩;dsimp only at g f b ⊢;subst g;rw[bF]at h b;refine dB.mpr ⟨G1++G2,by rw[bF],h,by rw[lC1,f],λx j=>?_⟩;rcases aE.mp j with z|z
 ·rw[z];have:=h2.on (n:=N) (G:=G2) ho
  rwa [bF,bF]at this
 ·exact b x z
theorem fO(ha:AK k r o T n a)(hn:n<=k)(hk:k<=1000):EK k r o T (dR a):=λG d=>by
 rw[ss];refine(ha G d).mono ?_;rintro⟨l,S⟩ ⟨G1,c,h1,h2,b⟩;dsimp only at c h2 b ⊢;subst c;exact⟨dG (by lia),G1,O,h1,.tup (by lia) b⟩
theorem Gf{k:Nat}{S:Sto}{L:List D}(h:∀x∈L,Ok k S x):D.unds S.length L=M:=by rw[m8,bA];exact λx a=>(h x a).u
theorem mh(a:ClT T){L:List D}(h:∀x∈L,Ok k (o::T) x):ClT (T++[.lst L]):=Bp a λx b=>by
 rw[cm.mp b,Ob.und];refine il ?_ (Gf h);simp
theorem wA(ha:AK k r o T n a)(hn:n<=1000)(G:Sto)(e:ClT (T++G)):W (eP a r (o::(T++G))) λp=>∃b L,p=(.ref (T++(G++b)).length.succ,o::(T++(G++b)++[.lst L]))/\ClT (T++(G++b)++[.lst L])/\L.length=n /\ ∀x∈L,Ok k (o::(T++(G++b))) x:=by
 rw[BF];refine(ha G e).mono ?_;rintro⟨l,S⟩ ⟨G1,d,h1,h2,c⟩;dsimp only at d h2 c ⊢;subst d;exact⟨dG (by lia),G1,l,O,mh h1 c,h2,c⟩
theorem oE(ho:Hnd o N)(ha:AK k r o T n a)(hn:n<=1000):EK k r o T (eP a):=λG b=>by
 refine(wA ha hn G b).mono ?_;rintro p ⟨G1,L,rfl,h1,h2,c⟩;refine⟨G1++[.lst L],by simp,by simpa using h1,.lst (xs:=L) ?_⟩;rw[cI,gC1,show T++(G++(G1++[Ob.lst L]))=(T++(G++G1))++[Ob.lst L] by simp,dF];rfl
theorem rX:EK k r o T iu:=λG a=>by
 refine W.of (x:=(.ref (T++G).length.succ,o::(T++G++[.dct []]))) O ⟨[.dct []],by simp,?_,.dct (xs:=[]) ?_⟩
 ·rw[<- bF];exact Bp a λx b=>by rw[cm.mp b];rfl
 ·rw[cI,gC1,<- bF,dF];rfl
theorem i6(ho:Hnd o N)(h:d.und 0=M)(hb:bd k d=M):EK k r o T (mC d):=eh ho (λ_=>rfl) (.shut h hb)
end
theorem Bi{xs:List D}{lo hi:Option Int}:(∀x∈Mi.iO xs lo hi,x∈xs)/\(Mi.iO xs lo hi).length<=xs.length:=by
 unfold Mi.iO;refine⟨λx a=>cx (cv a),?_⟩;rw[aR,aV];lia
inductive Pk (k:Nat)(o:Ob)(T:Sto)(d:D)(n:Nat):Ev->Sto->Prop
 |mk (G:Sto) (L:List D) (p:Nat):(T++G)[p]?=some (.lst L)->L.length=n->ClT (T++G)->(∀x∈L,Ok k (o::(T++G)) x)->Pk k o T d n [some (.ref 0),some d,some (.ref (p+1))] (o::(T++G))
section
variable{k n m N:Nat}{r:Ev}{o:Ob}{T:Sto}{a:FA}{d:D}{S:Sto}
theorem zx{x2:Option D}(G:Sto)(b:ClT (T++G))(ho:Hnd o N)(ha:AK k [Z (.ref 0),Z d,x2] o T n a)(hn:n<=1000):W (dL (eP a) (gN 2) [Z (.ref 0),Z d,x2] (o::(T++G))) λp=>p.1 = .nx/\Pk k o T d n p.2.1 p.2.2:=by
 unfold dL;rw[dw];refine(wA ha hn G b).mono ?_;rintro p ⟨G1,L,rfl,h1,h2,c⟩;refine W.of O ⟨O,?_⟩;have e:T++(G++G1)++[Ob.lst L]=T++(G++(G1++[Ob.lst L])):=by simp
 dsimp only;show Pk k o T d n [Z (.ref 0),Z d,Z (.ref ((T++(G++G1)).length+1))] (o::(T++(G++G1)++[Ob.lst L]));rw[e]at h1 ⊢;refine .mk _ L _ ?_ h2 h1 λx f=>?_
 ·rw[<- e,dF];rfl
 ·have:=(c x f).on (n:=N) (G:=[Ob.lst L]) ho
  rwa [e]at this
theorem ng(ho:Hnd o N)(ha:∀x2,AK k [Z (.ref 0),Z d,x2] o T n a)(hn:n+m<=1000)(h:Pk k o T d m r S):W (dL (m2 (b2 eu) (mV 2) (eP a)) (gN 2) r S) λp=>p.1 = .nx/\Pk k o T d (m+n) p.2.1 p.2.2:=by
 obtain⟨G,L,p,h1,h2,u,l⟩:=h;have e:=(gE1.mp h1).1;unfold dL m2;rw[dw,dw];refine W.of (x:=(.ref (p+1),o::(T++G))) O ?_;rw[dw];refine(wA (ha _) (by lia) G u).mono ?_;rintro q ⟨G1,b,rfl,s,j,t⟩;dsimp only[b2];have i:T++(G++G1)++[Ob.lst b]=(T++G)++(G1++[Ob.lst b]):=by simp
 refine(BK (xs:=L) (ys:=b) ?_ ?_).mpr ⟨dG (by lia),?_⟩
 ·rw[gC1,i,gL1 e];exact h1
 ·rw[cI,gC1,dF];rfl
 refine W.of O ⟨O,?_⟩;have v:o::(T++(G++G1)++[Ob.lst b])++[Ob.lst (L++b)]=o::(T++(G++(G1++[Ob.lst b,Ob.lst (L++b)]))):=by simp
 have f:∀x∈L++b,Ok k (o::(T++(G++G1))) x:=λx c=>by
  rcases aF.mp c with z|z
  ·have:=(l x z).on (n:=N) (G:=G1) ho
   rwa [bF]at this
  ·exact t x z
 have hc:ClT (T++(G++(G1++[Ob.lst b,Ob.lst (L++b)]))):=by
  have:=mh (o:=o) s λx c=>(f x c).on (n:=N) (G:=[Ob.lst b]) ho;have g:T++(G++G1)++[Ob.lst b]++[Ob.lst (L++b)]=T++(G++(G1++[Ob.lst b,Ob.lst (L++b)])):=by simp
  rwa [g]at this
 show Pk k o T d (m+n) [Z (.ref 0),Z d,Z (.ref ((T++(G++G1)++[Ob.lst b]).length+1))] (o::(T++(G++G1)++[Ob.lst b])++[Ob.lst (L++b)]);rw[v];refine .mk _ (L++b) _ ?_ (by rw[lA1,h2,j]) hc λx c=>?_
 ·rw[show T++(G++(G1++[Ob.lst b,Ob.lst (L++b)]))=(T++(G++G1)++[Ob.lst b])++[Ob.lst (L++b)] by simp,dF];rfl
 ·have:=(f x c).on (n:=N) (G:=[Ob.lst b,Ob.lst (L++b)]) ho;simpa using this
theorem mj{e f:FE}{xs ys:List D}(ha:∀S,e r S=Z (.tup xs,S))(hb:∀S,f r S=Z (.tup ys,S))(a:xs.length+ys.length<=1000):∀S,m2 (b2 eu) e f r S=Z (.tup (xs++ys),S):=λS=>by
 unfold m2;rw[ha,oS1,hb,oS1];show(if xs.length+ys.length<=di then _ else _)=_;rw[ak (aC a (by decide))]
theorem DU{xs:List D}{x2:Option D}(ho:Hnd o N)(hd:Ok m (o::T) (.tup xs)):EK k [Z (.ref 0),Z (.tup xs),x2] o T (mN (b1 rL) (dr (mV 1) dt)):=λG a=>by
 refine W.of (x:=(.ref (T++G).length.succ,o::(T++G++[.lst xs]))) O ⟨[.lst xs],by simp,?_,.lst (xs:=xs) ?_⟩
 ·rw[<- bF];exact mh (k:=m) (o:=o) a λx b=>(hd.of.2 x b).on (n:=N) ho
 ·rw[cI,gC1,<- bF,dF];rfl
theorem zZ{xs ys:List D}(h:Ok m (o::T) (.tup xs))(hs:∀y∈ys,y∈xs)(a:ys.length<=k)(hk:m<=k):Ok k (o::T) (.tup ys):=.tup a λy b=>(h.of.2 y (hs y b)).more hk
theorem lY{xs ys:List D}(h:Ok k (o::T) (.tup xs))(h':Ok k (o::T) (.tup ys))(a:xs.length+ys.length<=k):Ok k (o::T) (.tup (xs++ys)):=.tup (by rw[lA1];exact a) λy b=>by
 rcases aF.mp b with z|z
 ·exact h.of.2 y z
 ·exact h'.of.2 y z
end
theorem Ji{k m N:Nat}{o:Ob}{T:Sto}{d:D}{x2:Option D}(ho:Hnd o N)(hd:Ok k (o::T) d)(hk:1<=k)(b:k<=200):AK k [Z (.ref 0),Z d,x2] o T 18 (dr (mC D.non) (dr (mC (D.bl M)) (dr (mC (D.bl J)) (dr (m1 (b1 ot) (mC (D.int (1)))) (dr (mC (D.int (0))) (dr (mC (D.int (1))) (dr (mC (D.int (9))) (dr (m2 (b2 oo) (mC (D.int (10))) (mC (D.int (30)))) (dr (mC (D.str "")) (dr (mC (D.str "colours")) (dr (mC (D.str "alike")) (dr (mC (D.str "0")) (dr (dR dt) (dr (dR (dr (mC (D.int (0))) dt)) (dr (eP dt) (dr (eP (dr (mC (D.int (0))) dt)) (dr iu (dr (dR (dr (mV 1) dt)) dt)))))))))))))))))):=by
 obtain⟨B,c⟩:=IJ;have a:EK k [Z (.ref 0),Z d,x2] o T (mC (D.int 0)):=i6 ho O (by rw[bd]);refine dv ho (i6 ho O (by rw[bd])) (dv ho (i6 ho O (by rw[bd])) (dv ho (i6 ho O (by rw[bd])) (dv ho (eh (d:=.int (-1)) ho (λ_=>rfl) (.shut O (by rw[bd]))) (dv ho a (dv ho (i6 ho O (by rw[bd])) (dv ho (i6 ho O (by rw[bd])) (dv ho (eh (d:=.int B) ho (λS=>c S) (.shut O (by rw[bd]))) (dv ho (i6 ho O (by rw[bd])) (dv ho (i6 ho O (by rw[bd])) (dv ho (i6 ho O (by rw[bd])) (dv ho (i6 ho O (by rw[bd])) (dv ho (fO d9 (by lia) (by lia)) (dv ho (fO (dv ho a d9) (by lia) (by lia)) (dv ho (oE ho d9 (by lia)) (dv ho (oE ho (dv ho a d9) (by lia)) (dv ho rX (dv ho (fO (dv ho (eh ho (λ_=>rfl) hd) d9) (by lia) (by lia)) d9)))))))))))))))))
section
variable{k N:Nat}{o:Ob}{T:Sto}{xs:List D}{x2:Option D}
theorem Jh(ho:Hnd o N)(hd:Ok k (o::T) (.tup xs))(hk:1<=k)(e:k<=50):AK (2*k+2) [Z (.ref 0),Z (.tup xs),x2] o T 5 (dr (kC (mV 1) (io (mC (D.int (1)))) ip) (dr (kC (mV 1) ip (io (m1 (b1 ot) (mC (D.int (1)))))) (dr (m2 (b2 eu) (mV 1) (kC (mV 1) (io (m1 (b1 ot) (mC (D.int (1))))) ip)) (dr (AA (mV 1) (m1 (b1 ot) (mC (D.int (1))))) (dr (mN (b1 rL) (dr (mV 1) dt)) dt))))):=by
 have g:=hd.of.1;have c:∀lo hi,Ok (2*k+2) (o::T) (.tup (Mi.iO xs lo hi)):=λlo hi=>by
  obtain⟨a,f⟩:=Bi (xs:=xs) (lo:=lo) (hi:=hi);exact zZ hd a (by lia) (by lia)
 have h:(Mi.iO xs (Z (-1)) Y).length<=xs.length:=(Bi (xs:=xs)).2;refine dv ho (eh ho (λ_=>rfl) (c (Z 1) Y)) (dv ho (eh ho (λ_=>rfl) (c Y (Z (-1)))) (dv ho (eh ho (mj (xs:=xs) (ys:=Mi.iO xs (Z (-1)) Y) (λ_=>rfl) (λ_=>rfl) (by lia)) (lY (hd.more (by lia)) (c _ _) (by lia))) (dv ho (eh (d:=.tup xs.reverse) ho (λ_=>rfl) (zZ hd (λy b=>List.mem_reverse.mp b) (by rw[b9];lia) (by lia))) (dv ho (DU ho hd) d9))))
theorem u3{d:D}(h:d.und 0=M)(hb:bd (2*k+2) d=M):Ok (2*k+2) (o::T) (.tup [d]):=.tup (by simp) λy a=>by rw[cm.mp a];exact .shut h hb
theorem Jg(ho:Hnd o N)(hd:Ok k (o::T) (.tup xs))(hk:1<=k)(b:k<=50):AK (2*k+2) [Z (.ref 0),Z (.tup xs),x2] o T 5 (dr (m2 (b2 eu) (mV 1) (dR (dr (mC (D.int (0))) dt))) (dr (m2 (b2 eu) (dR (dr (mC (D.int (0))) dt)) (mV 1)) (dr (mC D.non) (dr (m2 (b2 eu) (mV 1) (dR (dr (mC D.non) dt))) (dr (mC (D.int (0))) dt))))):=by
 have d:=hd.of.1;have a:Ok (2*k+2) (o::T) (.tup [.int 0]):=u3 O (by rw[bd]);have c:Ok (2*k+2) (o::T) (.tup [.non]):=u3 O (by rw[bd]);refine dv ho (eh ho (mj (xs:=xs) (ys:=[.int 0]) (λ_=>rfl) (λ_=>rfl) (by simp;lia)) (lY (hd.more (by lia)) a (by simp;lia))) (dv ho (eh ho (mj (xs:=[.int 0]) (ys:=xs) (λ_=>rfl) (λ_=>rfl) (by simp;lia)) (lY a (hd.more (by lia)) (by simp;lia))) (dv ho (i6 ho O (by rw[bd])) (dv ho (eh ho (mj (xs:=xs) (ys:=[.non]) (λ_=>rfl) (λ_=>rfl) (by simp;lia)) (lY (hd.more (by lia)) c (by simp;lia))) (dv ho (i6 ho O (by rw[bd])) d9))))
theorem Jf(ho:Hnd o N)(hd:Ok k (o::T) (.tup xs))(hk:1<=k)(c:k<=50):AK (2*k+2) [Z (.ref 0),Z (.tup xs),x2] o T 6 (dr (mC (D.str "")) (dr (dR (dr (mV 1) dt)) (dr (m2 (b2 eu) (dR (dr (mC D.non) dt)) (mV 1)) (dr (m2 (b2 eu) (mV 1) (mV 1)) (dr (eP (dr (mV 1) dt)) (dr iu dt)))))):=by
 have d:=hd.of.1;have a:Ok (2*k+2) (o::T) (.tup xs):=hd.more (by lia);have b:EK (2*k+2) [Z (.ref 0),Z (.tup xs),x2] o T (mV 1):=eh ho (λ_=>rfl) a;refine dv ho (i6 ho O (by rw[bd])) (dv ho (fO (dv ho b d9) (by lia) (by lia)) (dv ho (eh ho (mj (xs:=[.non]) (ys:=xs) (λ_=>rfl) (λ_=>rfl) (by simp;lia)) (lY (u3 O (by rw[bd])) a (by simp;lia))) (dv ho (eh ho (mj (xs:=xs) (ys:=xs) (λ_=>rfl) (λ_=>rfl) (by lia)) (lY a a (by lia))) (dv ho (oE ho (dv ho b d9) (by lia)) (dv ho rX d9)))))
theorem Je{i:Int}(ho:Hnd o N):AK (2*k+2) [Z (.ref 0),Z (.int i),x2] o T 3 (dr (m2 (b2 gEq) (mV 1) (mC (D.int (1)))) (dr (m2 (b2 eu) (mV 1) (mC (D.int (1)))) (dr (m1 (b1 ot) (mV 1)) dt))):=
 dv ho (eh (d:=.bl (i == 1)) ho (λ_=>rfl) (.shut O (by rw[bd]))) (dv ho (eh (d:=.int (i+1)) ho (λ_=>rfl) (.shut O (by rw[bd]))) (dv ho (eh (d:=.int (-i)) ho (λ_=>rfl) (.shut O (by rw[bd]))) d9))
theorem Jd{i:Int}(ho:Hnd o N)(hi:i.natAbs.log2<1920)(b:k<=50):AK (2*k+2) [Z (.ref 0),Z (.int i),x2] o T 2 (dr (mN (b1 DG) (dr (mV 1) dt)) (dr (dR (dr (mV 1) (dr (mV 1) dt))) dt)):=by
 have a:EK (2*k+2) [Z (.ref 0),Z (.int i),x2] o T (mV 1):=eh ho (λ_=>rfl) (.shut O (by rw[bd]));refine dv ho (eh (d:=.str (toString i)) ho (λS=>?_) (.shut O (by rw[bd]))) (dv ho (fO (dv ho a (dv ho a d9)) (by lia) (by lia)) d9);show(if i.natAbs.log2<1920 then _ else _)=_;rw[ak hi]
end
theorem oh{d:D}(h:EH d=M):∃xs,d = .tup xs:=by
 cases d with
 |tup xs=>exact⟨xs,O⟩
 |_=>cases h
def Lo(d:D):Prop:=∀i,d = .int i->i.natAbs.log2<1920
theorem vY{o:Ob}{n:Nat}{T:Sto}(ho:Hnd o n)(a:ClT T):iS (o::T):=by
 unfold iS;rw[bO,ho.und,lC1];exact a
theorem wo{o:Ob}{n k:Nat}{T:Sto}{d:D}{Q:D×Sto->Prop}(ho:Hnd o n)(hn:n<=2^40)(v:ClT T)(hd:Ok k (o::T) d)(l:Lo d)(hk:1<=k)(a:k<=50)(q:∀x o' G,Hnd o' (n+1)->ClT (T++G)->Ok (2*k+2) (o'::(T++G)) x->Q (x,o'::(T++G))):W (dy 2 gb [.ref 0,d] (o::T)) Q:=by
 refine Br (k:=2*k+2) (n':=n+1) O O v ?_ q;unfold gb;refine jm ?_;unfold oP;refine dS (Pk (2*k+2) o T d 18) ?_ ?_
 ·have:=zx (k:=2*k+2) (x2:=Y) (d:=d) [] (by rw[aM];exact v) ho (Ji (m:=0) ho (hd.more (by lia)) (by lia) (by lia)) (by lia);rw[aM]at this;exact this
 rintro r S h;refine dS (λr S=>∃c,0<c/\c<=50/\Pk (2*k+2) o T d c r S) ?_ ?_
 ·obtain⟨G,L,p,h1,h2,b,f⟩:=h;have t:jF (o::(T++G)) .tuple d=Z (EH d):=nB (hd.on (n:=n) ho).v;cases ht:EH d with
  |false=>
   ((try walk_at"w");repeat(simp only[fu,t,ht];try walk_at"w"))
   exact⟨18,by lia,by lia,.mk G L p h1 h2 b f⟩
  |true=>
   obtain⟨xs,rfl⟩:=oh ht;unfold eJ;rw[dw];refine W.of (x:=(M,o::(T++G))) O ?_;dsimp only;rw[ak O];refine dS (Pk (2*k+2) o T (.tup xs) 5) (zx G b ho (Jh ho hd hk a) (by lia)) ?_;intro r S h;refine dS (Pk (2*k+2) o T (.tup xs) 10) (ng ho (λ_=>Jg ho hd hk a) (by lia) h) ?_;intro r S h;refine(ng ho (λ_=>Jf ho hd hk a) (by lia) h).mono ?_;rintro p ⟨y,w⟩;exact⟨y,16,by lia,by lia,w⟩
 rintro r S ⟨c,g,hc,h⟩;refine dS (λr S=>∃c,0<c/\c<=60/\Pk (2*k+2) o T d c r S) ?_ ?_
 ·obtain ⟨G,L,p,h1,h2,b,f⟩:=h;have t:=(hd.on (n:=n) (G:=G) ho).v;have s:W (mTr (mN (dy 1 dW) (dr (mV 1) dt)) [some (.ref 0),some d,some (.ref (p+1))] (o::(T++G))) fun q=>q=(whD d,o::(T++G)):=by
   walk_at"w";refine hB (vY ho b) t ?_;walk_at"w"
  obtain⟨_,z,rfl⟩:=s;unfold eJ;rw[dw];refine W.of z ?_;dsimp only;cases hw:whD d with
  |false=>
   rw[aj (by decide)];exact W.of O ⟨O,c,g,by lia,.mk G L p h1 h2 b f⟩
  |true=>
   obtain⟨i,rfl⟩:=sm hw;rw[ak O];refine dS (Pk (2*k+2) o T (.int i) (c+3)) (ng ho (λ_=>Je ho) (by lia) (.mk G L p h1 h2 b f)) λr S h=>?_;exact(ng ho (λ_=>Jd ho (l i O) a) (by lia) h).mono λp u=>⟨u.1,c+3+2,by lia,by lia,u.2⟩
 rintro r S ⟨c,g,hc,⟨G,L,p,h1,h2,b,f⟩⟩;unfold d6;rw[dw];refine FP (k:=2*k+2) ho hn h1 (by lia) (by lia) O O (λo' e x j=>?_) λx o' e j=>?_
 ·have:=(f x j).on (n:=n) (G:=[]) e
  rwa [aM]at this
 ·exact dB.mpr ⟨x,o',G,O,e,b,j⟩
def E1:Nat->D->Prop
 |0,d=>Lo d
 |n+1,d=>Lo d /\ ∀xs,d = .tup xs -> ∀x∈xs,E1 n x
theorem E1.lo:∀{n:Nat} {d:D},E1 n d->Lo d
 |0,_,h=>h
 |_+1,_,h=>h.1
theorem oC{xs:List D}{S:Sto}:gEq (.tup xs) (.tup []) S=Z (.bl xs.isEmpty,S):=by
 cases xs<;>rfl
theorem Lf(xs:List D)(k:Nat):Mi.iO xs Y (Z (k:Int))=xs.take k:=by
 unfold Mi.iO;rw[HT.sN,HT.v9,List.drop_zero,Nat.sub_zero];by_cases h:k<=xs.length
 ·rw[bx h]
 ·rw[Nat.min_eq_right (by lia),bV,b8 (by lia)]
theorem Le(xs:List D)(k:Nat):Mi.iO xs (Z (k:Int)) Y=xs.drop k:=by
 unfold Mi.iO;rw[HT.sN,HT.v9];by_cases h:k<=xs.length
 ·rw[bx h,b8 (by simp)]
 ·rw[Nat.min_eq_right (by lia),List.drop_length,List.drop_of_length_le (by lia)];simp
theorem Ok.cast{k:Nat}{S a:Sto}{d:D}(h:Ok k S d)(e:S=a):Ok k a d:=e ▸ h
theorem HB:∀ (b:Nat) {fuel n k:Nat} {o:Ob} {T:Sto} {d:D} {Q:D×Sto->Prop},b<fuel->Hnd o n->n+10*b<=2^39->ClT T->Ok k (o::T) d->E1 b d->1<=k->k<=50 ->
  (∀x o' G,Hnd o' (n+10*(b+1))->ClT (T++G)->Ok (2*k+2) (o'::(T++G)) x->Q (x,o'::(T++G)))->W (dy 3 (fK fuel) [.ref 0,d,.int b] (o::T)) Q:=by
 intro b
 induction b with
 |zero=>
  intro fuel n k o T d Q aq C K m v g w h q;obtain⟨f,rfl⟩:∃f,fuel=f+1:=⟨fuel-1,by lia⟩;refine Br (k:=2*k+2) (n':=n+10*(0+1)) O O m ?_ q;rw[fK];refine jm ?_;unfold gK;refine kA ?_;walk_at"w";rw[ak (by decide)];refine wo C (by lia) m v g w h λx o' G e hc j=>?_;exact⟨x,o',G,O,e.more (by lia),hc,j⟩
 |succ b ih=>
  intro fuel n k o T d Q aq C K m v g w h q;obtain⟨f,rfl⟩:∃f,fuel=f+1:=⟨fuel-1,by lia⟩;refine Br (k:=2*k+2) (n':=n+10*(b+1+1)) O O m ?_ q;rw[fK];refine jm ?_;unfold gK;have ao:=nB v.v;have t:decide (((b+1:Nat):Int)<1)=J:=ai (by lia);cases ht:EH d with
  |false=>
   refine kA ?_
   ((try walk_at"w");repeat(simp only[fu,ao,ht,t];try walk_at"w"))
   refine wo C (by lia) m v g.lo w h λx o' G e hc j=>?_;exact⟨x,o',G,O,e.more (by lia),hc,j⟩
  |true=>
   obtain⟨xs,rfl⟩:=oh ht;obtain⟨P,z⟩:=v.of;by_cases s:xs=[]
   ·subst s;refine kA ?_
    ((try walk_at"w");repeat(simp only[fu,ao,ht,t,oC];try walk_at"w"))
    simp only[List.isEmpty_nil]
    try walk_at"w"
    refine wo C (by lia) m v g.lo w h λx o' G e hc j=>?_;exact⟨x,o',G,O,e.more (by lia),hc,j⟩
   ·have E:xs.isEmpty=false:=by cases xs with
     |nil=>exact absurd O s
     |cons x xs=>rfl
    have L:0<xs.length:=List.length_pos_iff.mpr s;refine dS (λr V=>V=o::T/\r=[Z (.ref 0),Z (.tup xs),Z (.int ((b+1:Nat):Int)),Y,Y]) ?_ ?_
    ·((try walk_at"w");repeat(simp only[fu,ao,ht,t,oC];try walk_at"w"))
     simp only[E]
     try walk_at"w"
     try exact⟨O,O⟩
    rintro r V ⟨rfl,rfl⟩;unfold dH;rw[dw];walk_at"w";refine gi C (by lia) (by lia) (by lia) λc N p hc=>?_;walk_at"w";have I:Ok k (N::T) (.tup xs):=(v.on (n:=n) (G:=[]) p).cast (by rw[aM]);by_cases F:((c:Int) == 0)=M
    ·rw[ak F];refine wo p (by lia) m I g.lo w h λx o' G e hc j=>?_;exact⟨x,o',G,O,e.more (by lia),hc,j⟩
    ·rw[aj F];refine gi p (by lia) (by lia) (by lia) λa au B R=>?_;have u:a<xs.length:=by lia
     walk_at"w";refine lN (i:=a) (x:=xs[a]) (gG1 u) ?_;walk_at"w";rw[show(((b+1:Nat):Int)-1)=(b:Int) by lia];refine ih (by lia) B (by lia) m ((((z _ (bR u)).on (n:=n) (G:=[]) B)).cast (by rw[aM])) (g.2 xs O _ (bR u)) w h λx H G A hc j=>?_
     try walk_at"w"
     refine W.of (x:=(.tup (Mi.iO xs Y (Z (a:Int))),H::(T++G))) O ?_;rw[Lf];walk_at"w";rw[aR];refine⟨dG (by lia),?_⟩;refine W.of (x:=(.tup (Mi.iO xs (Z ((a:Int)+1)) Y),H::(T++G))) O ?_;rw[show((a:Int)+1)=((a+1:Nat):Int) by push_cast;rfl,Le];walk_at"w";refine⟨dG (by rw[aV];simp;lia),?_⟩;refine⟨_,H,G,O,A.more (by lia),hc,Ok.tup ?_ λy l=>?_⟩
     ·simp;lia
     ·have old:∀y∈xs,Ok (2*k+2) (H::(T++G)) y:=λy l=>((z y l).on (n:=n) A).more (by lia);simp only[bF,bi,cP,aF,aE]at l;rcases l with l|rfl|l
      ·exact old y (cv l)
      ·exact j
      ·exact old y (cx l)
theorem Jw{S:Sto}{b:Bool}:jF S .bool (.bl b)=Z M:=rfl
theorem Fc{xs:List D}{m:Nat}{S:Sto}{Q:D×Sto->Prop}(a:D.unds 0 xs=M)(h:xs.length=m)(q:Q (.bl M,S)):W (dy 2 ed [.tup xs,.int m] S) Q:=by
 refine iP O (by rw[D.unds,D.und,a];rfl) ?_;unfold ed;refine jm ?_;unfold iA
 ((try walk_at"w");repeat(simp only[fu,AU,fz];try walk_at"w"))
 rw[h];simp;exact⟨O,q⟩
theorem yM{i:Int}{S:Sto}{Q:D×Sto->Prop}(q:Q (.bl M,S)):W (dy 1 e9 [.int i] S) Q:=by
 refine iP O O ?_;unfold e9;refine jm ?_;unfold kI
 ((try walk_at"w");repeat(simp only[fu,AV];try walk_at"w"))
 simp only[reduceCtorEq,decide_false,decide_true];walk_at"w";exact⟨O,q⟩
theorem xU{i:Int}{S:Sto}{Q:D×Sto->Prop}(q:Q (.bl M,S)):W (dy 1 dW [.int i] S) Q:=by
 refine iP O O ?_;unfold dW;refine jm ?_;unfold ja
 ((try walk_at"w");repeat(simp only[fu,AV];try walk_at"w"))
 simp only[reduceCtorEq,decide_false,decide_true];walk_at"w";exact⟨O,q⟩
theorem BJ{n:Nat}{xs:List D}{S:Sto}{Q:D×Sto->Prop}(h:S[n]?=Z (.lst (xs.map λ_=>D.bl M)))(q:Q (.bl M,S)):W (rP (.ref n) S) Q:=by
 refine W.of ?_ q;unfold rP;rw[gj h,oS1];dsimp only;rw[oR (f:=λ_=>M)];simp
theorem wJ:∀ns:List Int,jG (ns.map D.int)=Z ns
 |[]=>rfl
 |n::ns=>by
  have:=wJ ns;rw[mP1];simp only[jG,this];rfl
theorem nI{ns:List Int}{S:Sto}(a:ns.length<=100):g8 (sgD ns) S=Z (.ref S.length,S++[.iset (ddI ns)]):=by
 unfold g8;rw[jU];dsimp only;rw[wJ,oS1,ak (by unfold scanBound;lia)]
theorem K5{m n:Nat}{w:dA}{a b:List Int}{S:Sto}(hm:m<=8)(h:S[n]?=Z (.lst ((af m).map λr=>lu (lQ w a b r)))):jJ (.ref n) S=Z (.int ((ddK ((af m).map λr=>mY (lQ w a b r))).length:Nat),S):=by
 unfold jJ;rw[gj h];dsimp only;rw[wH,oS1,ak (by rw[lM1,cu];lia)]
theorem Dy{m:Nat}{w:dA}{b a:List Int}{S:Sto}{Q:D×Sto->Prop}(hw:WebJ m w)(hm:m<=8)(hs:b.length=m)(ht:a.length=m)(q:Q (.bl (tf (Eg m w b a)),S)):W (dy 3 eg [webD w,sgD b,sgD a] S) Q:=by
 refine iP O (by rw[D.unds,D.unds,D.unds,ee,hH,hH];rfl) ?_;unfold eg;refine jm ?_;unfold ic;refine dS (λr V=>∃G,V=G/\r=[Z (webD w),Z (sgD b),Z (sgD a)]) ?_ ?_
 ·have l:dV (webD w) []=Z (.int (m:Nat),[]):=by rw[webD,fz,lM1,hw.len]
  ((try walk_at"w");repeat(simp only[l];try walk_at"w"))
  refine Fc (eR λ_ _=>rfl) (by rw[lM1];exact ht) ?_;walk_at"w";rw[kB];refine j6 (f:=D.int) (λ_=>D.bl M) (λr=>∃x,r=[x]) O a _ ⟨_,O⟩ ?_ ?_
  ·rintro i hi r ⟨x,rfl⟩;walk_at"w";refine yM ?_;exact⟨O,O,_,O⟩
  ·rintro t _;refine⟨dG (by rw[lM1];lia),?_⟩;refine BJ (xs:=a.map D.int) (by rw[bt];rfl) ?_;walk_at"w";exact⟨_,O,trivial⟩
 rintro r V ⟨G,rfl,rfl⟩;have g:=AN hw hm hs ht;walk_at"w";refine ES O (by rw[D.unds,D.unds,D.unds,ee,hH,hH];rfl) ?_;refine g.mono ?_;rintro⟨d,V⟩ ⟨k,h1,h2,p⟩;refine⟨k,_,h1,h2,p,λG j o s n=>?_⟩;have e:=K5 hm o
 ((try walk_at"w");repeat(simp only[e];try walk_at"w"))
 rw[nI (by lia),dB];dsimp only;refine su (by rw[dF];rfl) ?_;walk_at"w";refine⟨O,?_⟩;have c:((((ddK ((af m).map λr=>mY (lQ w b a r))).length:Nat):Int) == (((ddI a).length:Nat):Int))=tf (Eg m w b a):=xt (by
  rw[beq_iff_eq,<- DT,Cj ht];exact⟨λh=>by exact_mod_cast h,λh=>by rw[h]⟩)
 rw[c];exact q
theorem EW{a b:FE}{r:Ev}{S:Sto}{Q:D×Sto->Prop}:W (AC a b r S) Q↔W (a r S) λp=>W (qo p.2 p.1) λk=>if k=M then Q p else W (b r p.2) Q:=by
 unfold AC;rw[dw];simp only[dw,qf,dB]
theorem zp_map:∀a b:List (Nat×Nat),uD (a.map pD) (b.map pD)=(a.zip b).map λp=>.tup [pD p.1,pD p.2]
 |[],_=>rfl
 |_::_,[]=>rfl
 |x::a,y::b=>by
  have:=zp_map a b;show D.tup [pD x,pD y]::uD (a.map pD) (b.map pD)=_;rw[this];rfl
theorem J8{α:Type}{n:Nat}{xs:List α}{f:α->Bool}{S:Sto}{Q:D×Sto->Prop}(h:S[n]?=Z (.lst (xs.map λx=>D.bl (f x))))(q:Q (.bl (xs.any f),S)):W (DR (.ref n) S) Q:=by
 refine W.of ?_ q;unfold DR;rw[gj h,oS1];have:∀l:List α,Mi.By (l.map λx=>D.bl (f x))=Z (l.any f):=λl=>by
  induction l with
  |nil=>rfl
  |cons x l ih=>rw[mP1,Mi.By,ih];rfl
 dsimp only;rw[this];rfl
theorem mI{m r:Nat}{a:List Int}{S:Sto}(b:a.length=m)(hr:r<m):dD (sgD a) (.int r) S=Z (.int (gu a r),S):=by
 obtain⟨p,e,rfl⟩:=BD (Q:=λp=>p=(.int (gu a r),S)) b hr O;exact e
theorem jE{i:Nat}{xs:List D}{x:D}{S:Sto}(hx:xs[i]?=Z x):dD (.tup xs) (.int i) S=Z (x,S):=by
 obtain⟨p,e,rfl⟩:=lN (Q:=λp=>p=(x,S)) hx O;exact e
theorem zB{m:Nat}{w:dA}(hw:WebJ m w){r d:Nat}{e:Nat×Nat}(he:(fv w r)[d]?=Z e):e.1<m:=by
 unfold fv at he;cases hr:w[r]? with
 |none=>rw[hr]at he;simp at he
 |some a=>rw[hr]at he;exact hw.to r d e ⟨a,hr,he⟩
theorem Co{m:Nat}{w:dA}(hw:WebJ m w)(r:Nat):(fv w r).length<=4:=by
 unfold fv;cases h:w[r]? with
 |none=>simp
 |some a=>exact hw.le r a h
theorem EG{m r k:Nat}{a:List Int}{S:Sto}(b:a.length=m)(hr:r<m)(hk:S[k]?=Z (.lst (a.map D.int))):dD (.ref k) (.int r) S=Z (.int (gu a r),S):=by
 obtain⟨p,e,rfl⟩:=iR (i:=r) (x:=.int (gu a r)) (Q:=λp=>p=(.int (gu a r),S)) hk (by rw[gP1,gG1 (by lia)];unfold gu;rw[bI,gG1 (by lia)];rfl) O;exact e
def El(w:dA)(ts:List Int)(i b:Nat):Prop:=∀p∈(fv w i).zip (fv w b),gu ts p.1.1=gu ts p.2.1/\p.1.2=p.2.2
theorem ni{w:dA}{e d:List Int}{i b:Nat}:lQ w e d i=lQ w e d b↔gu d i=gu d b/\gu e i=gu e b/\(fv w i).length=(fv w b).length/\El w d i b:=by
 have g:∀a c:List (Nat×Nat),a.map (BP d)=c.map (BP d)↔a.length=c.length /\ ∀p∈a.zip c,gu d p.1.1=gu d p.2.1/\p.1.2=p.2.2:=λa=>by
  induction a with
  |nil=>intro c;cases c<;>simp
  |cons x a ih=>
   intro c;cases c with
   |nil=>simp
   |cons y c=>
    rw[mP1,mP1,List.cons.injEq,ih c,bS,lC1,lC1];unfold BP;rw[Prod.mk.injEq];constructor
    ·rintro⟨⟨h1,h2⟩,j,h⟩;refine⟨by lia,λp f=>?_⟩;rcases aE.mp f with z|z
     ·subst z;exact⟨h1,h2⟩
     ·exact h p z
    ·rintro⟨h1,h2⟩;exact⟨h2 (x,y) mS1,by lia,λp f=>h2 p (mC1 _ f)⟩
 unfold lQ El;rw[Prod.mk.injEq,Prod.mk.injEq,g]
abbrev EL(w:dA)(k:Nat)(ts:List Int)(x3 x4 x5 x6:Option D):Ev:=[Z (webD w),Z (.ref k),Z (sgD ts),x3,x4,x5,x6]
theorem Hi{m k i j:Nat}{w:dA}{d c:List Int}{S:Sto}(hw:WebJ m w)(hs:d.length=m)(ht:c.length=m)(hi:i<m)(t:j<m)(hk:S[k]? = some (.lst (d.map D.int))):
  W (iy (EL w k c (Z (.int (i:Nat))) (Z (.tup ((fv w i).map pD))) (Z (.int (j:Nat))) (Z (.tup ((fv w j).map pD)))) S) λp=>(∃G,p.2.2=S++G)/\((p.1 = .nx/\(gu c i=gu c j->lQ w d c i=lQ w d c j)/\p.2.1=EL w k c (Z (.int (i:Nat))) (Z (.tup ((fv w i).map pD))) (Z (.int (j:Nat))) (Z (.tup ((fv w j).map pD))))\/(p.1 = .rt (.bl J) /\ ¬ (gu c i=gu c j->lQ w d c i=lQ w d c j))):=by
 have H:=(gE1.mp hk).1;unfold iy;have v:=mI (S:=S) ht hi;have u:=mI (S:=S) ht t;have I:=EG (S:=S) hs hi hk;have C:=EG (S:=S) hs t hk;by_cases e:gu c i=gu c j
 ·((try walk_at"w");repeat(simp only[v,u];try walk_at"w"))
  rw[ak (by simp[e])];simp only[lM1];by_cases o:(fv w i).length=(fv w j).length
  ·rw[aj (by simp[o])];simp only[I,C,dB];walk_at"w";by_cases n:gu d i=gu d j
   ·rw[aj (by simp[n])];refine JZ (xs:=(fv w i).map pD) (ys:=(fv w j).map pD) O ?_;rw[zp_map];refine j6 (f:=λp:(Nat×Nat)×(Nat×Nat)=>D.tup [pD p.1,pD p.2]) (λp=>D.bl (!(gu c p.1.1 == gu c p.2.1&&p.1.2 == p.2.2))) (λr=>∃x y,r=[x,y,Z (sgD c)]) O _ _ ⟨_,_,O⟩ ?_ ?_
    ·rintro⟨a,b⟩ g r ⟨x,y,rfl⟩;obtain⟨ao,E⟩:=aO g;obtain⟨aq,q⟩:=bq ao;obtain⟨N,s⟩:=bq E;have F:=mI (S:=S) ht (zB hw q);have B:=mI (S:=S) ht (zB hw s);have K:∀(p:Nat×Nat) (S:Sto),dD (pD p) (.int 0) S=Z (.int (p.1:Nat),S):=λp S=>jE (i:=0) O;have A:∀(p:Nat×Nat) (S:Sto),dD (pD p) (.int 1) S=Z (.int (p.2:Nat),S):=λp S=>jE (i:=1) O;walk_at"w";refine EW.mpr ?_;walk_at"w";simp only[K,A,F,B,dB];walk_at"w";by_cases h1:gu c a.1=gu c b.1
     ·rw[aj (by simp[h1])];refine⟨?_,_,_,O⟩;rw[h1,beq_self_eq_true,c7]
      congr 2
      rw[bP,beq_iff_eq,beq_iff_eq];lia
     ·rw[ak (by simpa using h1)];refine⟨?_,_,_,O⟩;rw[beq_eq_false_iff_ne.mpr h1];rfl
    ·rintro L _;refine⟨dG (by rw[lM1,List.length_zip];have:=Co hw i;lia),?_⟩;refine J8 (xs:=(fv w i).zip (fv w j)) (by rw[dF];rfl) ?_;walk_at"w";by_cases l:El w c i j
     ·rw [if_neg (by
       rw[bQ];rintro⟨p,g,h⟩;obtain⟨h1,h2⟩:=l p g;simp[h1,h2]at h)]
      exact⟨⟨_,O⟩,.inl ⟨λ_=>ni.mpr ⟨e,n,o,l⟩,trivial⟩⟩
     ·rw [if_pos (by
       rw[bQ];refine Classical.byContradiction λz=>l λp g=>?_;have:=λh=>z ⟨p,g,h⟩;simpa using this)]
      exact⟨⟨_,O⟩,.inr λz=>l (ni.mp (z e)).2.2.2⟩
   ·rw[ak (by simpa using n)];exact⟨⟨[],(aM _).symm⟩,.inr λz=>n (ni.mp (z e)).2.1⟩
  ·rw[ak (by simp;lia)];exact⟨⟨[],(aM _).symm⟩,.inr λz=>o (ni.mp (z e)).2.2.1⟩
 ·((try walk_at"w");repeat(simp only[v,u];try walk_at"w"))
  rw[aj (by simpa using e)];exact⟨⟨[],(aM _).symm⟩,.inl ⟨λz=>absurd z e,trivial⟩⟩
theorem Er{m i:Nat}{w:dA}{d:D}(hw:WebJ m w)(h:(sC 0 (w.map λb=>D.tup (b.map pD)))[i]?=Z d):i<m/\d = .tup [.int (i:Nat),.tup ((fv w i).map pD)]:=by
 rw[fV,gP1]at h;obtain⟨z,c,rfl⟩:=oM1.mp h;obtain⟨b,a,rfl⟩:=oM1.mp c;refine⟨by rw[<- hw.len];exact(gE1.mp a).1,?_⟩;rw[qw a,bN]
abbrev Kc(m:Nat)(w:dA)(sg ts:List Int)(i:Nat):Prop:=∀b,b<m->gu ts i=gu ts b->lQ w sg ts i=lQ w sg ts b
theorem Hh{m k i:Nat}{w:dA}{c a:List Int}{S:Sto}{x5 x6:Option D}(hw:WebJ m w)(hs:c.length=m)(ht:a.length=m)(hi:i<m)(hk:S[k]? = some (.lst (c.map D.int))):
  W (gB (EL w k a (Z (.int (i:Nat))) (Z (.tup ((fv w i).map pD))) x5 x6) S) λp=>(∃G,p.2.2=S++G)/\((p.1 = .nx/\Kc m w c a i /\ ∃x5 x6,p.2.1=EL w k a (Z (.int (i:Nat))) (Z (.tup ((fv w i).map pD))) x5 x6)\/(p.1 = .rt (.bl J) /\ ¬ Eg m w c a)):=by
 have l:=(gE1.mp hk).1;unfold gB eZ;rw[dw];refine oS (xs:=w.map λg=>.tup (g.map pD)) O ?_;refine ls (λj r V=>(∃G,V=S++G)/\(∀b,b<j->gu a i=gu a b->lQ w c a i=lQ w c a b) /\ ∃x5 x6,r=EL w k a (Z (.int (i:Nat))) (Z (.tup ((fv w i).map pD))) x5 x6) _ 0 _ _ ⟨⟨[],(aM _).symm⟩,(λb h=>absurd h (bv _)),_,_,O⟩ (λ_ _ _ _=>rfl) ?_ ?_
 ·rintro j d q r V ⟨⟨G,rfl⟩,f,x5,x6,rfl⟩;obtain⟨n,rfl⟩:=Er hw q;rw[bN]at *
  walk_at"w";refine(Hi hw hs ht hi n (by rw[gL1 l];exact hk)).mono ?_;rintro⟨t,r,V⟩ ⟨⟨o,e⟩,h⟩;dsimp only at e h ⊢;subst e;rcases h with⟨rfl,h1,rfl⟩|⟨rfl,h1⟩
  ·refine .inl ⟨O,⟨G++o,bF ..⟩,λb s=>?_,_,_,O⟩;rcases cZ.mp s with z|rfl
   ·exact f b z
   ·exact h1
  ·exact .inr ⟨_,O,⟨G++o,bF ..⟩,.inr ⟨O,λz=>h1 (z i j hi n)⟩⟩
 ·rintro r V ⟨⟨G,rfl⟩,f,x5,x6,rfl⟩;rw[fU,lM1,bN,hw.len]at f;exact⟨⟨G,O⟩,.inl ⟨O,f,_,_,O⟩⟩
theorem Hg{m k:Nat}{w:dA}{f c:List Int}{S:Sto}{x3 x4 x5 x6:Option D}(hw:WebJ m w)(hs:f.length=m)(ht:c.length=m)(hk:S[k]? = some (.lst (f.map D.int))):
  W (eZ (om (dr (mV 0) dt)) (gT 2 (fB (gN 3) (fB (gN 4) jl))) gB (EL w k c x3 x4 x5 x6) S) λp=>(∃G,p.2.2=S++G)/\((p.1 = .nx/\Eg m w f c)\/(p.1 = .rt (.bl J) /\ ¬ Eg m w f c)):=by
 have l:=(gE1.mp hk).1;unfold eZ;rw[dw];refine oS (xs:=w.map λj=>.tup (j.map pD)) O ?_;refine ls (λi r V=>(∃G,V=S++G)/\(∀a,a<i->Kc m w f c a) /\ ∃x3 x4 x5 x6,r=EL w k c x3 x4 x5 x6) _ 0 _ _ ⟨⟨[],(aM _).symm⟩,(λb h=>absurd h (bv _)),_,_,_,_,O⟩ (λ_ _ _ _=>rfl) ?_ ?_
 ·rintro i d q r V ⟨⟨G,rfl⟩,g,x3,x4,x5,x6,rfl⟩;obtain⟨hi,rfl⟩:=Er hw q;rw[bN]at *
  walk_at"w";refine(Hh hw hs ht hi (by rw[gL1 l];exact hk)).mono ?_;rintro⟨t,r,V⟩ ⟨⟨o,e⟩,h⟩;dsimp only at e h ⊢;subst e;rcases h with⟨rfl,h1,x5,x6,rfl⟩|⟨rfl,h1⟩
  ·refine .inl ⟨O,⟨G++o,bF ..⟩,λb n=>?_,_,_,_,_,O⟩;rcases cZ.mp n with z|rfl
   ·exact g b z
   ·exact h1
  ·exact .inr ⟨_,O,⟨G++o,bF ..⟩,.inr ⟨O,h1⟩⟩
 ·rintro r V ⟨⟨G,rfl⟩,g,x3,x4,x5,x6,rfl⟩;rw[fU,lM1,bN,hw.len]at g;exact⟨⟨G,O⟩,.inl ⟨O,λa b s n=>g a s b n⟩⟩
theorem Hf{m k:Nat}{w:dA}{c a:List Int}{S:Sto}{Q:D×Sto->Prop}(hw:WebJ m w)(hm:m<=8)(hs:c.length=m)(ht:a.length=m)(n:S.all (Ob.und S.length)=M)(hk:S[k]? = Z (.lst (c.map D.int)))(q:Q (.bl (tf (Eg m w c a)),S)):W (dy 3 eF [webD w,.ref k,sgD a] S) Q:=by
 have j:W (eF [webD w,.ref k,sgD a] S) λp=>(∃G,p.2=S++G)/\p.1 = .bl (tf (Eg m w c a)):=by
  have g:=(gE1.mp hk).1;unfold eF;refine jm ?_;unfold jO;refine dS (λr V=>(∃G,V=S++G)/\r=EL w k a Y Y Y Y) ?_ ?_
  ·have o:dV (webD w) S=Z (.int (m:Nat),S):=by rw[webD,fz,lM1,hw.len]
   ((try walk_at"w");repeat(simp only[fu,AU,o];try walk_at"w"))
   simp only[lM1,ht,decide_true,b0,beq_self_eq_true,if_false,bF1]
   try rw[kB]
   refine j6 (f:=D.int) (λ_=>D.bl M) (λr=>∃x,r=[x]) O a _ ⟨_,O⟩ ?_ ?_
   ·rintro i hi r ⟨x,rfl⟩;walk_at"w";refine xU ?_;exact⟨O,O,_,O⟩
   ·rintro s _;refine⟨dG (by rw[lM1];lia),?_⟩;refine BJ (xs:=a.map D.int) (by rw[dF,bt];rfl) ?_;walk_at"w";exact⟨⟨_,O⟩,trivial⟩
  rintro r V ⟨⟨G,rfl⟩,rfl⟩;obtain⟨⟨t,r,U⟩,e,⟨l,b⟩,h⟩:=Hg (k:=k) (S:=S++G) (x3:=Y) (x4:=Y) (x5:=Y) (x6:=Y) hw hs ht (by rw[gL1 g];exact hk);dsimp only at b h;unfold dH;rw[e,oS1];subst b;rcases h with⟨rfl,h⟩|⟨rfl,h⟩
  ·rw[oW h];exact W.of O ⟨⟨G++l,bF ..⟩,O⟩
  ·rw[uO h];exact W.of O ⟨⟨G++l,bF ..⟩,O⟩
 refine oJ O (by rw[D.unds,ee];rfl) (j.mono ?_);rintro⟨d,V⟩ ⟨⟨G,e⟩,b⟩;dsimp only at e b;subst e;subst b;rw[rJ O n];exact q
theorem EJ{c:FT}{k:FS}{r:Ev}{T:Sto}{b:Bool}{Q:Fl×Ev×Sto->Prop}(hc:W (c r T) λp=>(∃G,p.2=T++G)/\p.1 = !b)(f:b=J -> ∀G,Q (.rt (.bl J),r,T++G))(h1:b=M -> ∀G,W (k r (T++G)) Q):W (dH (eJ c (d6 (mC (D.bl J))) jk) k r T) Q:=by
 obtain⟨⟨g,h⟩,e,⟨G,a⟩,d⟩:=hc;dsimp only at a d;subst a;subst d;unfold dH eJ;rw[e,oS1];cases b with
 |false=>exact dB.mpr (f O G)
 |true=>exact h1 O G
def LF:D->Int
 | .int i=>i
 |_=>0
def tl(n:Nat):D->Bool
 | .tup xs=>decide (xs.length=n)
 |_=>J
def fm(m:Nat):D->Bool
 | .tup xs=>decide (xs.length=m)&&xs.all whD
 |_=>J
def tsD:D->List Int
 | .tup xs=>xs.map LF
 |_=>[]
theorem pS{m:Nat}{d:D}(h:fm m d=M):d=sgD (tsD d)/\(tsD d).length=m:=by
 cases d with
 |tup xs=>
  rw[fm,bA1,am,bA]at h;refine⟨?_,by rw[tsD,lM1];exact h.1⟩;rw[tsD,sgD,bt];have:xs.map (D.int∘LF)=xs.map id:=cH λx a=>by
   have:=h.2 x a;cases x with
   |int i=>rfl
   |_=>cases this
  rw[this,List.map_id]
 |_=>cases h
theorem zb{d:D}{n:Nat}{S:Sto}{Q:D×Sto->Prop}(c:iS S)(hv:vd S d=M)(q:Q (.bl (tl n d),S)):W (dy 2 ed [d,.int n] S) Q:=by
 refine lE O c (by rw[fN,hv,fN,fN];rfl) λT e a=>?_;have b:=nB (iT a mS1);unfold ed;refine jm ?_;unfold iA;cases hi:EH d with
 |false=>
  ((try walk_at"w");repeat(simp only[fu,b,hi];try walk_at"w"))
  have:tl n d=J:=by cases d with
   |tup xs=>cases hi
   |_=>rfl
  rw[this]at q;exact⟨⟨[],(aM _).symm⟩,O,q⟩
 |true=>
  obtain⟨xs,rfl⟩:=oh hi
  ((try walk_at"w");repeat(simp only[fu,b,hi,fz];try walk_at"w"))
  have:((xs.length:Int) == (n:Int))=tl n (.tup xs):=by
   rw[tl,bP,beq_iff_eq,am];lia
  rw[this];exact⟨⟨[],(aM _).symm⟩,O,q⟩
theorem HI{n:Nat}{S:Sto}{xs:List D}{f:D->Bool}{Q:D×Sto->Prop}(h:S[n]?=Z (.lst (xs.map λx=>.bl (f x))))(q:Q (.bl (xs.all f),S)):W (rP (.ref n) S) Q:=by
 refine W.of ?_ q;unfold rP;rw[gj h,oS1];dsimp only;rw[oR (f:=f)];simp
theorem BH{a:FE}{b:FA}{r:Ev}{S:Sto}{Q:List D×Sto->Prop}(h:W (a r S) λp=>W (b r p.2) λq=>Q (p.1::q.1,q.2)):W (dr a b r S) Q:=by
 unfold dr;rw[dw];simp only[dw,dB];exact h
theorem JX{f:G1}{a:FE}{r:Ev}{S:Sto}{Q:D×Sto->Prop}(h:W (a r S) λp=>W (f p.1 p.2) Q):W (mN (b1 f) (dr a dt) r S) Q:=by
 unfold mN;rw[dw];exact BH (h.mono λp b=>W.of O b)
theorem Bz{g:FN}{r:Ev}{T:Sto}{xs:List D}(h2:r[2]?=Z (Z (.tup xs)))(c:xs.length<=1000)(hg:∀x∈xs,W (dy 1 g [x] T) λp=>p=(.bl (whD x),T)):W (mTr (mN (b1 rP) (dr (eO 1 [] (gU (mV 2)) (gN 0) fx (ej (mN (dy 1 g) (dr (mV 0) dt)))) dt)) r T) λp=>p=(xs.all whD,T++[.lst (xs.map λx=>.bl (whD x))]):=by
 have a:∀S,mV 2 r S=Z (.tup xs,S):=λS=>by unfold mV;rw[h2]
 unfold mTr;rw[dw];refine JX ?_;rw[lO,ml,a,dB];dsimp only;rw[kB];dsimp only;rw[show l9 1 [] r=[Y]from rfl];refine(λh=>by rwa [List.map_id]at h:∀{Q},W (gt [] (gN 0) fx (ej (mN (dy 1 g) (dr (mV 0) dt))) (xs.map id) [Y] T) Q->W (gt [] (gN 0) fx (ej (mN (dy 1 g) (dr (mV 0) dt))) xs [Y] T) Q) ?_;refine j6 (f:=id) (λx=>D.bl (whD x)) (λr=>∃x,r=[x]) O xs _ ⟨_,O⟩ ?_ ?_
 ·rintro x b r ⟨y,rfl⟩;walk_at"w";refine(hg x b).mono ?_;rintro p rfl;exact⟨O,O,_,O⟩
 ·rintro d _;refine⟨dG (by rw[lM1];lia),?_⟩;refine HI (xs:=xs) (f:=whD) (by rw[dF];rfl) ?_;exact W.of O O
theorem f0{S:Sto}{xs:List D}(h:vd S (.tup xs)=M):∀x∈xs,vd S x=M:=λx a=>by
 rw[vd]at h;exact iT h a
theorem yN{m:Nat}{w:dA}(hw:WebJ m w)(hm:m<=8):bd 8 (webD w)=M:=by
 rw[webD,bd,i8,bA1,am,lM1,hw.len,bA];refine⟨hm,λx d=>?_⟩;obtain⟨a,b,rfl⟩:=cc.mp d;obtain⟨i,hi⟩:=bq b;rw[bd,i8,bA1,am,lM1,bA];refine⟨by have:=hw.le i a hi;lia,λy c=>?_⟩;obtain⟨e,_,rfl⟩:=cc.mp c;rfl
theorem DB{k:Nat}{zs:List Int}(h:zs.length<=k):bd k (sgD zs)=M:=by
 rw[bd,i8,bA1,am,lM1,bA];refine⟨h,λy a=>?_⟩;obtain⟨e,_,rfl⟩:=cc.mp a;rw[bd]
theorem qh{m:Nat}{w:dA}(hw:WebJ m w)(hm:m<=8)(S:Sto):vd S (webD w)=M:=sH (yN hw hm) (ee w)
theorem Iv(zs:List Int)(S:Sto):vd S (sgD zs)=M:=sH (DB (nR1 _)) (hH zs)
def jo(m:Nat)(w:dA)(sg:List Int)(d:D):Bool:=fm m d&&tf (Eg m w sg (tsD d))
theorem tS{m:Nat}{w:dA}{a:List Int}{d:D}{S:Sto}{Q:D×Sto->Prop}(hw:WebJ m w)(hm:m<=8)(hs:a.length=m)(l:iS S)(hv:vd S d=M)(i:∀xs,d = .tup xs->xs.length<=1000)(q:Q (.bl (jo m w a d),S)):W (dy 3 eg [webD w,sgD a,d] S) Q:=by
 unfold jo at q;cases hf:fm m d with
 |true=>
  obtain⟨e,i⟩:=pS hf;rw[hf,c7]at q;rw[e];exact Dy hw hm hs i q
 |false=>
  rw[hf,aK]at q;refine lE O l (by rw[fN,fN,fN,fN,hv,qh hw hm,Iv];rfl) λT j f=>?_;have c:vd T d=M:=iT f (by simp);unfold eg;refine jm ?_;unfold ic;refine EJ (b:=J) ?_ (λ_ G=>⟨⟨G,O⟩,O,q⟩) (λh=>by cases h);have n:dV (webD w) T=Z (.int (m:Nat),T):=by rw[webD,fz,lM1,hw.len]
  unfold mOr;rw[dw];have h1:W (gI (mTr (mN (dy 2 ed) (dr (mV 2) (dr (mN (b1 dV) (dr (mV 0) dt)) dt)))) (fh 3 [webD w,sgD a,d]) T) λp=>p=(!tl m d,T):=by
   ((try walk_at"w");repeat(simp only[n];try walk_at"w"))
   refine zb j c ?_;walk_at"w"
  refine h1.mono ?_;rintro p rfl;dsimp only;cases ht:tl m d with
  |false=>exact W.of O ⟨⟨[],(aM _).symm⟩,O⟩
  |true=>
   cases d with
   |tup xs=>
    rw[fm,show decide (xs.length=m)=M from ht,c7]at hf;have h2:=Bz (g:=e9) (r:=fh 3 [webD w,sgD a,.tup xs]) (T:=T) (xs:=xs) O (i xs O) λx k=>vN j (f0 c x k) O;obtain⟨_,o,rfl⟩:=h2;unfold gI;rw[show(if(!true)=M then _ else _)=_ from aj (by decide)];rw[o,hf];exact W.of O ⟨⟨_,O⟩,O⟩
   |_=>cases ht
theorem DS{m k:Nat}{w:dA}{j:List Int}{d:D}{S:Sto}{Q:D×Sto->Prop}(hw:WebJ m w)(hm:m<=8)(hs:j.length=m)(f:iS S)(hk:S[k]?=Z (.lst (j.map D.int)))(hv:vd S d=M)(i:∀xs,d = .tup xs->xs.length<=1000)(q:Q (.bl (jo m w j d),S)):W (dy 3 eF [webD w,.ref k,d] S) Q:=by
 unfold jo at q;cases hf:fm m d with
 |true=>
  obtain⟨e,i⟩:=pS hf;rw[hf,c7]at q;rw[e];exact Hf hw hm hs i f hk q
 |false =>
  rw[hf,aK]at q;have l:W (eF [webD w,.ref k,d] S) λp=>(∃G,p.2=S++G)/\p.1 = .bl J:=by
   unfold eF;refine jm ?_;unfold jO;refine EJ (b:=J) ?_ (λ_ G=>⟨⟨G,O⟩,O⟩) (λh=>by cases h);have s:dV (webD w) S=Z (.int (m:Nat),S):=by rw[webD,fz,lM1,hw.len]
   have n:=nB hv;cases hi:EH d with
   |false=>
    ((try walk_at"w");repeat(simp only[fu,n,hi];try walk_at"w"))
    exact⟨⟨[],(aM _).symm⟩,by first|trivial|rfl⟩
   |true=>
    obtain⟨xs,rfl⟩:=oh hi;by_cases a:xs.length=m
    ·rw [fm,decide_eq_true a,c7] at hf;have h2:=Bz (g:=dW) (r:=fh 7 [webD w,.ref k,.tup xs]) (T:=S) (xs:=xs) rfl (i xs rfl) fun x y=>hB f (f0 hv x y) rfl;obtain ⟨_,A,rfl⟩:=h2;have B:W (mOr (mB (m2 (b2 gNe) (mN (b1 dV) (dr (mV 2) dt)) (mN (b1 dV) (dr (mV 0) dt)))) (gI (mTr (mN (b1 rP) (dr (eO 1 [] (gU (mV 2)) (gN 0) fx (ej (mN (dy 1 dW) (dr (mV 0) dt)))) dt)))) (fh 7 [webD w,.ref k,.tup xs]) S) fun p=>(∃ G,p.2=S++G)/\p.1=true:=by
      unfold mOr;rw[dw];refine W.of (x:=(J,S)) ?_ ?_
      ·have:mB (m2 (b2 gNe) (mN (b1 dV) (dr (mV 2) dt)) (mN (b1 dV) (dr (mV 0) dt))) (fh 7 [webD w,.ref k,.tup xs]) S=some (!((xs.length:Int) == (m:Int)),S):=by
        have v:mN (b1 dV) (dr (mV 0) dt) (fh 7 [webD w,.ref k,.tup xs]) S=Z (.int (m:Nat),S):=by
         show(dV (webD w) S)=_;exact s
        have c:mN (b1 dV) (dr (mV 2) dt) (fh 7 [webD w,.ref k,.tup xs]) S=Z (.int (xs.length:Nat),S):=rfl;unfold mB m2;rw[c,oS1];dsimp only;rw[v,oS1];rfl
       rw[this,a,beq_self_eq_true];rfl
      ·dsimp only;rw[aj (by decide)];unfold gI;rw[A,hf];exact W.of O ⟨⟨_,O⟩,O⟩
     obtain⟨⟨b3,C⟩,c,⟨G3,t⟩,o⟩:=B;dsimp only at t o;subst t;subst o;unfold mOr at c ⊢;have z:gI (mTr (iK .tuple (mV 2))) (fh 7 [webD w,.ref k,.tup xs]) S=Z (J,S):=rfl;rw[z,oS1];dsimp only;rw[aj (by decide)];exact W.of c ⟨⟨G3,O⟩,O⟩
    ·((try walk_at"w");repeat(simp only[fu,n,hi,s,fz];try walk_at"w"))
     have:((xs.length:Int) == (m:Int))=J:=by simp;lia
     rw[this]
     try walk_at"w"
     exact⟨⟨[],(aM _).symm⟩,by first|trivial|rfl⟩
  refine oJ O (by rw[D.unds,ee];rfl) (l.mono ?_);rintro⟨E,V⟩ ⟨⟨G,e⟩,u⟩;dsimp only at e u;subst e;subst u;rw[rJ O f];exact q
def Kr:D->Bool
 | .str _=>M
 |_=>J
theorem yY{S:Sto}{d:D}(h:vd S d=M):jF S .str d=Z (Kr d):=by
 cases d with
 |ref n=>
  rw[vd]at h;rw[jF];split at h<;>first|(rename_i e;rw[e];rfl)|rfl|cases h
 |fn x=>simp[vd]at h
 |_=>rfl
def sB(x:Str)(n:Nat):D->Bool
 | .tup (.str y::ds)=>decide (ds.length+1=n)&&(y == x)
 |_=>J
theorem nk{x:Str}{d:D}{n:Nat}{S:Sto}{Q:D×Sto->Prop}(hn:0<n)(f:iS S)(hv:vd S d=M)(q:Q (.bl (sB x n d),S)):W (dy 3 gf [d,.str x,.int n] S) Q:=by
 refine lE O f (by rw[fN,hv,fN,fN,fN];rfl) λT g b=>?_;have a:vd T d=M:=iT b mS1;unfold gf;refine jm ?_;unfold mQ;walk_at"w";refine zb g a ?_;cases ht:tl n d with
 |false=>
  walk_at"w";have:sB x n d=J:=by
   cases d with
   |tup xs=>
    cases xs with
    |nil=>rfl
    |cons y ys=>
     cases y with
     |str s=>
      rw[sB];rw[tl,lC1]at ht;rw[ht];rfl
     |_=>rfl
   |_=>rfl
  rw[this]at q;exact⟨⟨[],(aM _).symm⟩,O,q⟩
 |true=>
  cases d with
  |tup xs=>
   rw[tl,am]at ht;cases xs with
   |nil=>simp at ht;lia
   |cons y ys=>
    have c:∀S,dD (.tup (y::ys)) (.int 0) S=Z (y,S):=λS=>jE (i:=0) O;have e:=yY (f0 a y mS1);cases hs:Kr y with
    |false=>
     ((try walk_at"w");repeat(simp only[fu,c,e,hs];try walk_at"w"))
     have:sB x n (.tup (y::ys))=J:=by
      cases y with
      |str s=>cases hs
      |_=>rfl
     rw[this]at q;exact⟨⟨[],(aM _).symm⟩,O,q⟩
    |true=>
     cases y with
     |str s=>
      ((try walk_at"w");repeat(simp only[fu,c,e,hs];try walk_at"w"))
      have:sB x n (.tup (.str s::ys))=(s == x):=by rw[sB,ah (by rw[lC1]at ht;exact ht),c7]
      rw[this]at q;exact⟨⟨[],(aM _).symm⟩,O,q⟩
     |_=>cases hs
  |_=>cases ht
theorem H9{a:List Int}{S:Sto}{Q:D×Sto->Prop}(e:a.length<=100)(q:Q (.bl (!decide ((ddI a).length<a.length)),S)):W (dy 1 eN [sgD a] S) Q:=by
 refine iP O (by rw[D.unds,hH];rfl) ?_;unfold eN;refine jm ?_;unfold i9;have d:=nI (ns:=a) (S:=[]) e
 ((try walk_at"w");repeat(simp only[d];try walk_at"w"))
 refine su O ?_;walk_at"w";rw[lM1];refine⟨O,?_⟩;have b:=(rY a [] bp).1;have c:((((ddI a).length:Nat):Int) == ((a.length:Nat):Int)) = !decide ((ddI a).length<a.length):=by
  have:(ddI a).length<=a.length:=by simpa[ddI]using b
  rw[bP];simp;lia
 rw[c];exact q
def vC(m:Nat)(w:dA)(ws cs:List Nat)(c:D):Bool:=jo m w (sgL m ws cs M) c&&decide ((ddI (tsD c)).length<m)
def mU(n:Nat):D->D->Bool
 | .int i,.int j=>decide (0<=i)&&(decide (i<j)&&decide (j<n))
 |_,_=>J
def Kl(ws:List Nat):D->Nat
 | .int i=>ws.getD i.toNat 0
 |_=>0
def vA(m:Nat)(w:dA)(ws cs:List Nat)(i j c:D):Bool:=mU ws.length i j&&(jo m w (sgL m ws cs J) c&&gu (tsD c) (Kl ws i) == gu (tsD c) (Kl ws j))
def vP(m:Nat)(w:dA)(ws cs:List Nat)(b:Bool):D->Bool
 | .tup [.str x,c]=>(x == "colours")&&vC m w ws cs c
 | .tup [.str x,i,j,c]=>(x == "alike")&&(b&&vA m w ws cs i j c)
 |_=>J
theorem xg{rs:List Nat}{i:Nat}{S:Sto}(hi:i<rs.length):dD (.tup (nmD rs)) (.int i) S=Z (.int (rs.getD i 0:Nat),S):=by
 obtain⟨p,e,rfl⟩:=BI (rs:=rs) (Q:=λp=>p=(.int (rs.getD i 0:Nat),S)) hi O;exact e
theorem Ai{k:Nat}{rs:List Nat}(h:rs.length<=k):bd k (.tup (nmD rs))=M:=by
 rw[bd,i8,bA1,am,ea,bA];refine⟨h,λy a=>?_⟩;obtain⟨e,_,rfl⟩:=cc.mp a;rw[bd]
theorem Ey(rs:List Nat)(S:Sto):vd S (.tup (nmD rs))=M:=sH (Ai (nR1 _)) (by rw[D.und];exact fy _)
theorem zo(ws cs:List Nat)(S:Sto):vd S (stD ws cs)=M:=by
 unfold stD;rw[vd,fN,fN,fN,Ey,Ey];rfl
def Sh(d:D):Prop:=∀xs,d = .tup xs->xs.length<=1000 /\ ∀x∈xs,∀ys,x = .tup ys->ys.length<=1000
theorem xC{m:Nat}{w:dA}{ws cs:List Nat}{x:Str}{i j c:D}{S:Sto}{Q:D×Sto->Prop}(hw:WebJ m w)(o:0<m)(hm:m<=8)(t:∀x∈ws,x<m)(G:iS S)(hi:vd S i=M)(I:vd S j=M)(hc:vd S c=M)(ao:∀xs,c = .tup xs->xs.length<=1000)(q:Q (.bl (vA m w ws cs i j c),S)):W (dy 3 fS [webD w,stD ws cs,.tup [.str x,i,j,c]] S) Q:=by
 have H:vd S (.tup [.str x,i,j,c])=M:=by rw[vd,fN,fN,fN,fN,fN,hi,I,hc];rfl
 refine lE O G (by rw[fN,fN,fN,fN,qh hw hm,zo,H];rfl) λT l v=>?_;have e:vd T (.tup [.str x,i,j,c])=M:=iT v (by simp);have p:=f0 e i (by simp);have f:=f0 e j (by simp);have B:=f0 e c (by simp);unfold fS;refine jm ?_;unfold kq;refine dS (λr V=>V=T/\r=[Z (webD w),Z (stD ws cs),Z (.tup [.str x,i,j,c]),Z (.tup (nmD ws)),Z (.tup (nmD cs)),Y,Y,Y,Y]) ?_ ?_
 ·unfold stD;walk_at"w"
 rintro r V ⟨rfl,rfl⟩;refine dS (λr U=>U=V/\r=[Z (webD w),Z (stD ws cs),Z (.tup [.str x,i,j,c]),Z (.tup (nmD ws)),Z (.tup (nmD cs)),Z (.str x),Z i,Z j,Z c]) ?_ ?_
 ·walk_at"w"
 rintro r U ⟨rfl,rfl⟩;unfold vA at q;have s:∀b:Bool,b=J->Q (.bl (b&&(jo m w (sgL m ws cs J) c&&gu (tsD c) (Kl ws i) == gu (tsD c) (Kl ws j))),S)->Q (.bl J,S):=λb K h=>by rw[K]at h;exact h
 cases hbj:lG ws.length j with
 |false=>
  have h2:mU ws.length i j=J:=by
   cases i with
   |int a=>
    cases j with
    |int b=>
     rw[lG,Bool.and_eq_false_iff,decide_eq_false_iff_not,decide_eq_false_iff_not]at hbj;rw[mU];by_cases z:0<=a
     ·by_cases h1:a<b
      ·rw[ai (show¬ b<(ws.length:Int) by lia),bZ,bZ]
      ·rw[ai h1,aK,bZ]
     ·rw[ai z,aK]
    |_=>rfl
   |_=>rfl
  refine kA ?_;walk_at"w";rw[ea];refine lF l f ?_;rw[hbj];walk_at"w";exact⟨⟨[],(aM _).symm⟩,O,s _ h2 q⟩
 |true=>
  cases j with
  |int E=>
   rw[lG,bA1,am,am]at hbj;obtain⟨d,rfl⟩:∃n:Nat,E=n:=⟨E.toNat,by lia⟩;have A:d<ws.length:=by lia
   cases hbi:lG d i with
   |false=>
    have h2:mU ws.length i (.int (d:Nat))=J:=by
     cases i with
     |int a=>
      rw[lG,Bool.and_eq_false_iff,decide_eq_false_iff_not,decide_eq_false_iff_not]at hbi;rw[mU];by_cases z:0<=a
      ·rw[ai (show¬ a<(d:Int) by lia),aK,bZ]
      ·rw[ai z,aK]
     |_=>rfl
    refine kA ?_;walk_at"w";rw[ea];refine lF l f ?_;rw[show lG ws.length (.int (d:Nat))=M by rw[lG,ah hbj.1,ah hbj.2];rfl];walk_at"w";refine lF l p ?_;rw[hbi];walk_at"w";exact⟨⟨[],(aM _).symm⟩,O,s _ h2 q⟩
   |true=>
    cases i with
    |int F=>
     rw[lG,bA1,am,am]at hbi;obtain⟨k,rfl⟩:∃n:Nat,F=n:=⟨F.toNat,by lia⟩;have u:k<ws.length:=by lia
     have h2:mU ws.length (.int (k:Nat)) (.int (d:Nat))=M:=by rw[mU,ah hbi.1,ah hbi.2,ah hbj.2];rfl
     rw[h2,c7]at q;refine dS (λr V=>V=U/\r=[Z (webD w),Z (stD ws cs),Z (.tup [.str x,.int (k:Nat),.int (d:Nat),c]),Z (.tup (nmD ws)),Z (.tup (nmD cs)),Z (.str x),Z (.int (k:Nat)),Z (.int (d:Nat)),Z c]) ?_ ?_
     ·walk_at"w";rw[ea];refine lF l f ?_;rw[show lG ws.length (.int (d:Nat))=M by rw[lG,ah hbj.1,ah hbj.2];rfl];walk_at"w";refine lF l p ?_;rw[show lG d (.int (k:Nat))=M by rw[lG,ah hbi.1,ah hbi.2];rfl];walk_at"w"
     rintro r V ⟨rfl,rfl⟩;walk_at"w";refine r6 (ws:=ws) hw hm ?_;refine tS hw hm kX l B ao ?_;cases hf:jo m w (sgL m ws cs J) c with
     |false=>
      rw[hf]at q;walk_at"w";exact⟨⟨[],(aM _).symm⟩,O,q⟩
     |true=>
      rw[hf,c7]at q;have y:fm m c=M:=by unfold jo at hf;rw[bA1]at hf;exact hf.1
      obtain⟨C,g⟩:=pS y;generalize tsD c=ts at C g q;subst C;have a1:=xg (S:=V) u;have a2:=xg (S:=V) A;have b1:=mI (S:=V) g (j1 (i:=k) o t);have b2:=mI (S:=V) g (j1 (i:=d) o t)
      ((try walk_at"w");repeat(simp only[a1,a2,b1,b2];try walk_at"w"))
      exact⟨⟨[],(aM _).symm⟩,O,q⟩
    |_=>cases hbi
  |_=>cases hbj
theorem wM{x:Str}{n:Nat}{d:D}(h:sB x n d=M):∃ds,d = .tup (.str x::ds)/\ds.length+1=n:=by
 cases d with
 |tup xs=>
  cases xs with
  |nil=>cases h
  |cons y ys=>
   cases y with
   |str s=>
    rw[sB,bA1,am,beq_iff_eq]at h;exact⟨ys,by rw[h.2],h.1⟩
   |_=>cases h
 |_=>cases h
theorem Jt{α:Type}{l:List α}(h:l.length+1=2):∃a,l=[a]:=by
 match l,h with
 |[a],_=>exact⟨a,O⟩
theorem Js{α:Type}{l:List α}(h:l.length+1=4):∃a b c,l=[a,b,c]:=by
 match l,h with
 |[a,b,c],_=>exact⟨a,b,c,O⟩
theorem yU {m:Nat}{w:dA}{ws cs:List Nat}{b:Bool}{d:D}(h1:sB "colours" 2 d=J)(h2:(b&&sB "alike" 4 d)=J):vP m w ws cs b d=J:=by
 unfold vP;split
 ·rename_i x c;have:(x == "colours")=J:=by simpa[sB]using h1
  rw[this];rfl
 ·rename_i x i j c;cases b with
  |false=>rw[aK,bZ]
  |true=>
   have:(x == "alike")=J:=by simpa[sB]using h2
   rw[this];rfl
 ·rfl
theorem zu{m:Nat}{w:dA}{ws cs:List Nat}{b:Bool}{d:D}{S:Sto}{Q:D×Sto->Prop}(hw:WebJ m w)(p:0<m)(hm:m<=8)(s:∀x∈ws,x<m)(v:iS S)(hv:vd S d=M)(h:Sh d)(q:Q (.bl (vP m w ws cs b d),S)):W (dy 4 fR [webD w,stD ws cs,.bl b,d] S) Q:=by
 refine lE O v (by rw[fN,fN,fN,fN,fN,qh hw hm,zo,hv];rfl) λT g l=>?_;have a:vd T d=M:=iT l (by simp);unfold fR;refine jm ?_;unfold kn;cases h1:sB "colours" 2 d with
 |true=>
  obtain⟨ds,rfl,o⟩:=wM h1;obtain⟨c,rfl⟩:=Jt o;have t:∀S,dD (.tup [.str "colours",c]) (.int 1) S=Z (c,S):=λS=>jE (i:=1) O;refine kA ?_;walk_at"w";refine nk (by decide) g a ?_;rw[h1];walk_at"w";refine BA hw hm ?_
  ((try walk_at"w");repeat(simp only[t];try walk_at"w"))
  refine tS hw hm kX g (f0 a c (by simp)) (λxs e=>(h _ O).2 c (by simp) xs e) ?_;have f:Q (.bl (jo m w (sgL m ws cs M) c&&decide ((ddI (tsD c)).length<m)),S):=q;cases hf:jo m w (sgL m ws cs M) c with
  |false=>
   rw[hf]at f;walk_at"w";exact⟨⟨[],(aM _).symm⟩,O,f⟩
  |true=>
   rw[hf,c7]at f;have n:fm m c=M:=by unfold jo at hf;rw[bA1]at hf;exact hf.1
   obtain⟨u,k⟩:=pS n;generalize tsD c=ts at u k f;subst u
   ((try walk_at"w");repeat(simp only[t];try walk_at"w"))
   refine H9 (by lia) ?_;walk_at"w";rw[k];refine⟨⟨[],(aM _).symm⟩,O,?_⟩;simpa using f
 |false=>
  refine dS (λr V=>V=T/\r=[Z (webD w),Z (stD ws cs),Z (.bl b),Z d]) ?_ ?_
  ·walk_at"w";refine nk (by decide) g a ?_;rw[h1];walk_at"w"
  rintro r V ⟨rfl,rfl⟩;cases b with
  |false=>
   rw[yU h1 O]at q;walk_at"w";exact⟨⟨[],(aM _).symm⟩,O,q⟩
  |true=>
   cases h2:sB "alike" 4 d with
   |false=>
    rw[yU h1 (by rw[h2];rfl)]at q;walk_at"w";refine nk (by decide) g a ?_;rw[h2];walk_at"w";exact⟨⟨[],(aM _).symm⟩,O,q⟩
   |true=>
    obtain⟨ds,rfl,o⟩:=wM h2;obtain⟨i,j,c,rfl⟩:=Js o;have f:Q (.bl (vA m w ws cs i j c),S):=q;walk_at"w";refine nk (by decide) g a ?_;rw[h2];walk_at"w";refine xC hw p hm s g (f0 a i (by simp)) (f0 a j (by simp)) (f0 a c (by simp)) (λxs e=>(h _ O).2 c (by simp) xs e) ?_;exact⟨⟨[],(aM _).symm⟩,O,f⟩
theorem AG{m:Nat}{w:dA}{ws cs:List Nat}{b:Bool}{S:Sto}{Q:D×Sto->Prop}(hw:WebJ m w)(hm:m<=8)(q:Q (.ref S.length,S++[.lst ((sgL m ws cs b).map D.int)])):W (dy 3 fr [webD w,stD ws cs,.bl b] S) Q:=by
 refine JP O (by rw[D.unds,ee,D.unds,nE];rfl) ((AF hw hm).mono ?_);rintro p rfl;exact⟨_,O,eR λ_ _=>rfl,q⟩
theorem Iu{T:Sto}{zs:List Int}(h:iS T):iS (T++[.lst (zs.map D.int)]):=by
 unfold iS at *
 rw[cJ,bA1];refine⟨bA.mpr λo a=>fP (by simp) (bA.mp h o a),?_⟩;have:(Ob.lst (zs.map D.int)).und 0=M:=eR λ_ _=>rfl;rw[bO,fP (bh _) this];rfl
theorem E7{T G:Sto}{d:D}(h:vd T d=M):vd (T++G) d=M:=ql (λn a=>by
 rw[vd]at a ⊢;cases e:T[n]? with
 |none=>rw[e]at a;cases a
 |some x=>rw[gL1 (gE1.mp e).1,e];rw[e]at a;exact a) h
theorem B4{m:Nat}{w:dA}{ws cs:List Nat}{b:Bool}{y:D}{ys:List D}(h:Kr y=J):vP m w ws cs b (.tup (y::ys))=J:=by
 unfold vP;split
 ·rename_i e;cases e;cases h
 ·rename_i e;cases e;cases h
 ·rfl
theorem vg{m:Nat}{w:dA}{ws cs:List Nat}{b:Bool}{c:D}{T:Sto}{Q:D×Sto->Prop}(hw:WebJ m w)(hm:m<=8)(d:iS T)(hc:vd T c=M)(a:∀xs,c = .tup xs->xs.length<=1000)(q:Q (.bl (jo m w (sgL m ws cs b) c),T++[.lst ((sgL m ws cs b).map D.int)])):W (dy 3 eF [webD w,.ref T.length,c] (T++[.lst ((sgL m ws cs b).map D.int)])) Q:=
 DS hw hm kX (Iu d) (by rw[dF];rfl) (E7 hc) a q
theorem Hr{r:Ev}{S:Sto}{c eb d:FE}{a b n:Int}(ha:c r S=Z (.int a,S))(hb:eb r S=Z (.int b,S))(hc:d r S=Z (.int n,S)):mB (xT (b2 (i4 λi j=>decide (i<=j))) (b2 gLt) (b2 gLt) (mC (D.int (0))) c eb d) r S=Z (decide (0<=a)&&(decide (a<b)&&decide (b<n)),S):=by
 have h1:b2 (i4 λi j=>decide (i<=j)) [D.int 0,D.int a] S=Z (.bl (decide (0<=a)),S):=rfl;have h2:b2 gLt [D.int a,D.int b] S=Z (.bl (decide (a<b)),S):=rfl;have e:b2 gLt [D.int b,D.int n] S=Z (.bl (decide (b<n)),S):=rfl;have f:mC (D.int 0) r S=Z (.int 0,S):=rfl;unfold mB xT;simp only[f,ha,hb,hc,h1,h2,e,oS1];cases decide (0<=a)with
 |false=>rfl
 |true=>
  simp only[if_true,oS1];cases decide (a<b)with
  |false=>rfl
  |true=>rfl
theorem Hk{m:Nat}{w:dA}{ws cs:List Nat}{b:Bool}{d:D}{S:Sto}{Q:D×Sto->Prop}(hw:WebJ m w)(H:0<m)(hm:m<=8)(ao:∀x∈ws,x<m)(wq:iS S)(hv:vd S d=M)(R:Sh d)(q:Q (.bl (vP m w ws cs b d),S)):W (dy 4 ia [webD w,stD ws cs,.bl b,d] S) Q:=by
 refine lE O wq (by rw[fN,fN,fN,fN,fN,qh hw hm,zo,hv];rfl) λT v P=>?_;have h:vd T d=M:=iT P (by simp);unfold ia;refine jm ?_;unfold oQ;have N:=nB h;have nil:(∃G,T=T++G):=⟨[],(aM _).symm⟩;have e0:∀S,dV (webD w) S=Z (.int (m:Nat),S):=λS=>by rw[webD,fz,lM1,hw.len]
 cases hi:EH d with
 |false=>
  have:vP m w ws cs b d=J:=by cases d with
   |tup xs=>cases hi
   |_=>rfl
  rw[this]at q;refine kA ?_
  ((try walk_at"w");repeat(simp only[fu,N,hi];try walk_at"w"))
  exact⟨nil,O,q⟩
 |true =>
  obtain⟨xs,rfl⟩:=oh hi;cases xs with
  |nil=>
   refine kA ?_
   ((try walk_at"w");repeat(simp only[fu,N,hi,oC];try walk_at"w"))
   simp only[List.isEmpty_nil]
   try walk_at"w"
   exact⟨nil,O,q⟩
  |cons y ys=>
   have F:∀S,dD (.tup (y::ys)) (.int 0) S=Z (y,S):=λS=>jE (i:=0) O;have ar:=yY (f0 h y mS1);cases hs:Kr y with
   |false=>
    rw[B4 hs]at q;refine kA ?_
    ((try walk_at"w");repeat(simp only[fu,N,hi,oC,F];try walk_at"w"))
    rw[aj (by simp),ar,hs,dB];exact⟨O,nil,O,q⟩
   |true =>
    cases y with
    |str s =>
     refine dS (λr V=>V=T/\r=[Z (webD w),Z (stD ws cs),Z (.bl b),Z (.tup (.str s::ys)),Y]) ?_ ?_
     ·((try walk_at"w");repeat(simp only[fu,N,hi,oC,F];try walk_at"w"))
      rw[aj (by simp),ar,hs,dB,aj (by decide)]
      all_goals first|exact⟨rfl,rfl,rfl⟩|exact⟨rfl,rfl⟩|trivial
     rintro r V ⟨rfl,rfl⟩;have sh:=R _ O;have el:∀S,dV (.tup (D.str s::ys)) S=Z (.int (ys.length+1:Nat),S):=λS=>by rw[fz,lC1]
     by_cases k:sB "colours" 2 (.tup (.str s::ys))=M
     ·obtain⟨ds,e,au⟩:=wM k;cases e;obtain⟨c,rfl⟩:=Jt au;have p:∀S,dD (.tup [.str "colours",c]) (.int 1) S=Z (c,S):=λS=>jE (i:=1) O;have f:Q (.bl (jo m w (sgL m ws cs M) c&&decide ((ddI (tsD c)).length<m)),S):=q;refine kA ?_
      ((try walk_at"w");repeat(simp only[F];try walk_at"w"))
      rw[ak (by decide)];refine⟨by decide,?_⟩;refine AG hw hm ?_
      ((try walk_at"w");repeat(simp only[p];try walk_at"w"))
      refine vg hw hm v (f0 h c (by simp)) (λxs e=>sh.2 c (by simp) xs e) ?_;cases hf:jo m w (sgL m ws cs M) c with
      |false=>
       rw[hf]at f;walk_at"w";exact⟨⟨_,O⟩,O,f⟩
      |true=>
       rw[hf,c7]at f;have A:fm m c=M:=by unfold jo at hf;rw[bA1]at hf;exact hf.1
       obtain⟨B,l⟩:=pS A;generalize tsD c=ts at B l f;subst B
       ((try walk_at"w");repeat(simp only[p];try walk_at"w"))
       rw[nI (by lia),dB];dsimp only;refine su (by rw[dF];rfl) ?_
       ((try walk_at"w");repeat(simp only[e0];try walk_at"w"))
       have:decide ((((ddI ts).length:Nat):Int)<(m:Int))=decide ((ddI ts).length<m):=by rw[bP];simp
       rw[this];exact⟨⟨_,O⟩,O,f⟩
     ·rw [cC] at k;have u:((s == "colours")&&(((ys.length+1:Nat):Int) == 2))=false:=by
       rw[sB]at k;rw[Bool.and_comm]at k;have:decide (ys.length+1=2)=(((ys.length+1:Nat):Int) == 2):=by rw[bP,am,beq_iff_eq];lia
       rwa [this]at k
      refine dS (λr U=>U=V/\r=[Z (webD w),Z (stD ws cs),Z (.bl b),Z (.tup (.str s::ys)),Y]) ?_ ?_
      ·((try walk_at"w");repeat(simp only[F];try walk_at"w"))
       cases h1:(s == "colours")with
       |false=>
        rw[aj (by decide)]
        all_goals first|exact⟨rfl,rfl,rfl⟩|exact⟨rfl,rfl⟩|trivial
       |true=>
        rw[h1,c7]at u;rw[ak O,u,aj (by decide)]
        all_goals first|exact⟨rfl,rfl,rfl⟩|exact⟨rfl,rfl⟩|trivial
      rintro r U ⟨rfl,rfl⟩;cases g:(b&&sB "alike" 4 (.tup (.str s::ys)))with
      |false=>
       rw[yU k g]at q;have t:((s == "alike")&&((((ys.length+1:Nat):Int) == 4)&&b))=J:=by
        rw[sB]at g;have:decide (ys.length+1=4)=(((ys.length+1:Nat):Int) == 4):=by rw[bP,am,beq_iff_eq];lia
        rw[this]at g;rw[<- g];cases(s == "alike")<;>cases(((ys.length+1:Nat):Int) == 4)<;>cases b<;>rfl
       refine kA ?_
       ((try walk_at"w");repeat(simp only[F];try walk_at"w"))
       cases h1:(s == "alike")with
       |false=>
        rw[ak (by decide)];exact⟨nil,O,q⟩
       |true=>
        rw[aj (by decide)];cases h2:(((ys.length+1:Nat):Int) == 4)with
        |false=>
         rw[ak (by decide)];exact⟨nil,O,q⟩
        |true=>
         rw[aj (by decide)];rw[h1,h2,c7,c7]at t;rw[t];exact⟨O,nil,O,q⟩
      |true=>
       rw[bA1]at g;obtain⟨rfl,g⟩:=g;obtain⟨ds,e,au⟩:=wM g;cases e;obtain⟨i,j,c,rfl⟩:=Js au;have f:Q (.bl (vA m w ws cs i j c),S):=q;have p:∀S,dD (.tup [.str "alike",i,j,c]) (.int 1) S=Z (i,S):=λS=>jE (i:=1) O;have L:∀S,dD (.tup [.str "alike",i,j,c]) (.int 2) S=Z (j,S):=λS=>jE (i:=2) O;have aq:∀S,dD (.tup [.str "alike",i,j,c]) (.int 3) S=Z (c,S):=λS=>jE (i:=3) O;refine dS (λr V=>V=U/\r=[Z (webD w),Z (stD ws cs),Z (.bl M),Z (.tup [.str "alike",i,j,c]),Y]) ?_ ?_
       ·((try walk_at"w");repeat(simp only[F];try walk_at"w"))
        all_goals first|exact⟨rfl,rfl,rfl⟩|exact⟨rfl,rfl⟩|trivial
       rintro r V ⟨rfl,rfl⟩;have z:=f0 h i (by simp);have I:=f0 h j (by simp);have K:=f0 h c (by simp);unfold vA at f;cases hwi:whD i with
       |false=>
        have h2:mU ws.length i j=J:=by cases i with
         |int a=>cases hwi
         |_=>rfl
        rw[h2,aK]at f;refine kA ?_
        ((try walk_at"w");repeat(simp only[p];try walk_at"w"))
        refine hB v z ?_;rw[hwi];walk_at"w";exact⟨nil,O,f⟩
       |true=>
        obtain⟨a,rfl⟩:=sm hwi;cases hwj:whD j with
        |false=>
         have h2:mU ws.length (.int a) j=J:=by cases j with
          |int b=>cases hwj
          |_=>rfl
         rw[h2,aK]at f;refine kA ?_
         ((try walk_at"w");repeat(simp only[p];try walk_at"w"))
         refine hB v z ?_
         ((try walk_at"w");repeat(simp only[L];try walk_at"w"))
         refine hB v I ?_;rw[hwj];walk_at"w";exact⟨nil,O,f⟩
        |true=>
         obtain⟨b,rfl⟩:=sm hwj;refine dS (λr U=>U=V/\r=[Z (webD w),Z (stD ws cs),Z (.bl M),Z (.tup [.str "alike",.int a,.int b,c]),Y]) ?_ ?_
         ·((try walk_at"w");repeat(simp only[p];try walk_at"w"))
          refine hB v z ?_
          ((try walk_at"w");repeat(simp only[L];try walk_at"w"))
          refine hB v I ?_;walk_at"w"
          all_goals first|exact⟨rfl,rfl,rfl⟩|exact⟨rfl,rfl⟩|trivial
         rintro r U ⟨rfl,rfl⟩;have o:mB (xT (b2 (i4 λi j=>decide (i<=j))) (b2 gLt) (b2 gLt) (mC (D.int (0))) (m2 (b2 dD) (mV 3) (mC (D.int (1)))) (m2 (b2 dD) (mV 3) (mC (D.int (2)))) (mN (b1 dV) (dr (m2 (b2 dD) (mV 1) (mC (D.int (0)))) dt))) [Z (webD w),Z (stD ws cs),Z (.bl M),Z (.tup [.str "alike",.int a,.int b,c]),Y] U=Z (mU ws.length (.int a) (.int b),U):=by
          refine Hr (p U) (L U) ?_;have:dV (.tup (nmD ws)) U=Z (.int (ws.length:Nat),U):=by rw[fz,ea]
          exact this
         cases h2:mU ws.length (.int a) (.int b)with
         |false=>
          rw[h2,aK]at f;rw[h2]at o;refine kA ?_;unfold eJ gI;rw[dw,dw];refine W.of o ?_;walk_at"w";exact⟨nil,O,f⟩
         |true=>
          rw[h2,c7]at f;rw[h2]at o;refine dS (λr V=>V=U/\r=[Z (webD w),Z (stD ws cs),Z (.bl M),Z (.tup [.str "alike",.int a,.int b,c]),Y]) ?_ ?_
          ·unfold eJ gI;rw[dw,dw];refine W.of o ?_;walk_at"w"
           all_goals first|exact⟨rfl,rfl,rfl⟩|exact⟨rfl,rfl⟩|trivial
          rintro r V ⟨rfl,rfl⟩;rw[mU,bA1,bA1,am,am,am]at h2;obtain⟨g0,g1,g2⟩:=h2;obtain⟨C,rfl⟩:∃n:Nat,a=n:=⟨a.toNat,by lia⟩;obtain⟨E,rfl⟩:∃n:Nat,b=n:=⟨b.toNat,by lia⟩;cases hf:jo m w (sgL m ws cs J) c with
          |false=>
           rw[hf]at f;refine kA ?_;walk_at"w";refine AG hw hm ?_
           ((try walk_at"w");repeat(simp only[aq];try walk_at"w"))
           refine vg hw hm v K (λxs e=>sh.2 c (by simp) xs e) ?_;rw[hf];walk_at"w";exact⟨⟨_,O⟩,O,f⟩
          |true=>
           rw[hf,c7]at f;have A:fm m c=M:=by unfold jo at hf;rw[bA1]at hf;exact hf.1
           obtain⟨B,l⟩:=pS A;refine dS (λr U=>U=V++[.lst ((sgL m ws cs J).map D.int)]/\r=[Z (webD w),Z (stD ws cs),Z (.bl M),Z (.tup [.str "alike",.int (C:Nat),.int (E:Nat),c]),Y]) ?_ ?_
           ·walk_at"w";refine AG hw hm ?_
            ((try walk_at"w");repeat(simp only[aq];try walk_at"w"))
            refine vg hw hm v K (λxs e=>sh.2 c (by simp) xs e) ?_;rw[hf];walk_at"w"
            all_goals first|exact⟨rfl,rfl,rfl⟩|exact⟨rfl,rfl⟩|trivial
           rintro r U ⟨rfl,rfl⟩;generalize hts:tsD c=ts at B l f;have X:∀S,dD (stD ws cs) (.int 0) S=Z (.tup (nmD ws),S):=λS=>jE (i:=0) O;have a1:∀S,dD (.tup (nmD ws)) (.int C) S=Z (.int (ws.getD C 0:Nat),S):=λS=>xg (by lia);have a2:∀S,dD (.tup (nmD ws)) (.int E) S=Z (.int (ws.getD E 0:Nat),S):=λS=>xg (by lia);have b1:∀S,dD c (.int (ws.getD C 0:Nat)) S=Z (.int (gu ts (ws.getD C 0)),S):=λS=>by rw[B];exact mI l (j1 (i:=C) H ao)
           have b2:∀S,dD c (.int (ws.getD E 0:Nat)) S=Z (.int (gu ts (ws.getD E 0)),S):=λS=>by rw[B];exact mI l (j1 (i:=E) H ao)
           ((try walk_at"w");repeat(simp only[aq,X,p,a1,b1];try walk_at"w"))
           ((try walk_at"w");repeat(simp only[aq,X,L,a2,b2];try walk_at"w"))
           exact⟨⟨_,O⟩,O,f⟩
    |_=>cases hs
inductive TL (k c N:Nat)(T:Sto)(o:Ob)(G:Sto)(p:Nat)(L:List D):Prop
 |mk:Hnd o N->ClT (T++G)->(T++G)[p]?=some (.lst L)->L.length=c->(∀x∈L,Ok k (o::(T++G)) x)->TL k c N T o G p L
def NL(k n N:Nat)(T:Sto)(o:Ob)(G:Sto)(q:D×Sto):Prop:=∃o' G1 L',q=(.ref (T++(G++G1)).length.succ,o'::(T++(G++G1)++[.lst L']))/\Hnd o' N/\ClT (T++(G++G1)++[.lst L'])/\L'.length=n /\ ∀x∈L',Ok k (o'::(T++(G++G1))) x
theorem Bq{k c n N b p:Nat}{T G:Sto}{o:Ob}{L:List D}{r:Ev}{j:FE}(hr:r[9]? = some (some (.ref (p+1))))(h:TL k c N T o G p L)(he:W (j r (o::(T++G))) (NL k n b T o G))(hn:c+n<=1000):
  W (m2 (b2 eu) (mV 9) j r (o::(T++G))) λq=>∃o' G2 g L',q=(.ref (g+1),o'::(T++(G++G2)))/\TL k (c+n) b T o' (G++G2) g L':=by
 obtain⟨y,h1,h2,w,t⟩:=h;have f:=(gE1.mp h2).1;unfold m2;rw[dw];refine W.of (x:=(.ref (p+1),o::(T++G))) (by unfold mV;rw[hr]) ?_;rw[dw];refine he.mono ?_;rintro q ⟨o',G1,L',rfl,d,v,s,u⟩;dsimp only[b2];have m:T++(G++G1)++[Ob.lst L']=(T++G)++(G1++[Ob.lst L']):=by simp
 refine(BK (xs:=L) (ys:=L') ?_ ?_).mpr ⟨dG (by lia),?_⟩
 ·rw[gC1,m,gL1 f];exact h2
 ·rw[cI,gC1,dF];rfl
 have e:o'::(T++(G++G1)++[Ob.lst L'])++[Ob.lst (L++L')]=o'::(T++(G++(G1++[Ob.lst L',Ob.lst (L++L')]))):=by simp
 have i:∀x∈L++L',Ok k (o'::(T++(G++G1))) x:=λx a=>by
  rcases aF.mp a with z|z
  ·have:=(t x z).on (n:=N) (G:=G1) d
   rwa [bF]at this
  ·exact u x z
 have hc:ClT (T++(G++(G1++[Ob.lst L',Ob.lst (L++L')]))):=by
  have:=mh (o:=o') v λx a=>(i x a).on (n:=b) (G:=[Ob.lst L']) d;have l:T++(G++G1)++[Ob.lst L']++[Ob.lst (L++L')]=T++(G++(G1++[Ob.lst L',Ob.lst (L++L')])):=by simp
  rwa [l]at this
 refine⟨o',G1++[Ob.lst L',Ob.lst (L++L')],(T++(G++G1)++[Ob.lst L']).length,L++L',?_,d,hc,?_,by rw[lA1,w,s],λx a=>?_⟩
 ·rw[e];rfl
 ·rw[show T++(G++(G1++[Ob.lst L',Ob.lst (L++L')]))=(T++(G++G1)++[Ob.lst L'])++[Ob.lst (L++L')] by simp,dF];rfl
 ·have:=(i x a).on (n:=b) (G:=[Ob.lst L',Ob.lst (L++L')]) d;simpa using this
theorem u4{k n N:Nat}{T G:Sto}{o:Ob}{r:Ev}{a:FA}(ho:Hnd o N)(ha:AK k r o T n a)(hn:n<=1000)(b:ClT (T++G)):W (eP a r (o::(T++G))) (NL k n N T o G):=by
 refine(wA ha hn G b).mono ?_;rintro p ⟨G1,L,rfl,h1,h2,c⟩;exact⟨o,G1,L,O,ho,h1,h2,c⟩
structure Pp (d:D):Prop where
 und:d.und 0=true
 bd:bd 9 d=true
 lo:E1 2 d
 tup:∃xs,d = .tup xs
theorem Pp.ok{d:D}(h:Pp d){k:Nat}{S:Sto}(hk:9<=k):Ok k S d:=(Ok.shut h.und h.bd).more hk
theorem D5{n:Nat}{T G:Sto}{o:Ob}{r:Ev}{d:D}(h2:r[2]? = some (some (.ref 0)))(l:r[10]? = some (some d))(hp:Pp d)(ho:Hnd o n)(hn:n<=2^38)(p:ClT (T++G)):
  W (eO 1 [2,10] (sA (dr (mC (D.int (6))) dt)) (gN 0) fx (ej (mN (dy 3 iq) (dr (mV 1) (dr (mV 2) (dr (mC (D.int (2))) dt))))) r (o::(T++G))) (NL 20 6 (n+180) T o G):=by
 rw[lO,xc];refine W.of (x:=([.int 6],_)) O ?_;refine⟨sj (by decide) (by decide),?_⟩;have j:l9 1 [2,10] r=[Y,Z (.ref 0),Z d]:=by simp[l9,h2,l]
 rw[j];refine iw (λi a r S=>∃o' G1 x,i<=6/\a.length=i/\Hnd o' (n+30*i)/\ClT (T++(G++G1))/\(∀x∈a,Ok 20 (o'::(T++(G++G1))) x)/\S=o'::(T++(G++G1))/\r=[x,Z (.ref 0),Z d]) _ 0 [] _ _ ⟨o,[],_,by lia,O,ho,by rw[aM];exact p,(λx h=>by cases h),by rw[aM],O⟩ (λ_ _ _ _ _=>rfl) ?_ ?_
 ·rintro i e q a r S ⟨o',G1,x,hi,f,c,hc,g,rfl,rfl⟩;have b:=(gE1.mp q).1;rw[eT]at b;have b:i<6:=b;rw[bN]at *
  walk_at"w";refine HB 2 (fuel:=8) (k:=9) (by decide) c (by lia) hc (hp.ok (nR1 _)) hp.lo (by decide) (by decide) λy u G2 m s t=>?_;refine⟨u,G1++G2,_,by lia,by simp[f],m.more (by lia),by simpa using s,λz v=>?_,by simp,O⟩;rcases aF.mp v with h|h
  ·have:=(g z h).on (n:=n) (G:=G2) m;simpa using this
  ·rw[cm.mp h];simpa using t
 ·rintro xs r S ⟨o',G1,x,hi,f,c,hc,g,rfl,rfl⟩;rw[cP]at f g;have f:xs.length=6:=f;refine⟨dG (by lia),o',G1,xs,O,c,mh hc g,f,g⟩
abbrev lC(N:D)(k:Int)(x3 x4 x5 x6 x7 x8 x9 x10 x11 x12 x13:Option D):Ev:=[Z N,Z (.int k),Z (.ref 0),x3,x4,x5,x6,x7,x8,x9,x10,x11,x12,x13]
theorem ro{n:Nat}(h:n<2^60):(n:Int).natAbs.log2<1920:=by
 rw[Int.natAbs_natCast];by_cases a:n=0
 ·subst a;decide
 ·exact nL1 ((Nat.log2_lt a).mpr h) (by decide)
theorem ED{rs:List Nat}(h:∀x∈rs,x<2^60):E1 1 (.tup (nmD rs)):=⟨λi e=>(by cases e),λxs e x b=>by
 cases e;obtain⟨r,a,rfl⟩:=cc.mp b;intro i e;cases e;exact ro (h r a)⟩
theorem AQ{s:Str}:E1 1 (.str s):=⟨λi e=>(by cases e),λxs e=>(by cases e)⟩
theorem AR{i:Int}(h:i.natAbs.log2<1920):E1 1 (.int i):=⟨λj e=>(by cases e;exact h),λxs e=>(by cases e)⟩
theorem uS{s:Str}{rs:List Nat}(b:rs.length<=8)(h:∀x∈rs,x<2^60):Pp (.tup [.str s,.tup (nmD rs)]):=by
 refine⟨by rw[D.und,D.unds,D.unds,D.und,D.und,fy];rfl,?_,⟨λi e=>(by cases e),λxs e x a=>?_⟩,_,O⟩
 ·rw[bd,i8];have:=Ai (k:=9) (rs:=rs) (by lia);rw[bd,bA1,am]at this;simp[bd];exact this
 ·cases e;simp only[aE,bK,or_false]at a;rcases a with rfl|rfl
  ·exact AQ
  ·exact ED h
theorem lc{s:Str}{i j:Int}{rs:List Nat}(hi:i.natAbs.log2<1920)(b:j.natAbs.log2<1920)(c:rs.length<=8)(h:∀x∈rs,x<2^60):Pp (.tup [.str s,.int i,.int j,.tup (nmD rs)]):=by
 refine⟨by rw[D.und,D.unds,D.unds,D.unds,D.unds,D.und,D.und,D.und,D.und,fy];rfl,?_,⟨λi e=>(by cases e),λxs e x a=>?_⟩,_,O⟩
 ·rw[bd,i8];have:=Ai (k:=9) (rs:=rs) (by lia);rw[bd,bA1,am]at this;simp[bd];exact this
 ·cases e;simp only[aE,bK,or_false]at a;rcases a with rfl|rfl|rfl|rfl
  ·exact AQ
  ·exact AR hi
  ·exact AR b
  ·exact ED h
theorem Bk{m:Nat}{w:dA}{a:List Int}(hm:m<=8):∀x∈iz m w a,x<2^60:=λx b=>by
 unfold iz at b;obtain⟨r,c,rfl⟩:=cc.mp b;have h1:=aB.mp c;rw[vk];have h2:=Bl (col w a m) (fs (col w a m) r);have e:=pR (col w a m) r;show cnt (col w a m) (fs (col w a m) r)<2^60;have d:cnt (col w a m) (fs (col w a m) r)<8:=by lia
 exact nL1 d (by decide)
theorem IZ{m:Nat}{w:dA}{ws cs:List Nat}{b:Bool}{d:D}(hm:m<=8)(a:ws.length<=20)(h:Nv m w ws cs b d):d = .non\/Pp d:=by
 have e:∀c,(iz m w c).length<=8:=λc=>by rw[oH];exact hm
 cases h with
 |co _=>exact .inr (uS (e _) (Bk hm))
 |al _ _ _ f=>
  cases f with
  |no _=>exact .inl O
  |yes i j h1 h2 _ _=>exact .inr (lc (ro (bg (bg h1 h2) (bG a (by decide)))) (ro (bg h2 (bG a (by decide)))) (e _) (Bk hm))
 |no _ _=>exact .inl O
theorem IW{k:Nat}{S:Sto}{d:D}(h:Ok k S d)(hk:k<=1000):Sh d:=by
 rintro xs rfl;obtain⟨h1,h2⟩:=h.of;refine⟨by lia,?_⟩;rintro x a ys rfl;have:=(h2 _ a).of.1;lia
theorem I9{b:Bool}{S:Sto}:gNe (.bl b) (.bl b) S=Z (.bl J,S):=by cases b<;>rfl
theorem HD{m:Nat}{w:dA}{ws cs:List Nat}{d N:D}{k:Int}{S:Sto}{x4 x6 g x8 x9 x10 x12 x13:Option D}(hw:WebJ m w)(f:0<m)(hm:m<=8)(c:∀ x∈ws,x<m)(j:iS S)(hv:vd S d=true)(a:Sh d):
  W (qS (lC N k (Z (webD w)) x4 (Z (stD ws cs)) x6 g x8 x9 x10 (Z d) x12 x13) S) λp=>p.1 = .nx/\p.2.2=S /\ ∃x12 x13,p.2.1=lC N k (Z (webD w)) x4 (Z (stD ws cs)) x6 g x8 x9 x10 (Z d) x12 x13:=by
 unfold qS;walk_at"w";rw[kB];refine eH (λi r V=>V=S /\ ∃x12 x13,r=lC N k (Z (webD w)) x4 (Z (stD ws cs)) x6 g x8 x9 x10 (Z d) x12 x13) _ 0 _ _ ⟨O,_,_,O⟩ (λ_ _ _ _=>rfl) ?_ ?_
 ·rintro i e l r V ⟨rfl,x12,x13,rfl⟩;obtain ⟨b,rfl⟩:∃ b,e = .bl b:=by
   match i,l with
   |0,h=>exact⟨M,(Option.some.inj h).symm⟩
   |1,h=>exact⟨J,(Option.some.inj h).symm⟩
  walk_at"w";unfold wl;refine dS (λr U=>U=V/\r=lC N k (Z (webD w)) x4 (Z (stD ws cs)) x6 g x8 x9 x10 (Z d) (Z (.bl b)) (Z (.bl (vP m w ws cs b d)))) ?_ ?_
  ·walk_at"w";refine zu hw f hm c j hv a ?_;exact⟨O,O⟩
  rintro r U ⟨rfl,rfl⟩;walk_at"w";refine fu.mpr ?_
  ((try walk_at"w");repeat(simp only[Jw];try walk_at"w"))
  refine Hk hw f hm c j hv a ?_
  ((try walk_at"w");repeat(simp only[I9];try walk_at"w"))
  exact⟨_,_,O⟩
 ·rintro r V ⟨rfl,x12,x13,rfl⟩;exact⟨O,O,_,_,O⟩
section
variable{n m last:Nat}{w:dA}{ws cs rs:List Nat}{N:D}{k:Int}{o:Ob}{T:Sto}{x6 x8 x9 x10 x11 x12 x13:Option D}
theorem mL{r:Ev}{i:Nat}(ho:Hnd o n)(h:r[i]?=Z (Z (.tup (nmD rs))))(a:rs.length<=8):EK 20 r o T (mV i):=eh ho (λS=>by unfold mV;rw[h]) (Ok.nm (by lia))
theorem ib{r:Ev}{s:Str}(ho:Hnd o n):EK 20 r o T (mC (.str s)):=i6 ho O (by rw[bd])
theorem rW{r:Ev}{z:Int}(ho:Hnd o n):EK 20 r o T (mC (.int z)):=i6 ho O (by rw[bd])
theorem rV{r:Ev}{z:Int}(ho:Hnd o n)(h:r[7]?=Z (Z (.int z))):EK 20 r o T (mV 7):=eh ho (λS=>by unfold mV;rw[h]) (.shut O (by rw[bd]))
theorem Is{z:Int}(ho:Hnd o n)(a:rs.length<=8):AK 20 (lC N k (Z (webD w)) (Z (.tup (nmD rs))) (Z (stD ws cs)) x6 (Z (.int z)) x8 x9 x10 x11 x12 x13) o T 13 (dr (mC D.non) (dr (mC (D.bl M)) (dr (mC (D.bl J)) (dr (mC (D.int (0))) (dr (mC (D.str "")) (dr (mC (D.str "colours")) (dr (dR dt) (dr (dR (dr (mC (D.str "colours")) dt)) (dr (dR (dr (mC (D.str "alike")) dt)) (dr (eP dt) (dr iu (dr (eP (dr (mC (D.str "colours")) (dr (mV 4) dt))) (dr (mV 4) dt))))))))))))):=
 dv ho (i6 ho O (by rw[bd])) (dv ho (i6 ho O (by rw[bd])) (dv ho (i6 ho O (by rw[bd])) (dv ho (rW ho) (dv ho (ib ho) (dv ho (ib ho) (dv ho (fO d9 (by decide) (by decide)) (dv ho (fO (dv ho (ib ho) d9) (by decide) (by decide)) (dv ho (fO (dv ho (ib ho) d9) (by decide) (by decide)) (dv ho (oE ho d9 (by decide)) (dv ho rX (dv ho (oE ho (dv ho (ib ho) (dv ho (mL ho O a) d9)) (by decide)) (dv ho (mL ho O a) d9))))))))))))
theorem Ir{z:Int}(hw:WebJ m w)(hm:m<=8)(ho:Hnd o n)(a:rs.length<=8):AK 20 (lC N k (Z (webD w)) (Z (.tup (nmD rs))) (Z (stD ws cs)) x6 (Z (.int z)) x8 x9 x10 x11 x12 x13) o T 5 (dr (dR (dr (mC (D.str "none")) (dr (mV 4) dt))) (dr (dR (dr (mC D.non) (dr (mV 4) dt))) (dr (dR (dr (mC (D.str "alike")) (dr (mC (D.int (0))) (dr (mV 7) dt)))) (dr (dR (dr (mC (D.str "colours")) (dr (mC (D.int (0))) (dr (mV 7) (dr (mV 4) dt))))) (dr (mV 3) dt))))):=
 dv ho (fO (dv ho (ib ho) (dv ho (mL ho O a) d9)) (by decide) (by decide)) (dv ho (fO (dv ho (i6 ho O (by rw[bd])) (dv ho (mL ho O a) d9)) (by decide) (by decide)) (dv ho (fO (dv ho (ib ho) (dv ho (rW ho) (dv ho (rV ho O) d9))) (by decide) (by decide)) (dv ho (fO (dv ho (ib ho) (dv ho (rW ho) (dv ho (rV ho O) (dv ho (mL ho O a) d9)))) (by decide) (by decide)) (dv ho (eh ho (λ_=>rfl) ((Ok.shut (ee w) (yN hw hm)).more (by decide))) d9))))
theorem Iq{z:Int}(ho:Hnd o n)(a:rs.length<=8):AK 20 (lC N k (Z (webD w)) (Z (.tup (nmD rs))) (Z (stD ws cs)) x6 (Z (.int z)) x8 x9 x10 x11 x12 x13) o T 3 (dr (dR (dr (mC (D.str "alike")) (dr (mV 4) dt))) (dr (dR (dr (mC (D.str "")) (dr (mC (D.int (0))) (dr (mV 7) (dr (mV 4) dt))))) (dr (dR (dr (dR (dr (mC (D.str "colours")) dt)) (dr (mV 4) dt))) dt))):=
 dv ho (fO (dv ho (ib ho) (dv ho (mL ho O a) d9)) (by decide) (by decide)) (dv ho (fO (dv ho (ib ho) (dv ho (rW ho) (dv ho (rV ho O) (dv ho (mL ho O a) d9)))) (by decide) (by decide)) (dv ho (fO (dv ho (fO (dv ho (ib ho) d9) (by decide) (by decide)) (dv ho (mL ho O a) d9)) (by decide) (by decide)) d9))
theorem B5{r:Ev}{d:D}(h:r[10]?=Z (Z d))(hp:Pp d)(ho:Hnd o n):AK 20 r o T 2 (dr (mV 10) (dr (mN (b1 rL) (dr (mV 10) dt)) dt)):=by
 have a:∀S,mV 10 r S=Z (d,S):=λS=>by unfold mV;rw[h]
 refine dv ho (eh ho a (hp.ok (by decide))) (dv ho ?_ d9);obtain⟨xs,rfl⟩:=hp.tup;intro G b;refine JX ?_;rw[a,dB];refine W.of (x:=(.ref (T++G).length.succ,o::(T++G++[.lst xs]))) O ⟨[.lst xs],by simp,?_,.lst (xs:=xs) ?_⟩
 ·rw[<- bF];exact mh (k:=20) (o:=o) b λx c=>((hp.ok (k:=20) (S:=o::(T++G)) (by decide)).of.2 x c)
 ·rw[cI,gC1,<- bF,dF];rfl
end
inductive LL (n c:Nat)(T:Sto)(e:Option D->Option D->Ev):Ev->Sto->Prop
 |mk (o:Ob) (G:Sto) (p:Nat) (L:List D) (x10:Option D):TL 20 c n T o G p L->LL n c T e (e (some (.ref (p+1))) x10) (o::(T++G))
theorem IV{n c m:Nat}{w:dA}{N:D}{k:Int}{o:Ob}{T G:Sto}{p:Nat}{L:List D}{d:D}{x3 x4 x5 x6 b x8 x11 x12 x13:Option D}(hp:Pp d)(h:TL 20 c n T o G p L)(hn:n<=2^38)(hc:c<=500):
  W (qT (lC N k x3 x4 x5 x6 b x8 (Z (.ref (p+1))) (Z d) x11 x12 x13) (o::(T++G))) λq=>q.1 = .nx/\LL (n+180) (c+8) T (λx9 x10=>lC N k x3 x4 x5 x6 b x8 x9 x10 x11 x12 x13) q.2.1 q.2.2:=by
 have j:Hnd o n:=by cases h;assumption
 have l:ClT (T++G):=by cases h;assumption
 unfold qT;refine dS (λr V=>∃o' e a f,TL 20 (c+2) n T o' e a f/\V=o'::(T++e)/\r=lC N k x3 x4 x5 x6 b x8 (Z (.ref (a+1))) (Z d) x11 x12 x13) ?_ ?_
 ·unfold dL;rw[dw];refine(Bq (r:=lC N k x3 x4 x5 x6 b x8 (Z (.ref (p+1))) (Z d) x11 x12 x13) O h (u4 j (B5 O hp j) (by decide) l) (by lia)).mono ?_;rintro q ⟨o',G2,a,f,rfl,h'⟩;exact W.of O ⟨O,o',G++G2,a,f,h',O,O⟩
 rintro r V ⟨o',e,a,f,h',rfl,rfl⟩;have g:Hnd o' n:=by cases h';assumption
 have i:ClT (T++e):=by cases h';assumption
 unfold dL;rw[dw];refine(Bq (r:=lC N k x3 x4 x5 x6 b x8 (Z (.ref (a+1))) (Z d) x11 x12 x13) O h' (D5 O O hp g hn i) (by lia)).mono ?_;rintro q ⟨s,G2,p2,t,rfl,h2⟩;exact W.of O ⟨O,.mk s (e++G2) p2 t (Z d) h2⟩
theorem CA{L:List D}(h:∀d∈L,Pp d):(Ob.lst L).und 0=M:=by
 have:=eR (n:=0) (f:=λd:D=>d) (xs:=L) λx a=>(h x a).und
 rwa [List.map_id']at this
theorem Hq{L:List D}(h:∀d∈L,Pp d):ClT [Ob.lst L]:=by
 show[Ob.lst L].all _=M;rw[bO,fP (bh _) (CA h)];rfl
theorem Hy(ns:List Int)(k:Int)(h0:0<=k)(hk:k<63):W (qM [Z (.rol (ns.map D.int)),Z (.int k),Y,Y,Y,Y,Y,Y,Y,Y,Y,Y,Y,Y] []) λp=>p.1 = .nx /\ ∃r9,p.2.1=Z (.rol (ns.map D.int))::r9/\r9.length=13:=by
 unfold qM;generalize hN:D.rol (ns.map D.int)=N;refine dS (λr S=>∃o,Hnd o 0/\S=[o]/\r=lC N k Y Y Y Y Y Y Y Y Y Y Y) ?_ ?_
 ·obtain⟨o,e,R⟩:=DE ns k h0 hk;rw[hN]at e
  ((try walk_at"w");repeat(simp only[e];try walk_at"w"))
  exact⟨o,R,O,trivial⟩
 rintro r S ⟨o,R,rfl,rfl⟩;refine dS (λr S=>∃m w rs o1,0<m/\m<=8/\WebJ m w/\rs.length=m/\(∀x∈rs,x<8)/\Hnd o1 300/\S=[o1]/\r=lC N k (Z (webD w)) (Z (.tup (nmD rs))) Y Y Y Y Y Y Y Y Y) ?_ ?_
 ·walk_at"w";refine HZ (T:=[]) R (by decide) O λm w rs o' t y I C F ho'=>?_;walk_at"w";exact⟨m,w,rs,o',t,y,I,C,F,ho',O,O⟩
 rintro r S ⟨m,w,rs,o1,t,y,I,C,F,ho1,rfl,rfl⟩;refine dS (λr S=>∃ws cs b,(∀x∈ws,x<m)/\ws.length<=20/\Hnd b 350/\S=[b]/\r=lC N k (Z (webD w)) (Z (.tup (nmD rs))) (Z (stD ws cs)) Y Y Y Y Y Y Y Y) ?_ ?_
 ·simp(implicitDefEqProofs:=J) only[dL,mV,mN,dr,dt,mC,gN,dw,dB,oS1,cN,gC1,cO,cy];refine Cc (T:=[]) I t y C ho1 (by decide) O λws cs b v h1 h2 h3=>?_;exact⟨trivial,ws,cs,b,h1,h2,v.more (by lia),O,O⟩
 rintro r S ⟨ws,cs,b,ar,E,v,rfl,rfl⟩;have l:∀x∈rs,x<2^60:=λx u=>bg (F x u) (by decide);have f:rs.length<=8:=by lia
 have A:∀x∈af m,x<2^60:=λx u=>bg (aB.mp u) (bG y (by decide));have U:(af m).length<=8:=by rw[cu];exact y
 obtain⟨z,hz⟩:∃z:Int,z=(ws.length:Int)-1:=⟨_,O⟩;have au:z.natAbs.log2<1920:=by
  have:z.natAbs<2^60:=bG (show z.natAbs<=20 by lia) (by decide);by_cases X:z.natAbs=0
  ·rw[X];decide
  ·exact nL1 ((Nat.log2_lt X).mpr this) (by decide)
 have aq:(z+1).natAbs.log2<1920:=by
  have e:z+1=((ws.length:Nat):Int):=by lia
  rw[e];exact ro (bG E (by decide))
 refine dS (λr S=>S=[b]/\r=lC N k (Z (webD w)) (Z (.tup (nmD rs))) (Z (stD ws cs)) (Z (.tup (nmD (af m)))) (Z (.int z)) Y Y Y Y Y Y) ?_ ?_
 ·have e0:∀S,dV (webD w) S=Z (.int (m:Nat),S):=λS=>by rw[webD,fz,lM1,I.len]
  have s0:∀S,dD (stD ws cs) (.int 0) S=Z (.tup (nmD ws),S):=λS=>jE (i:=0) O;have sl:dV (.tup (nmD ws)) [b]=Z (.int (ws.length:Nat),[b]):=by rw[fz,ea]
  have hsub:gSub (.int (ws.length:Nat)) (.int 1) [b]=Z (.int z,[b]):=by rw[hz];rfl
  simp(implicitDefEqProofs:=J) only[dL,mV,mN,dr,dt,mC,m2,b1,b2,ss,dw,dB,oS1,cN,gC1];refine EX (k:=m) (S1:=[b]) ?_ (by lia) ?_
  ·simp only[dr,dt,mN,mV,b1,gC1,cN,oS1,e0]
  simp(implicitDefEqProofs:=J) only[s0,sl,hsub,dB,oS1,dw];refine⟨dG (by simp),?_⟩
  first|exact W.of rfl ⟨rfl,rfl,rfl⟩|exact W.of rfl ⟨trivial,rfl,rfl⟩
 rintro r S ⟨rfl,rfl⟩;refine dS (λr S=>∃P:List D,(∀d∈P,Pp d)/\P.length=4/\S=[b,.lst P]/\r=lC N k (Z (webD w)) (Z (.tup (nmD rs))) (Z (stD ws cs)) (Z (.tup (nmD (af m)))) (Z (.int z)) (Z (.ref 1)) Y Y Y Y Y) ?_ ?_
 ·walk_at"w";refine⟨[.tup [.str "colours",.tup (nmD rs)],.tup [.str "colours",.tup (nmD (af m))],.tup [.str "alike",.int 0,.int z,.tup (nmD rs)],.tup [.str "alike",.int 0,.int 1,.tup (nmD (af m))]],λd j=>?_,O,O,trivial⟩;simp only[aE,bK,or_false]at j;rcases j with rfl|rfl|rfl|rfl
  ·exact uS f l
  ·exact uS U A
  ·exact lc (by decide) au f l
  ·exact lc (by decide) (by decide) U A
 rintro r S ⟨P,B,g,rfl,rfl⟩;refine dS (λr S=>∃P:List D,(∀d∈P,Pp d)/\P.length=5/\S=[b,.lst P]/\r=lC N k (Z (webD w)) (Z (.tup (nmD rs))) (Z (stD ws cs)) (Z (.tup (nmD (af m)))) (Z (.int z)) (Z (.ref 1)) Y Y Y Y Y) ?_ ?_
 ·have app:∀ d,Pp d->(∀ x∈P++[d],Pp x)/\(P++[d]).length=5:=fun d j=>⟨fun x u=>by
   rcases aF.mp u with h|h
   ·exact B x h
   ·rw[cm.mp h];exact j,by rw[lA1,g];rfl⟩
  have wq:∀d,Pp d->W (gJ (.ref 1) d [b,.lst P]) λx=>∃P:List D,(∀d∈P,Pp d)/\P.length=5/\x.2=[b,.lst P]:=λd j=>by
   refine(ji (n:=1) (xs:=P) O).mpr ⟨dG (by lia),?_⟩;exact⟨P++[d],(app d j).1,(app d j).2,O⟩
  unfold eU;rw[dw];refine gX ?_;refine W.of (x:=(.ref 1,[b,.lst P])) O ⟨1,P,O,O,?_⟩;refine BH ?_;refine EW.mpr ?_;simp(implicitDefEqProofs:=J) only[mN,mV,dr,dt,mC,dw,dB,oS1,cN,gC1];refine CZ I t y ar E λd j=>?_;rcases IZ y E j with rfl|hp
  ·refine W.of (x:=J) O ?_;rw[aj (by decide)];refine W.of (x:=(.tup [.str "alike",.int 0,.int 0,.tup (nmD rs)],[b,.lst P])) O ?_;exact(wq (.tup [.str "alike",.int 0,.int 0,.tup (nmD rs)]) (lc (by decide) (by decide) f l)).mono λx ⟨P,a1,a2,a3⟩=>⟨trivial,P,a1,a2,a3,trivial⟩
  ·obtain ⟨xs,rfl⟩:=hp.tup;have hne:xs≠[]:=by
    rintro rfl;cases j;rename_i h1 h2 h3;cases h3
   refine W.of (x:=M) (by cases xs with
    |nil=>exact absurd O hne
    |cons x xs=>rfl) ?_
   rw[ak O];exact(wq _ hp).mono λx ⟨P,a1,a2,a3⟩=>⟨trivial,P,a1,a2,a3,trivial⟩
 clear B g P;rintro r S ⟨P,B,g,rfl,rfl⟩;refine dS (λr S=>∃P:List D,(∀d∈P,Pp d)/\P.length=6/\S=[b,.lst P]/\r=lC N k (Z (webD w)) (Z (.tup (nmD rs))) (Z (stD ws cs)) (Z (.tup (nmD (af m)))) (Z (.int z)) (Z (.ref 1)) Y Y Y Y Y) ?_ ?_
 ·unfold eU;rw[dw];refine gX ?_;refine W.of (x:=(.ref 1,[b,.lst P])) O ⟨1,P,O,O,?_⟩;refine W.of (x:=([.tup [.str "alike",.int z,.int (z+1),.tup (nmD rs)]],[b,.lst P])) O ?_;refine(ji (n:=1) (xs:=P) (S:=[b,.lst P]) O).mpr ⟨dG (by lia),?_⟩;refine W.of O ⟨O,P++[.tup [.str "alike",.int z,.int (z+1),.tup (nmD rs)]],λx u=>?_,by rw[lA1,g];rfl,O,O⟩;rcases aF.mp u with h|h
  ·exact B x h
  ·rw[cm.mp h];exact lc au aq f l
 clear B g P;rintro r S ⟨P,B,g,rfl,rfl⟩;have hT:=Hq B;have hT0:ClT ([Ob.lst P]++[]):=hT;refine dS (LL 350 13 [.lst P] (λx9 x10=>lC N k (Z (webD w)) (Z (.tup (nmD rs))) (Z (stD ws cs)) (Z (.tup (nmD (af m)))) (Z (.int z)) (Z (.ref 1)) x9 x10 Y Y Y)) ?_ ?_
 ·unfold dL;rw[dw];refine(u4 (G:=[]) v (Is v f) (by decide) hT0).mono ?_;rintro q ⟨o',G1,ao,rfl,g0,g1,g2,g3⟩;refine W.of O ⟨O,?_⟩;have e:[Ob.lst P]++([]++G1)++[Ob.lst ao]=[Ob.lst P]++(G1++[Ob.lst ao]):=by simp
  dsimp only;show LL 350 13 [.lst P] (λx9 x10=>lC N k (Z (webD w)) (Z (.tup (nmD rs))) (Z (stD ws cs)) (Z (.tup (nmD (af m)))) (Z (.int z)) (Z (.ref 1)) x9 x10 Y Y Y) (lC N k (Z (webD w)) (Z (.tup (nmD rs))) (Z (stD ws cs)) (Z (.tup (nmD (af m)))) (Z (.int z)) (Z (.ref 1)) (Z (.ref (([Ob.lst P]++([]++G1)).length+1))) Y Y Y Y) (o'::([Ob.lst P]++([]++G1)++[Ob.lst ao]));rw[e]at g1 ⊢;refine .mk o' _ _ ao Y ⟨g0,g1,?_,g2,λx u=>?_⟩
  ·rw[<- e,dF];rfl
  ·have:=(g3 x u).on (n:=350) (G:=[Ob.lst ao]) g0
   rwa [e]at this
 rintro r S ⟨K,G,p,L,x10,h⟩;have add:∀{o:Ob} {G:Sto} {p c n:Nat} {L:List D} {x10:Option D} {a:FA},TL 20 c 350 [.lst P] o G p L->c+n<=1000->AK 20 (lC N k (Z (webD w)) (Z (.tup (nmD rs))) (Z (stD ws cs)) (Z (.tup (nmD (af m)))) (Z (.int z)) (Z (.ref 1)) (Z (.ref (p+1))) x10 Y Y Y) o [.lst P] n a->W (dL (m2 (b2 eu) (mV 9) (eP a)) (gN 9) (lC N k (Z (webD w)) (Z (.tup (nmD rs))) (Z (stD ws cs)) (Z (.tup (nmD (af m)))) (Z (.int z)) (Z (.ref 1)) (Z (.ref (p+1))) x10 Y Y Y) (o::([.lst P]++G))) λq=>q.1 = .nx/\LL 350 (c+n) [.lst P] (λx9 x10=>lC N k (Z (webD w)) (Z (.tup (nmD rs))) (Z (stD ws cs)) (Z (.tup (nmD (af m)))) (Z (.int z)) (Z (.ref 1)) x9 x10 Y Y Y) q.2.1 q.2.2:=λ{o G p c n L x10 a} h hn ha=>by
  have R:Hnd o 350:=by cases h;assumption
  have hG:ClT ([.lst P]++G):=by cases h;assumption
  unfold dL;rw[dw];refine(Bq (r:=lC N k (Z (webD w)) (Z (.tup (nmD rs))) (Z (stD ws cs)) (Z (.tup (nmD (af m)))) (Z (.int z)) (Z (.ref 1)) (Z (.ref (p+1))) x10 Y Y Y) O h (u4 R ha (by lia) hG) hn).mono ?_;rintro q ⟨o',G2,p',ao,rfl,h'⟩;exact W.of O ⟨O,.mk o' (G++G2) p' ao x10 h'⟩
 have s:Hnd K 350:=by cases h;assumption
 refine dS _ (add h (by decide) (Ir I y s f)) ?_;clear h s;rintro r S ⟨K,G,p,L,x10,h⟩;have s:Hnd K 350:=by cases h;assumption
 refine dS _ (add h (by decide) (Iq s f)) ?_;clear h s;rintro r S ⟨K,G,p,L,x10,h⟩;refine dS (LL (350+180*6) (21+8*6) [.lst P] (λx9 x10=>lC N k (Z (webD w)) (Z (.tup (nmD rs))) (Z (stD ws cs)) (Z (.tup (nmD (af m)))) (Z (.int z)) (Z (.ref 1)) x9 x10 Y Y Y)) ?_ ?_
 ·unfold eZ;rw[dw,ml];refine W.of (x:=(.ref 1,K::([.lst P]++G))) O ?_;refine d5 (xs:=P) O ?_;refine eH (λi r V=>i<=6/\LL (350+180*i) (21+8*i) [.lst P] (λx9 x10=>lC N k (Z (webD w)) (Z (.tup (nmD rs))) (Z (stD ws cs)) (Z (.tup (nmD (af m)))) (Z (.int z)) (Z (.ref 1)) x9 x10 Y Y Y) r V) _ 0 _ _ ⟨by decide,.mk K G p L x10 h⟩ ?_ ?_ ?_
  ·rintro i r V ⟨_,o4,Q,p4,L4,H,h4⟩;exact ff O
  ·rintro i d j r V ⟨hi,o4,Q,p4,L4,H,h4⟩;rw[bN]at *
   have hil:=(gE1.mp j).1;dsimp only at hil;have hpd:=B d (gM1 j);walk_at"w";have hn':350+180*i<=2^38:=aC (show 350+180*i<=2000 by lia) (by decide);refine(IV (m:=m) (w:=w) hpd h4 hn' (by lia)).mono ?_;rintro q ⟨z1,z2⟩;exact⟨z1,by lia,z2⟩
  ·rintro r V ⟨_,h⟩;dsimp only at h;rw[bN,g]at h;exact⟨O,h⟩
 clear h;rintro r S ⟨o4,Q,p4,L4,H,h1,h2,h3,h4,h5⟩;have hS:iS (o4::([.lst P]++Q)):=vY h1 h2;unfold eZ;rw[dw,ml];refine W.of (x:=(.ref (p4+1),o4::([.lst P]++Q))) O ?_;refine d5 (xs:=L4) (by rw[gC1];exact h3) ?_;refine eH (λi r V=>V=o4::([.lst P]++Q) /\ ∃x11 x12 x13,r=lC N k (Z (webD w)) (Z (.tup (nmD rs))) (Z (stD ws cs)) (Z (.tup (nmD (af m)))) (Z (.int z)) (Z (.ref 1)) (Z (.ref (p4+1))) H x11 x12 x13) _ 0 _ _ ⟨O,_,_,_,O⟩ ?_ ?_ ?_
 ·rintro i r V ⟨rfl,_⟩;exact ff (by rw[gC1];exact h3)
 ·rintro i d j r V ⟨rfl,x11,x12,x13,rfl⟩;have hok:=h5 d (gM1 j);walk_at"w";refine(HD I t y ar hS hok.v (IW hok (by decide))).mono ?_;rintro q ⟨z1,z2,y12,y13,z3⟩;exact⟨z1,z2,_,_,_,z3⟩
 ·rintro r V ⟨rfl,x11,x12,x13,rfl⟩;exact⟨O,_,O,O⟩
theorem truth(ns:List Int)(z:ns.length<=63):∃S,m_law [.rol (ns.map D.int)] []=Z (.bl M,S):=by
 have c:W (m_law [.rol (ns.map D.int)] []) λp=>p.1 = .bl M:=by
  unfold m_law;refine jm ?_;unfold Bw;have l:(D.rol (ns.map D.int)).und 0=M:=by simp[D.und,lS]
  have s:=λk q v=>Hy ns k q v;generalize m:D.rol (ns.map D.int)=N at *
  have b:dV N []=Z (.int ns.length,[]):=by rw[<- m];simp[dV,dP]
  refine dS (λr S=>S=[]/\r=[Z N,Y,Y,Y,Y,Y,Y,Y,Y,Y,Y,Y,Y,Y]) ?_ ?_
  ·simp only [fh,mP1,aZ,lC1,bb,cQ,Nat.reduceSub,Iz,bi,cP,eZ,dw,xc,dr,mN,mC,mV,dt,b1,b2,DN,vc,b,dB,oS1,cN,IB];have n:∃ t:Nat,t<=4/\(if (if (ns.length:Int)<4 then (ns.length:Int) else 4)>1 then (if (ns.length:Int)<4 then (ns.length:Int) else 4) else 1)=(t:Int):=by
    by_cases h1:(ns.length:Int)<4
    ·rw[ak h1];by_cases h2:(ns.length:Int)>1
     ·rw[ak h2];exact⟨ns.length,by lia,O⟩
     ·rw[aj h2];exact⟨1,by lia,O⟩
    ·rw[aj h1];exact⟨4,by lia,by decide⟩
   obtain⟨t,C,te⟩:=n;rw[te,Int.toNat_natCast];refine⟨fX (by lia),?_⟩;refine eH (λ_ r S=>S=[]/\r=[Z N,Y,Y,Y,Y,Y,Y,Y,Y,Y,Y,Y,Y,Y]) _ 0 _ _ ⟨O,O⟩ (λ_ _ _ _=>rfl) ?_ ?_
   ·rintro i d u r S ⟨rfl,rfl⟩;obtain⟨k,e,w,B⟩:=tJ (gM1 u);subst e;simp only[gN,cy,cO,dB];obtain⟨⟨f,r2,A⟩,y,j,o,a,g⟩:=s k w (by lia);dsimp only at j a;subst j;subst a;refine W.of (x:=(.nx,[Z N,Y,Y,Y,Y,Y,Y,Y,Y,Y,Y,Y,Y,Y],[])) ?_ ⟨O,O,O⟩
    match o,g with
    |[z1,z2,z3,z4,z5,z6,z7,z8,z9,z10,z11,z12,z13],_=>
     unfold wk pE;simp[fQ,kU,D.und,l,y]
   ·rintro r S ⟨rfl,rfl⟩;exact⟨O,O,O⟩
  ·rintro r S ⟨rfl,rfl⟩;simp only[d6,mC,oS1,dB]
 obtain⟨⟨d,S⟩,e,h⟩:=c;dsimp only at h;exact⟨S,by rw[e,h]⟩
end Law
end
open PySem PySem.W PyProof.Rows
noncomputable def PySem.W.Fast.tw949284499012896784:=()
noncomputable def PySem.W.Fast.tw2961466956603356069:=()
noncomputable def PySem.W.Fast.tw8077947790763715578:=()
noncomputable def PySem.W.Fast.tw17807104802796470964:=()
noncomputable def PySem.W.Fast.tw11816961500468088114:=()
noncomputable def PySem.W.Fast.tw3462570650128859416:=()
noncomputable def PySem.W.Fast.tw2032136528341533209:=()
noncomputable def PySem.W.Fast.tw13364473116049038078:=()
noncomputable def PySem.W.Fast.tw12724706524740318350:=()
noncomputable def PySem.W.Fast.tw1543142840699866778:=()
noncomputable def PySem.W.Fast.tw594715557907778136:=()
noncomputable def PySem.W.Fast.tw15855939506056028786:=()
noncomputable def PySem.W.Fast.tw7594798357335384166:=()
noncomputable def PySem.W.Fast.tw6127317439080300141:=()
noncomputable def PySem.W.Fast.tw16312025891337436982:=()
noncomputable def PySem.W.Fast.tw12236951484737229463:=()
noncomputable def PySem.W.Fast.tw9397626213283306778:=()
noncomputable def PySem.W.Fast.tw10209798985363515292:=()
noncomputable def PySem.W.Fast.tw6807147170830778348:=()
noncomputable def PySem.W.Fast.tw11700895674229166006:=()
noncomputable def PySem.W.Fast.tw16335754228839092116:=()
noncomputable def PySem.W.Fast.tw4658780158002718703:=()
noncomputable def PySem.W.Fast.tw8484131789346008271:=()
noncomputable def PySem.W.Fast.tw709972624347634672:=()
noncomputable def PySem.W.Fast.tw15988709199528802336:=()
noncomputable def PySem.W.Fast.tw6015861601473555973:=()
noncomputable def PySem.W.Fast.tw17048314327462984015:=()
noncomputable def PySem.W.Fast.tw4199406633358772253:=()
noncomputable def PySem.W.Fast.tw4326479394057870061:=()
noncomputable def PySem.W.Fast.tw3637048792257454182:=()
noncomputable def PySem.W.Fast.tw11097956690946259365:=()
noncomputable def PySem.W.Fast.tw13215282239814992996:=()
noncomputable def PySem.W.Fast.tw6441303692118074734:=()
noncomputable def PySem.W.Fast.tw472961515939031268:=()
noncomputable def PySem.W.Fast.tw11806525512130658770:=()
noncomputable def PySem.W.Fast.tw13196508059614438196:=()
noncomputable def PySem.W.Fast.tw8955690995314003303:=()
noncomputable def PySem.W.Fast.tw655609356088421471:=()
noncomputable def PySem.W.Fast.tw1960293453770215313:=()
noncomputable def PySem.W.Fast.tw220032785718456366:=()
noncomputable def PySem.W.Fast.tw11771497548712805763:=()
noncomputable def PySem.W.Fast.tw14114075858250208654:=()
noncomputable def PySem.W.Fast.tw16614330918489382771:=()
noncomputable def PySem.W.Fast.tw12324731160269731978:=()
noncomputable def PySem.W.Fast.tw12200553003454532053:=()
noncomputable def PySem.W.Fast.tw12849952036192791315:=()
noncomputable def PySem.W.Fast.tw14077440273400594075:=()
noncomputable def PySem.W.Fast.tw12919794461345552965:=()
noncomputable def PySem.W.Fast.tw4198704611394402490:=()
noncomputable def PySem.W.Fast.tw656241372140073521:=()
noncomputable def PySem.W.Fast.tw8823378683415040702:=()
noncomputable def PySem.W.Fast.tw11179900477605816246:=()
noncomputable def PySem.W.Fast.tw17888556858621719839:=()
set_option maxRecDepth 100000 in
set_option maxHeartbeats 0 in
theorem PySem.Challenge.cw_ringmeet_k37_papers_of_anything_holds : PySem.Challenge.rw_ringmeet_k37_papers_of_anything.Holds := by
 w_on;o_law;k_head;(case hw=>w_witness2)
 k_fill
 refine Mi.walk_m (l:=PySem.Challenge.rw_ringmeet_k37_papers_of_anything) (m:=Law.m_law) (k:=12) (x:="_law_script") rfl rfl ⟨rfl,by decide,by decide,rfl⟩ (fun w h Y=>PySem.W.kIn_of Y) Law.truth ?F
 case F=>
  intro w mg e h d G b;refine' Law.all_mk d G b ?a1 ?a2 ?a3 ?a4 ?a5 ?a6 ?a7 ?a8 ?a9 ?a10 ?a11 ?a12 ?a13 ?a14 ?a15 ?a16 ?a17 ?a18 ?a19 ?a20 ?a21 ?a22 ?a23 ?a24 ?a25 ?a26 ?a27 ?a28 ?a29 ?a30 ?a31 ?z
  all_goals try (refine' Mi.JI ?a ?l ?c ?k;(case a=>k_is);(case l=>k_is);(case c=>k_is);(case k=>k_is))
  (case z=>exact ⟨by k_is,by k_is,by k_is,by k_is,by k_is,by k_is,by k_is,by k_is,by k_is,by k_is,by k_is,by k_is,by k_is,by k_is,by k_is,by k_is,trivial⟩)
  all_goals k_is

