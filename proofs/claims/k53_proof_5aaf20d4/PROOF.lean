import PyProof.Rows.All
import Wide.All
import OpenK.AllK
import Wide.FinOn
import Lean
import PyProof.EqAt
import PyProof.EqKinds
import PyProof.TupleCall
import PySem.Challenge.RW_ringmeet_k53_errands_known
set_option Elab.async false
set_option compiler.extract_closed false
set_option linter.all false
set_option maxRecDepth 100000
set_option maxHeartbeats 4000000
open List renaming getElem?_eq_some_iff → gE1, getElem?_append_left → gL1, getElem?_eq_getElem → gG1, mem_of_getElem? → gM1, getElem?_set_ne → gS1, length_append → lA1, length_map → lM1, getElem?_cons_succ → gC1, mem_cons_of_mem → mC1, mem_cons_self → mS1, getElem?_map → gP1, getElem?_append_right → gR1, map_cons → mP1, length_cons → lC1, length_replicate → lR1, mem_append_right → mA1
open Option renaming bind_eq_some_iff → oB1, map_eq_some_iff → oM1, bind_some → oS1, map_some → oP1
open Nat renaming le_refl → nR1, lt_of_lt_of_le → nL1, ne_of_lt → nN1, ne_of_gt → nG1
open Bool renaming and_eq_true → bA1, false_eq_true → bF1
open Array renaming getElem?_eq_getElem → aG1, getElem?_toList → aT1
open PySem.W renaming Frag → Fg1, nsIn → wN1, keepIn → wK1, codeIn → wC1, fnOf → wF1, mg_of → wM1
open PySem.Heap renaming get?_push_of_some → hP1, get?_push_size → hS1, lt_size → hL1, size_push → hZ1, get?_update_ne → hU1, get?_update_self → hW1
open PySem renaming wpAny_bind → wB1, wpAny_pure → wP1, wpAny_setField_rec → wS1, wpAny_newObj_type → wO1, codeAny_builtin → wD1, wpAny_call_entry → wE1
open List renaming take_nil → au, drop_nil → av, mem_filter → az, mem_range → aA, filterMap_cons → aC, mem_cons → aD, mem_append → aE, mem_append_left → aF, getElem?_set_self → aG, size_toArray → aJ, append_nil → aK, nodup_cons → aL, replicate → aM, length_take → aO, getElem?_replicate → aP, getElem?_take_of_lt → aQ, filterMap_map → aR, length_drop → aS, length_set → aT, replicate_succ → aU, flatten_cons → aV, append_assoc → aW, foldl_cons → aX, length_singleton → aY, nil_append → a0, map_nil → ba, find?_cons → bb, any_cons → bc, length_nil → bf, filter_cons → bg, cons_append → bm, prefix_rfl → bp, reverse_cons → bq, nodup_nil → br, getElem?_of_mem → bt, map_map → bu, prefix_append → bv, nodup_append → bx, all_eq_true → bA, lookup_cons → bC, getD_eq_getElem?_getD → bG, all_cons → bK, any_eq_true → bM, getElem_mem → bN, zip_cons_cons → bO, cons_prefix_cons → bQ, take_length → bR, ext_getElem? → bT, getElem?_eq_none → bU, take_of_length_le → bX, length_reverse → bY, pairwise_cons → bZ, mem_map → b0, pairwise_iff_getElem → b7, pairwise_lt_range → b9, map_append → ca, take_succ → cb, take_append_drop → cf, perm_middle → cg, getElem?_range → ci, forall_mem_nil → ck, map_congr_left → cq, pairwise_map → cu, getElem?_cons_zero → cv, set_cons_succ → cw, mem_or_eq_of_mem_set → cx, length_filter_le → cy, length_range → cA, length_pos_of_mem → cB, mem_flatten → cC, eq_of_mem_replicate → cD, not_mem_nil → cE, mem_singleton → cF, filter_congr → cH, map_id' → cJ
open Option renaming some → aw, isSome_iff_exists → aN, isSome_map → bh
open Nat renaming lt_irrefl → ay, le_trans → aB, lt_trans → bi, zero_le → bj, add_assoc → bo, not_lt_zero → bw, lt_succ_self → bB, lt_of_le_of_lt → bD, le_of_succ_le → bE, le_succ → bF, zero_add → bI, lt_or_ge → bP, lt_succ_of_lt → cc, succ_eq_add_one → cr
open Array renaming length_toList → aH, toList_push → b8, getElem?_eq_none → cj
open Bool renaming false_ne_true → aI, and_false → aZ, and_true → bH, or_eq_true → bJ, eq_iff_iff → bL, not_true → bW, eq_false_iff → cs, true_and → cG, and_eq_false_iff → cI
open PySem renaming Value → cK, Shared → cM, Addr → cN, Program → cO, Around → cP, World → cQ, mainGlobals → cR, starEach → cS, sizeLine → cT, wpAny → cU, codeAny → cV, Heap → cW, FuncData → cX, Stmt → cY, Scope → cZ
open Option renaming some → Z, none → Y
open Bool renaming true → M, false → J
theorem Mi.O{α}{a:α}:a=a:=rfl
open Mi (O)
theorem Mi.al{p:Prop}[Decidable p]:(decide p=true)=p:=decide_eq_true_eq
theorem Mi.ak{c:Prop}{h:Decidable c}(a:c){α:Sort _}{t e:α}:ite c t e=t:=if_pos a
theorem Mi.aj{c:Prop}{h:Decidable c}(a:¬c){α:Sort _}{t e:α}:ite c t e=e:=if_neg a
theorem Mi.ai{p:Prop}[Decidable p]:¬p→decide p=false:=decide_eq_false
theorem Mi.ah{p:Prop}[Decidable p]:p→decide p=true:=decide_eq_true
open List renaming range → af
open Mi (al ak aj ai ah)
noncomputable section
namespace L2
open PySem PySem.Spec PyProof.Rows
abbrev Key:=Sum Int Str
def oX:Key->cK->Bool
 | .inl k,v=>Value.isInt k v
 | .inr x,v=>Value.isStrOf x v
def KB(w:cQ):Key->Int
 | .inl k=>hashInt k
 | .inr x=>hashStr w x
theorem eS:∀{k:Key} {v:cK},oX k v=M->(∃i t,k=Sum.inl i/\v=Value.int i t)\/(∃x t,k=Sum.inr x/\v=Value.str x t)
 | .inl i,v,h=>by
  obtain⟨t,e⟩:=Value.isInt_shape (k:=i) (v:=v) h;exact .inl ⟨i,t,O,e⟩
 | .inr x,v,h=>by
  obtain⟨t,e⟩:=Value.isStrOf_shape (x:=x) (v:=v) h;exact .inr ⟨x,t,O,e⟩
theorem wI(i:Int)(t:Tok):oX (.inl i) (.int i t)=M:=by simp[oX,Value.isInt]
theorem wH(x:Str)(t:Tok):oX (.inr x) (.str x t)=M:=by simp[oX,Value.isStrOf]
theorem GE(a b:Int):decide ((Sum.inl a:Key)=Sum.inl b)=(a == b):=by
 by_cases e:a=b
 ·subst e;simp
 ·have h:¬ (Sum.inl a:Key)=Sum.inl b:=λq=>e (Sum.inl.inj q);rw[ai h];exact(beq_eq_false_iff_ne.mpr e).symm
theorem GB(a b:Str):decide ((Sum.inr a:Key)=Sum.inr b)=decide (a=b):=by
 by_cases e:a=b
 ·subst e;simp
 ·have h:¬ (Sum.inr a:Key)=Sum.inr b:=λq=>e (Sum.inr.inj q);rw[ai h,ai e]
theorem GD(a:Int)(b:Str):decide ((Sum.inl a:Key)=Sum.inr b)=J:=ai (λq=>nomatch q)
theorem GC(a:Str)(b:Int):decide ((Sum.inr a:Key)=Sum.inl b)=J:=ai (λq=>nomatch q)
def eF(prog:cO)(w:cQ):PySem.KeyKind prog w Key where
 is:=oX
 hash:=KB w
 inj:=λv a b ha hb=>by
  rcases eS ha with⟨i,t,rfl,rfl⟩|⟨x,t,rfl,rfl⟩
  ·rcases eS hb with⟨j,u,rfl,e⟩|⟨y,u,rfl,e⟩
   ·injection e with e1 _;rw[e1]
   ·exact nomatch e
  ·rcases eS hb with⟨j,u,rfl,e⟩|⟨y,u,rfl,e⟩
   ·exact nomatch e
   ·injection e with e1 _;rw[e1]
 byValue:=λk v h=>by
  rcases eS h with⟨i,t,rfl,rfl⟩|⟨x,t,rfl,rfl⟩<;>rfl
 pyHash:=λhv h=>by
  rcases eS hv with⟨i,t,rfl,rfl⟩|⟨x,t,rfl,rfl⟩
  ·exact wpAny_pyHash_int h
  ·exact wpAny_pyHash_str h
 eqBool:=λhu hv h=>by
  rcases eS hu with⟨i,t,rfl,rfl⟩|⟨x,t,rfl,rfl⟩
  ·rcases eS hv with⟨j,u,rfl,rfl⟩|⟨y,u,rfl,rfl⟩
   ·rw[GE]at h;exact wpAny_eqBool_int h
   ·rw[GD]at h;exact SeqAt.EqAt.int_str i t y u _ _ _ _ h
  ·rcases eS hv with⟨j,u,rfl,rfl⟩|⟨y,u,rfl,rfl⟩
   ·rw[GC]at h;exact SeqAt.EqAt.str_int x t j u _ _ _ _ h
   ·rw[GB]at h;exact wpAny_eqBool_str h
 «strs» :=λk x t v h=>by
  rcases eS h with⟨i,u,rfl,e⟩|⟨y,u,rfl,e⟩
  ·exact nomatch e
  ·injection e with e1 _;subst e1;cases v<;>rfl
theorem r0(prog:cO)(w:cQ)(i:Int)(t:Tok):(eF prog w).is (.inl i) (.int i t)=M:=wI i t
theorem rZ(prog:cO)(w:cQ)(x:Str)(t:Tok):(eF prog w).is (.inr x) (.str x t)=M:=wH x t
end L2
namespace L2
open PySem PySem.Spec PyProof.Rows
inductive V where
 |non|bl (b:Bool)|int (i:Int)|str (x:Str)|byt (b:Array UInt8)|flt (b:UInt64)|ref (a:cN)|ty (n:String)
 deriving DecidableEq
def dD:V->cK->Prop
 | .non,u=>u=Value.none
 | .bl b,u=>u=Value.bool b
 | .int i,u=>∃t,u=Value.int i t
 | .str x,u=>∃t,u=Value.str x t
 | .byt b,u=>∃t,u=Value.bytes b t
 | .flt b,u=>∃t,u=Value.float b t
 | .ref a,u=>u=Value.ref a
 | .ty n,u=>u=Value.type n
abbrev dU:List V->List cK->Prop:=Paired dD
theorem dU.length{xs:List V}{us:List cK}(r:dU xs us):xs.length=us.length:=Paired.length r
theorem dU.get:∀{xs:List V} {us:List cK} {i:Nat} {x:V},dU xs us->xs[i]?=Z x -> ∃u,us[i]?=Z u/\dD x u:=by
 intro xs us i x h e
 induction h generalizing i with
 |nil=>cases e
 |cons r t ih=>cases i with
  |zero=>cases e;exact⟨_,O,r⟩
  |succ i=>exact ih (i:=i) e
theorem dU.set{x:V}{u:cK}(r:dD x u):∀{xs:List V} {us:List cK} (i:Nat),dU xs us->dU (xs.set i x) (us.set i u):=by
 intro xs us i h
 induction h generalizing i with
 |nil=>exact .nil
 |cons q t ih=>cases i with
  |zero=>exact .cons r t
  |succ i=>exact .cons q (ih i)
theorem dU.append:∀{xs ys:List V} {us ws:List cK},dU xs us->dU ys ws->dU (xs++ys) (us++ws):=by
 intro xs ys us ws h s
 induction h with
 |nil=>exact s
 |cons r t ih=>exact .cons r ih
theorem dU.take:∀{xs:List V} {us:List cK} (n:Nat),dU xs us->dU (xs.take n) (us.take n):=by
 intro xs us n h
 induction h generalizing n with
 |nil=>rw[au,au];exact .nil
 |cons r t ih=>cases n with
  |zero=>exact .nil
  |succ n=>exact .cons r (ih n)
theorem dU.drop:∀{xs:List V} {us:List cK} (n:Nat),dU xs us->dU (xs.drop n) (us.drop n):=by
 intro xs us n h
 induction h generalizing n with
 |nil=>rw[av,av];exact .nil
 |cons r t ih=>cases n with
  |zero=>exact .cons r t
  |succ n=>exact ih n
def lS:Option V->Option cK->Prop
 |some v,Z u=>dD v u
 |none,Y=>True
 |_,_=>False
def KV{κ:Type}:List (κ×V)->List (κ×cK)->Prop:=Paired λ(p:κ×V) (q:κ×cK)=>p.1=q.1/\dD p.2 q.2
def kV:Key->V
 | .inl i=>.int i
 | .inr x=>.str x
inductive HO where
 /-- a list -/
 |lst (xs:List V)
 /-- a tuple (never changes) -/
 |tup (xs:List V)
 /-- a dict whose keys are ints and texts; one whose keys are tuples of ints and texts (the empty one is both) -/
 |dK (kvs:List (Key×V))|dT (kvs:List (List Key×V))
 /-- a set of ints: its members, its size -/
 |set (S:Int->Bool) (n:Nat)
 /-- an instance of the class at C, its dict at dx, its attributes -/
 |ins (C dx:cN) (fs:List (Str×V))
 /-- the dict of the instance at x -/
 |own (x:cN)
 /-- the dict of an exception -/
 |xd (fs:List (Str×V))
 /-- a bound method, f of x -/
 |met (f x:cN)
 /-- a range object lo, lo + 1, .. below hi -/
 |rng (lo hi:Int)
 /-- a thing that is known to the object (the script; a dict while a loop walks it): read, never written while it is so -/
 |frz (o:Obj) (u:HO)
 /-- a code object's table -/
 |tbl (ps:Array cK)
 /-- any other thing, by what is true of its one object (a def of one's own: SetO a S n := HO.ext λh => ..) -/
 |ext (φ:cW->Prop)
abbrev Hp:=cN->Option HO
def upd(H:Hp)(a:cN)(o:HO):Hp:=λb=>if b=a then Z o else H b
theorem d5{H:Hp}{a:cN}{o:HO}:upd H a o a=Z o:=by unfold upd;rw[ak O]
theorem dG{H:Hp}{a b:cN}{o:HO}(h:b≠a):upd H a o b=H b:=by unfold upd;rw[aj h]
theorem IC{H:Hp}{a b:cN}{o u:HO}(h:H a=Z o)(h':H b=Z u)(d:o≠u):a≠b:=by
 intro e;subst e;rw[h]at h';exact d (Option.some.inj h')
theorem d0{H:Hp}{a b:cN}{o:HO}(h:H a=Z o)(h':H b=Y):a≠b:=by
 intro e;subst e;rw[h]at h';cases h'
section
variable(P:cO) (w:cQ)
def ez(H:Hp)(h:cW)(a:cN):HO->Prop
 | .lst xs=>xs.length<=cT /\ ∃(its:List cK) (n:Nat),dU xs its/\h.get? a=Z {cls:=.type "list",data:=.seq its.toArray n}
 | .tup xs=>xs.length<=cT /\ ∃its:List cK,dU xs its/\IsTup h a its.toArray
 | .dK kvs=>kvs.length<=cT/\(a == sysModules)=J /\ ∃vs,KV kvs vs/\h.DictOf (eF P w) a vs
 | .dT kvs=>kvs.length<=cT/\(a == sysModules)=false /\ ∃ xs:List (List Key×cN×cK),
   Paired (λ(p:List Key×V) (q:List Key×cN×cK)=>p.1=q.1/\H q.2.1=Z (.tup (p.1.map kV))/\dD p.2 q.2.2) kvs xs /\
   ∃o es ep,h.get? a=Z o/\o.ExactDict/\o.data = .dict es ep/\es.toList=xs.map (entryOfKey (tupleKind (eF P w)))/\(xs.map (·.1)).Nodup
 | .set S n=>h.SetOf (intKind P w) a S n
 | .ins C dx fs=>H dx=some (.own a)/\fs.length<=1000/\dx≠a/\h.get? a=some (PySem.W.instObj C dx) /\
   ∃mA,h.Ns1 dx mA/\(∀f,lS (fs.lookup f) (mA f))/\PySem.Within mA (fs.map (·.1))
 | .own _=>∃o,h.get? a=Z o
 | .xd fs=>∃mA,h.Ns1 a mA /\ ∀f,lS (fs.lookup f) (mA f)
 | .rng lo hi=>∃t u v,h.get? a=Z {cls:=.type "range",data:=.fields #[.int lo t,.int hi u,.int 1 v]}
 | .frz o u=>h.get? a=Z o/\ez H h a u
 | .tbl ps=>h.get? a=Z {cls:=.none,data:=.fields ps}
 | .met f x=>h.get? a=Z (PySem.W.methodObj (.ref f) (.ref x))
 | .ext φ=>φ h/\(∃o,h.get? a=Z o) /\ ∀h1 h2:cW,φ h1->(∀o,h1.get? a=Z o->h2.get? a=Z o)->φ h2
def kG(H:Hp)(h:cW):Prop:=∀a o,H a=Z o->ez P w H h a o
end
section
variable{P:cO}{w:cQ}{H H':Hp}{h h':cW}{a:cN}{o:HO}
theorem ez.lt(x:ez P w H h a o):a<h.objs.size:=by
 cases o with
 |lst xs=>obtain⟨_,_,_,_,e⟩:=x;exact hL1 e
 |tup xs=>obtain⟨_,_,_,p⟩:=x;exact p.lt
 |dK kvs=>obtain⟨_,_,_,_,o,_,_,e,_⟩:=x;exact hL1 e
 |dT kvs=>obtain⟨_,_,_,_,o,_,_,e,_⟩:=x;exact hL1 e
 |set S n=>obtain⟨o,_,_,_,e,_⟩:=x;exact hL1 e
 |ins C dx fs=>obtain⟨_,_,_,e,_⟩:=x;exact hL1 e
 |own y=>obtain⟨_,e⟩:=x;exact hL1 e
 |xd fs=>obtain⟨_,⟨_,_,_,e,_⟩,_⟩:=x;exact hL1 e
 |rng lo hi=>obtain⟨_,_,_,e⟩:=x;exact hL1 e
 |frz b u=>obtain⟨e,_⟩:=x;exact hL1 e
 |tbl ps=>exact hL1 (show h.get? a=Z _ from x)
 |met f y=>exact hL1 (show h.get? a=Z _ from x)
 |ext φ=>obtain⟨_,⟨_,e⟩,_⟩:=x;exact hL1 e
theorem Paired.mapP{α β:Type}{F G:α->β->Prop}:∀{l₁:List α} {l₂:List β},Paired F l₁ l₂->(∀a b,F a b->G a b)->Paired G l₁ l₂:=by
 intro a b h f
 induction h with
 |nil=>exact .nil
 |cons r t ih=>exact .cons (f _ _ r) ih
theorem ez.stay(x:ez P w H h a o)(k:∀ b u,(b=a\/H b=Z (.own a))->h.get? b=Z u->h'.get? b=Z u)(ho:∀b,H b=Z (.own a)->H' b=Z (.own a))(ht:∀b xs,H b=Z (.tup xs)->H' b=Z (.tup xs)):ez P w H' h' a o:=by
 induction o with
 |lst xs=>obtain⟨z,i,n,r,e⟩:=x;exact⟨z,i,n,r,k _ _ (.inl O) e⟩
 |tup xs=>obtain⟨z,i,r,g,e,c⟩:=x;exact⟨z,i,r,g,k _ _ (.inl O) e,c⟩
 |dK kvs=>obtain⟨z,y,vs,r,g,es,ep,e,c⟩:=x;exact⟨z,y,vs,r,g,es,ep,k _ _ (.inl O) e,c⟩
 |dT kvs=>
  obtain⟨z,y,xs,r,g,es,ep,e,c⟩:=x;exact⟨z,y,xs,Paired.mapP r λp q z=>⟨z.1,ht _ _ z.2.1,z.2.2⟩,g,es,ep,k _ _ (.inl O) e,c⟩
 |set S n=>obtain⟨g,es,ep,t,e,c⟩:=x;exact⟨g,es,ep,t,k _ _ (.inl O) e,c⟩
 |ins C dx fs=>
  obtain⟨d,z,ne,e,mA,⟨j,es,ep,l,c⟩,r⟩:=x;exact⟨ho _ d,z,ne,k _ _ (.inl O) e,mA,⟨j,es,ep,k _ _ (.inr d) l,c⟩,r⟩
 |own y=>obtain⟨g,e⟩:=x;exact⟨g,k _ _ (.inl O) e⟩
 |xd fs=>obtain⟨mA,⟨j,es,ep,e,c⟩,r⟩:=x;exact⟨mA,⟨j,es,ep,k _ _ (.inl O) e,c⟩,r⟩
 |rng lo hi=>obtain⟨t,u,v,e⟩:=x;exact⟨t,u,v,k _ _ (.inl O) e⟩
 |frz g u ih=>obtain⟨e,q⟩:=x;exact⟨k _ _ (.inl O) e,ih q⟩
 |tbl ps=>
  have e:h.get? a=Z {cls:=.none,data:=.fields ps}:=x;show h'.get? a=Z {cls:=.none,data:=.fields ps};exact k a _ (.inl O) e
 |met f y=>
  have e:h.get? a=Z (PySem.W.methodObj (.ref f) (.ref y)):=x;show h'.get? a=Z (PySem.W.methodObj (.ref f) (.ref y));exact k a _ (.inl O) e
 |ext φ=>obtain⟨p,⟨o,e⟩,st⟩:=x;exact⟨st _ _ p λo q=>k _ _ (.inl O) q,⟨o,k _ _ (.inl O) e⟩,st⟩
theorem kG.lt(x:kG P w H h)(e:H a=Z o):a<h.objs.size:=(x a o e).lt
theorem kG.fresh(x:kG P w H h)(e:h.objs.size<=a):H a=Y:=by
 cases q:H a with
 |none=>rfl
 |some u=>exact absurd (nL1 (x.lt q) e) (ay _)
theorem kG.kept(x:kG P w H h)(k:∀b u,h.get? b=Z u->h'.get? b=Z u):kG P w H h':=λa o e=>
 (x a o e).stay (λb u _ q=>k b u q) (λ_ q=>q) λ_ _ q=>q
theorem kG.laid(x:kG P w H h)(k:∀b u,h.get? b=Z u->h'.get? b=Z u)(hp:h.objs.size<=a)(new:ez P w (upd H a o) h' a o):kG P w (upd H a o) h':=λb u e=>by
 have d:=x.fresh hp;by_cases f:b=a
 ·subst f;rw[d5]at e;cases e;exact new
 ·rw[dG f]at e;exact(x b u e).stay (λc v _ q=>k c v q) (λc q=>by rw[dG (d0 q d)];exact q) λc xs q=>by rw[dG (d0 q d)];exact q
end
def Rd(H:Hp)(a:cN)(u:HO):Prop:=H a=Z u \/ ∃o,H a=Z (.frz o u)
theorem Rd.of{H:Hp}{a:cN}{u:HO}(h:H a=Z u):Rd H a u:=.inl h
theorem Rd.ok{P:cO}{w:cQ}{H:Hp}{h:cW}{a:cN}{u:HO}(r:Rd H a u)(x:kG P w H h):ez P w H h a u:=by
 rcases r with r|⟨o,r⟩
 ·exact x a u r
 ·obtain⟨_,q⟩:=x a _ r;exact q
def Hy:Option HO->Prop
 |some (.lst _)=>True
 |some (.dK _)=>True
 |some (.dT _)=>True
 |some (.set _ _)=>True
 |some (.ins _ _ _)=>True
 |some (.ext _)=>True
 |_=>False
section
variable{P:cO}{w:cQ}{H:Hp}{h h':cW}{x e:cN}{o':HO}
theorem kG.write(ok:kG P w H h)(mu:Hy (H x))(he:e=x\/H e=Z (.own x))(k:∀ b u,b≠e->h.get? b=Z u->h'.get? b=Z u)(i:∃ u,h'.get? e=Z u)(new:ez P w (upd H x o') h' x o'):kG P w (upd H x o') h':=λb u q=>by
 have d:∀c y,H c=Z (.own y)->c≠x:=λc y r z=>by subst z;rw[r]at mu;exact mu
 have f:∀c xs,H c=Z (.tup xs)->c≠x:=λc xs r z=>by subst z;rw[r]at mu;exact mu
 by_cases g:b=x
 ·subst g;rw[d5]at q;cases q;exact new
 ·rw[dG g]at q;by_cases a:b=e
  ·have j:H b=some (.own x):=by
    rcases he with z|z
    ·exact absurd (a.trans z) g
    ·rw[a];exact z
   rw[q]at j;cases j;obtain⟨v,l⟩:=i;exact⟨v,by rw[a];exact l⟩
  ·refine(ok b u q).stay (λc v hc r=>k c v ?_ r) (λc r=>by rw[dG (d c b r)];exact r) λc xs r=>by rw[dG (f c xs r)];exact r
   rcases hc with rfl|hc
   ·exact a
   ·rintro rfl;rcases he with z|z
    ·exact d c b hc z
    ·rw[hc]at z;cases z;exact g O
end
structure Un (fs ex:List cN)(H H':Hp)(h h':cW):Prop where
 keep:∀b o,h.get? b=some o->H b=none->b∉fs->b∉ex->h'.get? b=some o
 slot:∀b o,h.get? b=some o->H b=none->b∈fs->b∉ex -> ∃sl,h'.get? b=some {o with slots:=sl}
 free:∀b o,h.get? b=some o->H b=none->b∉ex->H' b=none
 there:∀b o,h.get? b=some o->b∉ex -> ∃o',h'.get? b=some o'
 tups:∀b xs,H b=some (.tup xs)->H' b=some (.tup xs)
 frzs:∀b o u,H b=some (.frz o u)->H' b=some (.frz o u)
 tbls:∀b ps,H b=some (.tbl ps) -> ∃more,H' b=some (.tbl (ps++more))
section
variable{fs fs' ex ex':List cN}{H H1 H2:Hp}{h h1 h2 h':cW}{a x e:cN}{o:HO}
theorem Un.any(u:Un fs ex H H1 h h1){b:cN}{a:Obj}(q:h.get? b=Z a)(n:H b=Y)(hx:b∉ex):∃sl,h1.get? b=Z {a with slots:=sl}:=by
 by_cases c:b∈fs
 ·exact u.slot b a q n c hx
 ·exact⟨a.slots,u.keep b a q n c hx⟩
theorem Un.trans(a:Un fs ex H H1 h h1)(b:Un fs ex H1 H2 h1 h2):Un fs ex H H2 h h2 where
 keep:=λc e q n hc d=>b.keep c e (a.keep c e q n hc d) (a.free c e q n d) hc d
 slot:=λc e q n hc d=>by
  obtain⟨sl,f⟩:=a.slot c e q n hc d;obtain⟨i,g⟩:=b.slot c _ f (a.free c e q n d) hc d;exact⟨i,g⟩
 free:=λc e q n d=>by
  obtain⟨o',f⟩:=a.there c e q d;exact b.free c o' f (a.free c e q n d) d
 there:=λc e q d=>by
  obtain⟨o',f⟩:=a.there c e q d;exact b.there c o' f d
 tups:=λc xs q=>b.tups c xs (a.tups c xs q)
 frzs:=λc e xs q=>b.frzs c e xs (a.frzs c e xs q)
 tbls:=λc ps q=>by
  obtain⟨m1,f⟩:=a.tbls c ps q;obtain⟨m2,g⟩:=b.tbls c _ f;exact⟨m1++m2,by rw[g,Array.append_assoc]⟩
theorem Un.kept(k:∀b u,h.get? b=Z u->h'.get? b=Z u):Un fs ex H H h h':=
 ⟨λb a q _ _ _=>k b a q,λb a q _ _ _=>⟨a.slots,k b a q⟩,λ_ _ _ n _=>n,λb a q _=>⟨a,k b a q⟩,λ_ _ q=>q,λ_ _ _ q=>q,λ_ ps q=>⟨#[],by rw[q];simp⟩⟩
theorem Un.refl:Un fs ex H H h h:=Un.kept λ_ _ q=>q
theorem Un.laid(k:∀b u,h.get? b=Z u->h'.get? b=Z u)(hp:h.objs.size<=a)(hn:H a=Y):Un fs ex H (upd H a o) h h' where
 keep:=λb u q _ _ _=>k b u q
 slot:=λb u q _ _ _=>⟨u.slots,k b u q⟩
 free:=λb u q n _=>by rw[dG (nN1 (nL1 (hL1 q) hp))];exact n
 there:=λb u q _=>⟨u,k b u q⟩
 tups:=λb xs q=>by rw[dG (d0 q hn)];exact q
 frzs:=λb u xs q=>by rw[dG (d0 q hn)];exact q
 tbls:=λb ps q=>⟨#[],by rw[dG (d0 q hn),q];simp⟩
theorem Un.write(mu:Hy (H x))(he:e=x\/H e=Z (.own x))(k:∀b u,b≠e->h.get? b=Z u->h'.get? b=Z u)(c:∃u,h'.get? e=Z u):Un fs ex H (upd H x o) h h':=by
 have g:∀b,H b=Y->b≠x:=λb n z=>by subst z;rw[n]at mu;exact mu
 have f:∀b,H b=Y->b≠e:=λb n z=>by
  subst z;rcases he with r|r
  ·exact g b n r
  ·rw[n]at r;cases r
 have d:∀b u,H b=Z u -> ¬ Hy (Z u)->b≠x:=λb u q nm z=>by subst z;rw[q]at mu;exact nm mu
 refine⟨λb u q n _ _=>k b u (f b n) q,λb u q n _ _=>⟨u.slots,k b u (f b n) q⟩,λb u q n _=>by rw[dG (g b n)];exact n,λb u q _=>?_,
  λb xs q=>by rw[dG (d b _ q λz=>z)];exact q,λb u xs q=>by rw[dG (d b _ q λz=>z)];exact q,λb ps q=>⟨#[],by rw[dG (d b _ q λz=>z),q];simp⟩⟩
 by_cases a:b=e
 ·subst a;exact c
 ·exact⟨u,k b u a q⟩
end
def trk(h:cW)(H:Hp):List cN:=(af h.objs.size).filter λa=>(H a).isSome
def qq(h:cW)(H:Hp):cW:=PySem.W.hideAll h (trk h H)
theorem wQ(h:cW)(H:Hp):(qq h H).objs.size=h.objs.size:=PySem.W.hideAll_size _ _
theorem zJ{h:cW}{H:Hp}{b:cN}{o:Obj}(e:h.get? b=Z o)(n:H b=Y):(qq h H).get? b=Z o:=
 PySem.W.hideAll_get _ e λa=>by
  have q:(H b).isSome=M:=(az.mp a).2;rw[n]at q;simp at q
theorem B6{h:cW}{H:Hp}{b:cN}{o:Obj}(e:(qq h H).get? b=Z o):h.get? b=Z o/\H b=Y:=by
 have a:h.get? b=Z o:=PySem.W.of_hideAll (trk h H) e;refine⟨a,?_⟩;cases q:H b with
 |none=>rfl
 |some x=>
  have c:b∈trk h H:=az.mpr ⟨aA.mpr (hL1 a),by simp[q]⟩;have z:(qq h H).get? b=Y:=PySem.W.hideAll_none (trk h H) c;rw[z]at e;cases e
def Du(g h:cW)(L:cN):List (cN×Obj):=(af h.objs.size).filterMap λa=>if a=L\/(g.get? a).isSome=M then Y else(h.get? a).map λo=>(a,o)
def rest(g h:cW)(L d:cN):List (cN×Obj):=(Du g h L).filter λp=>decide (p.1≠d)
end L2
namespace L2
open PySem PySem.Spec PyProof.Rows
structure Mod (K:Fg1)(mg:Str->Option cK)(base:cW):Prop where
 kin:K.In base
 glob:base.Ns cR mg
 blt:∃mb,base.Ns builtinsNs mb /\ ∀x:Str,x≠"__name__"->mb x=bootBuiltins x
 nolimit:base.NoLimit
structure Cx where
 prog:cO
 w:cQ
 K:Fg1
 mg:Str->Option cK
 base:cW
 A:cP
 N:List Str
 s₀:cM
 H₀:Hp
 env:Env
 outer:List Env
 stack:List Env
 ex:List cN
 fn:Str->Bool
 calm:Bool
 pn:List (cN×Obj)
 xe:cK->cM->Prop
def frs(l:List Env):List cN:=l.filterMap (·.frame)
abbrev Cx.fs(X:Cx):List cN:=frs X.outer
def Vis(sc:cZ)(x:Str):Prop:=sc.names.lookup x=Z .local\/sc.names.lookup x=Z .cell\/sc.names.lookup x=Z .free
def uL(sc:cZ)(x:Str):Prop:=sc.names.lookup x=Z .local\/sc.names.lookup x=Z .cell
def KY(env:Env)(h:cW)(m:Str->Option cK)(x:Str)(u:cK):Prop:=
 (env.kindOf x=Z .local/\m x=Z u)\/((env.kindOf x=Z .cell\/env.kindOf x=Z .free) /\ ∃c,env.cells.lookup x=Z c/\h.IsCell c (Z u))
structure Cx.Ok (X:Cx):Prop where
 mod:Mod X.K X.mg X.base
 kind:X.env.scope.kind = .function
 glob:X.env.globals=cR
 blt:X.env.builtins=builtinsNs
 above:X.s₀.heap.objs.size<=X.env.locals
 inj:∀x y c,X.env.cells.lookup x=some c->X.env.cells.lookup y=some c->x=y
 has:∀x,(X.env.kindOf x=some .cell\/X.env.kindOf x=some .free) -> ∃c,X.env.cells.lookup x=some c
 cab:∀x c,X.fn x=true->X.env.cells.lookup x=some c->X.s₀.heap.objs.size<=c
 hd:X.calm=true->X.A.handled=none
 frames:X.A.frames=some X.stack
 stk:X.stack=X.outer\/(X.stack=X.env::X.outer/\X.env.frame=some X.env.locals)
 exf:∀b∈X.ex,b≠X.env.locals /\ ∀x c,X.env.cells.lookup x=some c->c≠b
 bs:∀b o,X.base.get? b=some o->X.s₀.heap.get? b=some o/\X.H₀ b=none
 bsz:X.base.objs.size<=X.s₀.heap.objs.size
 noex:∀b o,X.base.get? b=some o->b∉X.ex
 exfs:∀b∈X.ex,b∉X.fs
 funs:X.s₀.heap.FunFrames X.base X.outer
 frf:∀b∈X.fs,X.H₀ b=none
structure Inv (X:Cx)(ag:List (cN×Obj))(σ:List (Option V))(H:Hp)(s:cM):Prop where
 ok:X.Ok
 os:s.os=X.s₀.os
 bare:AllBare s.gens
 base:Un X.fs X.ex X.H₀ H X.s₀.heap s.heap
 loc:∃m,s.heap.Ns X.env.locals m /\ ∀(i:Nat) (x:Str) (v:V),X.N[i]?=some x->σ[i]?=some (some v)->Vis X.env.scope x -> ∃u,dD v u/\KY X.env s.heap m x u
 cell:∀x c,X.env.cells.lookup x=some c -> ∃v,s.heap.IsCell c v
 free:H X.env.locals=none
 freeC:∀x c,X.env.cells.lookup x=some c->H c=none
 pin:∀p∈X.pn++ag,s.heap.get? p.1=some p.2/\H p.1=none/\p.1≠X.env.locals/\p.1∉X.fs /\ ∀v,p.2.data ≠ .cell v
 hok:kG X.prog X.w H s.heap
 len:σ.length=X.N.length
section
variable{X:Cx}{ag:List (cN×Obj)}{σ:List (Option V)}{H H':Hp}{s:cM}{h':cW}
theorem Cx.Ok.nofr(ok:X.Ok){b:cN}{o:Obj}(e:X.base.get? b=Z o):b∉X.fs:=λa=>by
 have:=(ok.funs.mem a).1;rw[e]at this;cases this
theorem Inv.bs(I:Inv X ag σ H s):∀b o,X.base.get? b=Z o->s.heap.get? b=Z o/\H b=Y:=λb o e=>
 ⟨I.base.keep b o (I.ok.bs b o e).1 (I.ok.bs b o e).2 (I.ok.nofr e) (I.ok.noex b o e),I.base.free b o (I.ok.bs b o e).1 (I.ok.bs b o e).2 (I.ok.noex b o e)⟩
theorem Inv.bk(I:Inv X ag σ H s):∀b o,X.base.get? b=Z o->s.heap.get? b=Z o:=λb o e=>(I.bs b o e).1
theorem Inv.mod(I:Inv X ag σ H s):Mod X.K X.mg X.base:=I.ok.mod
theorem Inv.kIn(I:Inv X ag σ H s):X.K.In s.heap:=I.ok.mod.kin.keeps I.bk
theorem Inv.lt(I:Inv X ag σ H s):X.env.locals<s.heap.objs.size:=let ⟨_,hn,_⟩:=I.loc;hn.lt
theorem Inv.sz(I:Inv X ag σ H s):X.s₀.heap.objs.size<=s.heap.objs.size:=aB I.ok.above (Nat.le_of_lt I.lt)
theorem Inv.nofs(I:Inv X ag σ H s){a:cN}(h:s.heap.objs.size<=a):a∉X.fs:=λc=>by
 obtain⟨_,o,b,_⟩:=I.ok.funs.mem c;exact absurd (nL1 (hL1 b) (aB I.sz h)) (ay _)
theorem Inv.cne(I:Inv X ag σ H s):∀x c,X.env.cells.lookup x=Z c->c≠X.env.locals:=λx c e z=>by
 obtain⟨v,o,f,d⟩:=I.cell x c e;obtain⟨m,⟨o',es,ep,a,b,_⟩,_⟩:=I.loc;rw[z,a]at f;cases f;rw[b]at d;cases d
theorem Inv.funs(I:Inv X ag σ H s):s.heap.FunFrames X.base X.outer:=by
 have all:∀(l:List Env),(∀b∈frs l,b∈X.fs)->X.s₀.heap.FunFrames X.base l->s.heap.FunFrames X.base l:=by
  intro l
  induction l with
  |nil=>intro _ _;trivial
  |cons h r ih=>
   intro f j;obtain⟨g,⟨L,o,a,k,n,m⟩,i⟩:=j;have c:L∈X.fs:=f L (by unfold frs;rw[aC,a];exact mS1);obtain⟨sl,e⟩:=I.base.slot L o n (I.ok.frf L c) c λz=>I.ok.exfs L z c;exact⟨g,⟨L,_,a,k,e,m⟩,ih (λb d=>f b (by unfold frs;rw[aC,a];exact mC1 _ d)) i⟩
 exact all X.outer (λ_ d=>d) I.ok.funs
theorem Inv.stack(I:Inv X ag σ H s):s.heap.FunFrames X.base X.stack:=by
 rcases I.ok.stk with e|⟨e,b⟩
 ·rw[e];exact I.funs
 ·rw[e];obtain⟨m,a,_⟩:=I.loc;refine .cons (by rw[I.ok.kind];decide) b a ?_ I.funs;exact Heap.get?_none_of_le (aB I.ok.bsz I.ok.above)
theorem Inv.stkSub(I:Inv X ag σ H s):∀b∈frs X.stack,b∈X.env.locals::X.fs:=λb a=>by
 rcases I.ok.stk with e|⟨e,c⟩
 ·rw[e]at a;exact mC1 _ a
 ·rw[e]at a;unfold frs at a;rw[aC,c]at a;exact a
theorem Inv.stkFree(I:Inv X ag σ H s):∀b∈frs X.stack,H b=Y:=λb a=>by
 rcases aD.mp (I.stkSub b a)with e|a
 ·rw[e];exact I.free
 ·obtain⟨_,o,c,_⟩:=I.ok.funs.mem a;exact I.base.free b o c (I.ok.frf b a) λz=>I.ok.exfs b z a
theorem Inv.step{g':Array GenState}{t':Nat}{d':Drawn}{ch:List cN}(I:Inv X ag σ H s)(g:∀b∈ch,(b∈X.ex\/X.s₀.heap.objs.size<=b)/\b≠X.env.locals/\(∀x c,X.env.cells.lookup x=some c->c≠b) /\ ∀p∈X.pn++ag,p.1≠b)(keep:∀b o,b≠X.env.locals->b∉X.fs->b∉ch->s.heap.get? b=some o->H b=none->h'.get? b=some o)(slot:∀b o,b≠X.env.locals->b∈X.fs->b∉ch->s.heap.get? b=some o->H b=none -> ∃sl,h'.get? b=some {o with slots:=sl})(free:∀b o,b∉ch->s.heap.get? b=some o->H b=none->H' b=none)(w:∀b o,b∉ch->s.heap.get? b=some o -> ∃o',h'.get? b=some o')(B:∀b xs,H b=some (.tup xs)->H' b=some (.tup xs))(F:∀b o u,H b=some (.frz o u)->H' b=some (.frz o u))(C:∀b ps,H b=some (.tbl ps) -> ∃more,H' b=some (.tbl (ps++more)))(ns:∀m,s.heap.Ns X.env.locals m->h'.Ns X.env.locals m)(G:kG X.prog X.w H' h')(hg:AllBare g'):
  Inv X ag σ H' {s with heap:=h',gens:=g',drawn:=d',toks:=t'}:=by
 have E:∀b o,X.s₀.heap.get? b=Z o->b≠X.env.locals:=λb o e=>nN1 (nL1 (hL1 e) I.ok.above);have t:∀b o,X.s₀.heap.get? b=Z o->b∉X.ex->b∉ch:=λb o e a y=>by
  rcases(g b y).1 with z|z
  ·exact a z
  ·exact absurd (nL1 (hL1 e) z) (ay _)
 have h:∀x c,X.env.cells.lookup x=Z c -> ∀v,s.heap.IsCell c v->h'.IsCell c v:=λx c e v ⟨o,A,K⟩=>by
  have f:c∉ch:=λz=>(g c z).2.2.1 x c e O;by_cases hc:c∈X.fs
  ·obtain⟨sl,q⟩:=slot c o (I.cne x c e) hc f A (I.freeC x c e);exact⟨_,q,K⟩
  ·exact⟨o,keep c o (I.cne x c e) hc f A (I.freeC x c e),K⟩
 refine⟨I.ok,I.os,hg,⟨λb o e n y a=>?_,λb o e n y a=>?_,λb o e n a=>?_,λb o e a=>?_,λb xs e=>B b xs (I.base.tups b xs e),λb o xs e=>F b o xs (I.base.frzs b o xs e),λb ps e=>?_⟩,?_,λx c e=>?_,?_,λx c e=>?_,λp ao=>?_,G,I.len⟩
 ·exact keep b o (E b o e) y (t b o e a) (I.base.keep b o e n y a) (I.base.free b o e n a)
 ·obtain⟨sl,j⟩:=I.base.slot b o e n y a;obtain⟨am,D⟩:=slot b _ (E b o e) y (t b o e a) j (I.base.free b o e n a);exact⟨am,D⟩
 ·obtain⟨o',j⟩:=I.base.there b o e a;exact free b o' (t b o e a) j (I.base.free b o e n a)
 ·obtain⟨o',j⟩:=I.base.there b o e a;exact w b o' (t b o e a) j
 ·obtain⟨m1,j⟩:=I.base.tbls b ps e;obtain⟨m2,D⟩:=C b _ j;exact⟨m1++m2,by rw[D,Array.append_assoc]⟩
 ·obtain⟨m,ar,N⟩:=I.loc;refine⟨m,ns m ar,λi x v j D P=>?_⟩;obtain⟨u,r,l⟩:=N i x v j D P;refine⟨u,r,?_⟩;rcases l with l|⟨k,c,e,z⟩
  ·exact .inl l
  ·exact .inr ⟨k,c,e,h x c e _ z⟩
 ·obtain⟨v,z⟩:=I.cell x c e;exact⟨v,h x c e v z⟩
 ·obtain⟨m,⟨o,_,_,A,_⟩,_⟩:=I.loc;exact free _ o (λz=>(g _ z).2.1 O) A I.free
 ·obtain⟨v,o,A,K⟩:=I.cell x c e;exact free c o (λz=>(g c z).2.2.1 x c e O) A (I.freeC x c e)
 ·obtain⟨e,n,ne,L,d⟩:=I.pin p ao;have f:p.1∉ch:=λz=>(g p.1 z).2.2.2 p ao O;exact⟨keep p.1 p.2 ne L f e n,free p.1 p.2 f e n,ne,L,d⟩
theorem Inv.un{t':Nat}(I:Inv X ag σ H s)(u:Un X.fs [] H H' s.heap h')(d:kG X.prog X.w H' h'):Inv X ag σ H' {s with heap:=h',toks:=t'}:=by
 obtain⟨m,⟨o,es,ep,h,r⟩,_⟩:=id I.loc;obtain⟨sl,j⟩:=u.any h I.free (by simp);exact I.step (g':=s.gens) (d':=s.drawn) (ch:=[]) (λ_ z=>nomatch z) (λb o _ f _ e n=>u.keep b o e n f (by simp)) (λb o _ f _ e n=>u.slot b o e n f (by simp)) (λb o _ e n=>u.free b o e n (by simp)) (λb o _ e=>u.there b o e (by simp)) u.tups u.frzs u.tbls (λl k=>by
  obtain⟨o',g,c,a,i⟩:=k;rw[h]at a;cases a;exact⟨_,g,c,j,i⟩) d I.bare
theorem Inv.call{g':Array GenState}{t':Nat}{d':Drawn}{ch:List cN}(I:Inv X ag σ H s)(u:Un (frs X.stack) ch H H' s.heap h')(g:kG X.prog X.w H' h')(hg:AllBare g')(d:∀b∈ch,(b∈X.ex\/X.s₀.heap.objs.size<=b)/\b≠X.env.locals/\(∀x c,X.env.cells.lookup x=some c->c≠b) /\ ∀p∈X.pn++ag,p.1≠b):
  Inv X ag σ H' {s with heap:=h',gens:=g',drawn:=d',toks:=t'}:=by
 obtain⟨m,⟨o,es,ep,j,r⟩,_⟩:=id I.loc;obtain⟨sl,h⟩:=u.any j I.free λz=>(d _ z).2.1 O;exact I.step (ch:=ch) d (λb o h l hc e n=>u.keep b o e n (λz=>(aD.mp (I.stkSub b z)).elim h l) hc) (λb o _ _ hc e n=>u.any e n hc) (λb o hc e n=>u.free b o e n hc) (λb o hc e=>u.there b o e hc) u.tups u.frzs u.tbls (λt q=>by
  obtain⟨o',i,f,a,k⟩:=q;rw[j]at a;cases a;exact⟨_,i,f,h,k⟩) g hg
theorem Inv.turned{t':Nat}{it:cN}(I:Inv X ag σ H s)(k:∀ b o,b≠it->s.heap.get? b=Z o->h'.get? b=Z o)(hn:H it=Y)(d:it≠X.env.locals)(h1:it∈X.ex\/X.s₀.heap.objs.size<=it)(h2:∀x c,X.env.cells.lookup x=Z c->c≠it)(h:∀p∈X.pn++ag,p.1≠it):Inv X ag σ H {s with heap:=h',toks:=t'}:=by
 have a:∀b u,H b=Z u->b≠it:=λb u e z=>by rw[z,hn]at e;cases e
 refine I.step (g':=s.gens) (d':=s.drawn) (ch:=[it]) (λb f=>?_) (λb o _ _ hc e _=>k b o (λz=>hc (by simp[z])) e) (λb o _ _ hc e _=>⟨o.slots,k b o (λz=>hc (by simp[z])) e⟩) (λ_ _ _ _ n=>n)
  (λb o hc e=>⟨o,k b o (λz=>hc (by simp[z])) e⟩) (λ_ _ e=>e) (λ_ _ _ e=>e) (λb ps e=>⟨#[],by rw[e];simp⟩) (λm g=>?_) (λb u e=>?_) I.bare
 ·have e:b=it:=by simpa using f
  subst e;exact⟨h1,d,h2,h⟩
 ·obtain⟨o,es,ep,i,r⟩:=g;exact⟨o,es,ep,k _ o (Ne.symm d) i,r⟩
 ·refine(I.hok b u e).stay (λc v hc q=>k c v ?_ q) (λ_ q=>q) λ_ _ q=>q;rcases hc with z|z
  ·rw[z];exact a b u e
  ·exact a c _ z
theorem Inv.tok(I:Inv X ag σ H s)(t:Nat):Inv X ag σ H {s with toks:=t}:=I.un (h':=s.heap) (t':=t) Un.refl I.hok
theorem Inv.kept{t':Nat}(I:Inv X ag σ H s)(k:∀b u,s.heap.get? b=Z u->h'.get? b=Z u):Inv X ag σ H {s with heap:=h',toks:=t'}:=I.un (Un.kept k) (I.hok.kept k)
theorem Inv.laid{a:cN}{o:HO}{t':Nat}(I:Inv X ag σ H s)(k:∀ b u,s.heap.get? b=some u->h'.get? b=some u)(hp:s.heap.objs.size<=a)(new:ez X.prog X.w (upd H a o) h' a o):
  Inv X ag σ (upd H a o) {s with heap:=h',toks:=t'}:=I.un (Un.laid k hp (I.hok.fresh hp)) (I.hok.laid k hp new)
theorem Inv.write{x e:cN}{o:HO}{t':Nat}(I:Inv X ag σ H s)(mu:Hy (H x))(he:e=x\/H e=Z (.own x))(k:∀ b u,b≠e->s.heap.get? b=Z u->h'.get? b=Z u)(a:∃ u,h'.get? e=Z u)(new:ez X.prog X.w (upd H x o) h' x o):Inv X ag σ (upd H x o) {s with heap:=h',toks:=t'}:=I.un (Un.write mu he k a) (I.hok.write mu he k a new)
theorem Inv.pins_of{a:List (cN×Obj)}(I:Inv X ag σ H s)(h:∀p∈a,s.heap.get? p.1=Z p.2/\H p.1=Y/\p.1≠X.env.locals/\p.1∉X.fs /\ ∀v,p.2.data ≠ .cell v):Inv X a σ H s:=
 ⟨I.ok,I.os,I.bare,I.base,I.loc,I.cell,I.free,I.freeC,λp b=>(aE.mp b).elim (λz=>I.pin p (aF _ z)) (h p),I.hok,I.len⟩
theorem rX{N:List Str}(hN:N.Nodup){i j:Nat}{x:Str}(a:N[i]?=Z x)(b:N[j]?=Z x):i=j:=by
 obtain⟨h1,d⟩:=gE1.mp a;obtain⟨h2,c⟩:=gE1.mp b;exact(List.getElem_inj hN).mp (d.trans c.symm)
theorem wl{ao:Model}{A:cP}{E:cK->cM->Prop}{i:Nat}{x:Str}{v:V}{u:cK}{Q:Unit->cM->Prop}(I:Inv X ag σ H s)(hN:X.N.Nodup)(hi:X.N[i]? = Z x)(hx:uL X.env.scope x)(r:dD v u)(h:∀s',Inv X ag (σ.set i (Z v)) H s'->(∃a,Heap.SameBut a s.heap s'.heap/\(a=X.env.locals\/X.env.cells.lookup x=Z a))->Q () s')(hf:X.fn x=M\/X.env.scope.names.lookup x=Z .local:=by first|exact .inl rfl|exact .inr rfl|assumption):cU ao A (storeName X.env x u) Q E s:=by
 obtain⟨m,R,hl⟩:=id I.loc;have G:(X.env.scope.kind == .class||(X.env.scope.kind == .module&&X.env.locals != X.env.globals))=J:=by rw[I.ok.kind];rfl
 have B:i<σ.length:=by rw[I.len];exact(gE1.mp hi).1
 have cne:=I.cne;have tracked:∀{a:cN} {h':cW},(∃o,s.heap.get? a=Z o/\H a=Y)->Heap.SameBut a s.heap h'->kG X.prog X.w H h':=λ{a h'} ha f b ob e=>by
  obtain⟨_,_,l⟩:=ha;refine(I.hok b ob e).stay (λc P hc q=>(f.2 c ?_).trans q) (λ_ q=>q) λ_ _ q=>q;rintro rfl;rcases hc with rfl|hc
  ·rw[l]at e;cases e
  ·rw[l]at hc;cases hc
 rcases hx with w|w
 ·refine wpAny_storeName_local w R (λh' W f=>?_) G;obtain⟨oL,_,_,aq,_⟩:=id R;refine h _ ⟨I.ok,I.os,I.bare,⟨λb o e n C hx=>?_,λb o e n C hx=>?_,I.base.free,λb o e hx=>?_,I.base.tups,I.base.frzs,I.base.tbls⟩,⟨_,W,λj y T g t e3=>?_⟩,λy c e=>?_,I.free,I.freeC,λp wq=>?_,tracked ⟨oL,aq,I.free⟩ f,by simpa using I.len⟩ ⟨_,f,.inl O⟩
  ·exact(f.2 b (nN1 (nL1 (hL1 e) I.ok.above))).trans (I.base.keep b o e n C hx)
  ·obtain⟨sl,g⟩:=I.base.slot b o e n C hx;exact⟨sl,(f.2 b (nN1 (nL1 (hL1 e) I.ok.above))).trans g⟩
  ·obtain⟨o',g⟩:=I.base.there b o e hx;exact⟨o',(f.2 b (nN1 (nL1 (hL1 e) I.ok.above))).trans g⟩
  ·by_cases D:j=i
   ·subst D;rw[hi]at g;cases g;rw[aG B]at t;cases t;exact⟨u,r,.inl ⟨w,by simp⟩⟩
   ·rw[gS1 (Ne.symm D)]at t;obtain⟨u',U,q⟩:=hl j y T g t e3;refine⟨u',U,?_⟩;rcases q with⟨k,e⟩|⟨k,c,e,z⟩
    ·refine .inl ⟨k,?_⟩;have:y≠x:=λe=>D (rX hN g (e ▸ hi));simp[this,e]
    ·exact .inr ⟨k,c,e,z.sameBut f (cne y c e)⟩
  ·obtain⟨P,z⟩:=I.cell y c e;exact⟨P,z.sameBut f (cne y c e)⟩
  ·obtain⟨e,n,ne,S,d⟩:=I.pin p wq;exact⟨(f.2 p.1 ne).trans e,n,ne,S,d⟩
 ·have F:X.fn x=true:=by
   rcases hf with z|z
   ·exact z
   ·rw[z]at w;cases w
  obtain⟨c,hc⟩:=I.ok.has x (.inl w);obtain⟨P,z⟩:=I.cell x c hc;refine wpAny_storeName_cell I.ok.kind w hc z (λh' L f=>?_);obtain⟨oc,N,am⟩:=id z;refine h {s with heap:=h'} ⟨I.ok,I.os,I.bare,⟨λb o e n C hx=>?_,λb o e n C hx=>?_,I.base.free,λb o e hx=>?_,I.base.tups,I.base.frzs,I.base.tbls⟩,⟨m,R.sameBut f (Ne.symm (cne x c hc)),λj y T g t e3=>?_⟩,λy ar e=>?_,I.free,I.freeC,λp wq=>?_,tracked ⟨oc,N,I.freeC x c hc⟩ f,by simpa using I.len⟩ ⟨c,f,.inr hc⟩
  ·exact(f.2 b (nN1 (nL1 (hL1 e) (I.ok.cab x c F hc)))).trans (I.base.keep b o e n C hx)
  ·obtain⟨sl,g⟩:=I.base.slot b o e n C hx;exact⟨sl,(f.2 b (nN1 (nL1 (hL1 e) (I.ok.cab x c F hc)))).trans g⟩
  ·obtain⟨o',g⟩:=I.base.there b o e hx;exact⟨o',(f.2 b (nN1 (nL1 (hL1 e) (I.ok.cab x c F hc)))).trans g⟩
  ·by_cases D:j=i
   ·subst D;rw[hi]at g;cases g;rw[aG B]at t;cases t;exact⟨u,r,.inr ⟨.inl w,c,hc,L⟩⟩
   ·rw[gS1 (Ne.symm D)]at t;obtain⟨u',U,q⟩:=hl j y T g t e3;refine⟨u',U,?_⟩;rcases q with q|⟨k,ar,e,z'⟩
    ·exact .inl q
    ·refine .inr ⟨k,ar,e,z'.sameBut f ?_⟩;rintro rfl;exact D (rX hN g (I.ok.inj _ _ _ e hc ▸ hi))
  ·by_cases K:ar=c
   ·subst K;exact⟨_,L⟩
   ·obtain⟨w2,z2⟩:=I.cell y ar e;exact⟨w2,z2.sameBut f K⟩
  ·obtain⟨e,n,ne,S,d⟩:=I.pin p wq;refine⟨(f.2 p.1 ?_).trans e,n,ne,S,d⟩;intro q;rw[q,N]at e;have q':oc=p.2:=Option.some.inj e;exact d P (by rw[<- q'];exact am)
theorem jt{ao:Model}{A:cP}{E:cK->cM->Prop}{i:Nat}{x:Str}{v:V}{u:cK}{Q:Unit->cM->Prop}(I:Inv X ag σ H s)(hN:X.N.Nodup)(hi:X.N[i]? = Z x)(hx:uL X.env.scope x)(r:dD v u)(h:∀s',Inv X ag (σ.set i (Z v)) H s'->Q () s')(hf:X.fn x=M\/X.env.scope.names.lookup x=Z .local:=by first|exact .inl rfl|exact .inr rfl|assumption):cU ao A (storeName X.env x u) Q E s:=
 wl I hN hi hx r (λs' a _=>h s' a) hf
theorem Inv.call'{s':cM}{ch:List cN}(I:Inv X ag σ H s)(ho:s'.os=s.os)(u:Un (frs X.stack) ch H H' s.heap s'.heap)(a:kG X.prog X.w H' s'.heap)(hg:AllBare s'.gens)(d:∀b∈ch,(b∈X.ex\/X.s₀.heap.objs.size<=b)/\b≠X.env.locals/\(∀x c,X.env.cells.lookup x=Z c->c≠b) /\ ∀p∈X.pn++ag,p.1≠b):Inv X ag σ H' s':=by
 obtain⟨h',g,f,h,o'⟩:=s';have e:o'=s.os:=ho;subst e;exact I.call (g':=g) (t':=h) (d':=f) u a hg d
end
abbrev XK:=cK->Option cN->Hp->Prop
abbrev St:=List (Option V)
abbrev VK:=V->Hp->Prop
abbrev TE:=St->Hp->VK->Prop
abbrev TT:=St->Hp->(Bool->Hp->Prop)->Prop
abbrev TA:=St->Hp->(List V->Hp->Prop)->Prop
structure jn where
 nx:St->Hp->Prop
 rt:VK
 bk:St->Hp->Prop:=λ_ _=>False
 ct:St->Hp->Prop:=λ_ _=>False
abbrev TS:=jn->St->Hp->Prop
def EP(X:Cx)(ag:List (cN×Obj))(σ:St)(Q:VK)(u:cK)(s':cM):Prop:=∃v H',Inv X ag σ H' s'/\dD v u/\Q v H'
def TP(X:Cx)(ag:List (cN×Obj))(σ:St)(Q:Bool->Hp->Prop)(b:Bool)(s':cM):Prop:=∃H',Inv X ag σ H' s'/\Q b H'
def AP(X:Cx)(ag:List (cN×Obj))(σ:St)(Q:List V->Hp->Prop)(us:List cK)(s':cM):Prop:=∃vs H',Inv X ag σ H' s'/\dU vs us/\Q vs H'
def SP(X:Cx)(ag:List (cN×Obj))(D:jn)(f:Flow)(s':cM):Prop:=
 match f with
 | .next=>∃ σ' H',Inv X ag σ' H' s'/\D.nx σ' H'
 | .brk=>∃ σ' H',Inv X ag σ' H' s'/\D.bk σ' H'
 | .cont=>∃ σ' H',Inv X ag σ' H' s'/\D.ct σ' H'
 | .ret u=>∃v σ' H',Inv X ag σ' H' s'/\dD v u/\D.rt v H'
def PE(X:Cx)(e:Expr)(t:TE):Prop:=
 ∀(ag:List (cN×Obj)) (s:cM) (σ:St) (H:Hp) (Q:VK),Inv X ag σ H s->t σ H Q->cU (model X.prog X.w) X.A (eval e X.env) (EP X ag σ Q) X.xe s
def PT(X:Cx)(e:Expr)(t:TT):Prop:=
 ∀(ag:List (cN×Obj)) (s:cM) (σ:St) (H:Hp) (Q:Bool->Hp->Prop),Inv X ag σ H s->t σ H Q->cU (model X.prog X.w) X.A (isTrue e X.env (eval e X.env)) (TP X ag σ Q) X.xe s
def PW(X:Cx)(e:Expr)(t:TT):Prop:=
 ∀(whole:Sem cK) (ag:List (cN×Obj)) (s:cM) (σ:St) (H:Hp) (Q:Bool->Hp->Prop),Inv X ag σ H s->t σ H Q->cU (model X.prog X.w) X.A (isTrue e X.env whole) (TP X ag σ Q) X.xe s
theorem PW.pt{X:Cx}{e:Expr}{t:TT}(h:PW X e t):PT X e t:=h _
def PA(X:Cx)(es:List Expr)(t:TA):Prop:=
 ∀(pos:Pos) (ag:List (cN×Obj)) (s:cM) (σ:St) (H:Hp) (Q:List V->Hp->Prop),Inv X ag σ H s->t σ H Q->cU (model X.prog X.w) X.A (spliced (backTo pos (cS es X.env))) (AP X ag σ Q) X.xe s
def PS(X:Cx)(st:cY)(t:TS):Prop:=
 ∀(ag:List (cN×Obj)) (s:cM) (σ:St) (H:Hp) (D:jn),Inv X ag σ H s->t D σ H->cU (model X.prog X.w) X.A (exec st X.env) (SP X ag D) X.xe s
def tq(X:Cx)(st:List cY)(t:TS):Prop:=
 ∀(ag:List (cN×Obj)) (s:cM) (σ:St) (H:Hp) (D:jn),Inv X ag σ H s->t D σ H->cU (model X.prog X.w) X.A (execs st X.env) (SP X ag D) X.xe s
theorem eN{α:Type}{t:Sem α}{Q b:α->cM->Prop}{ao:Model}{A:cP}{E:cK->cM->Prop}{s:cM}(h:cU ao A t Q E s)(c:∀a s,Q a s->b a s):cU ao A t b E s:=wpAny_mono h c λ_ _ x=>x
end L2
namespace L2
open PySem PySem.Spec PyProof.Rows
section
variable{X:Cx}
theorem Md{a b:Expr}{ta tb:TE}(ha:PE X a ta)(hb:PE X b tb){ag:List (cN×Obj)}{s:cM}{σ:St}{H:Hp}{R:V->V->Hp->Prop}(I:Inv X ag σ H s)(h:ta σ H fun x H1=>tb σ H1 fun y H2=>R x y H2){α:Type}{Q:α->cM->Prop}{f:cK->cK->Sem α}(hf:∀v u e x y H2,Inv X ag σ H2 e->dD x v->dD y u->R x y H2->cU (model X.prog X.w) X.A (f v u) Q X.xe e):
  cU (model X.prog X.w) X.A (eval a X.env) (λv c=>cU (model X.prog X.w) X.A (eval b X.env) (λu d=>cU (model X.prog X.w) X.A (f v u) Q X.xe d) X.xe c) X.xe s:=by
 refine eN (ha ag s σ H _ I h) λv k ⟨x,H1,l,i,m⟩=>?_;refine eN (hb ag k σ H1 _ l m) λu e ⟨y,H2,j,r2,g⟩=>?_;exact hf v u e x y H2 j i r2 g
def JX(i:Nat):TE:=fun σ H Q=>∃v,σ[i]?=Z (Z v)/\Q v H
def tC(v:V):TE:=λ_ H Q=>Q v H
theorem Fk {i:Nat}{x:Str}{pos:Pos}(hN:X.N[i]?=Z x)(hv:Vis X.env.scope x)(hd:(x == ("__debug__":Str))=J:=by decide)(hcd:(x == ("__classdict__":Str))=J:=by decide):PE X (.Name x pos) (JX i):=by
 intro ag s σ H Q I h;obtain⟨v,e,h⟩:=h;obtain⟨m,f,g⟩:=I.loc;obtain⟨u,r,l⟩:=g i x v hN e hv;have b:EP X ag σ Q u s:=⟨v,H,I,r,h⟩;rcases l with⟨d,j⟩|⟨d,c,hc,a⟩
 ·exact wpAny_Name (wpAny_loadName_local I.ok.kind d f j b) hd
 ·rcases d with d|d
  ·exact wpAny_Name (wpAny_loadName_cell I.ok.kind d hc a b) hd
  ·exact wpAny_Name (wpAny_loadName_free I.ok.kind d hc a b hcd) hd
theorem Fu{i j pos}:PE X (.Constant (.int i) j pos) (tC (.int i)):=λ_ _ _ H _ I h=>wpAny_Constant_int ⟨.int i,H,I.tok _,⟨_,O⟩,h⟩
theorem Iq{b j pos}:PE X (.Constant (.bool b) j pos) (tC (.bl b)):=λ_ _ _ H _ I h=>Constant_bool ⟨.bl b,H,I,O,h⟩
theorem Fs{j pos}:PE X (.Constant .none j pos) (tC .non):=λ_ _ _ H _ I h=>Constant_none ⟨.non,H,I,O,h⟩
theorem Fn{x j pos}:PE X (.Constant (.str x) j pos) (tC (.str x)):=λ_ _ _ H _ I h=>Calls.Constant_str ⟨.str x,H,I.tok _,⟨_,O⟩,h⟩
def Gl(X:Cx)(x:Str):Prop:=X.env.kindOf x=Z .globalImplicit
theorem vy {E:cK->cM->Prop}{ag:List (cN×Obj)}{s:cM}{σ:St}{H:Hp}{x:Str}{u:cK}{pos:Pos}{Q:cK->cM->Prop}(I:Inv X ag σ H s)(hg:Gl X x)(hm:X.mg x=some u)(h:Q u s)
  (hd:(x == ("__debug__":Str))=J:=by decide):cU (model X.prog X.w) X.A (eval (.Name x pos) X.env) Q E s:=
 Calls.Name_function_global I.ok.kind hg (Calls.loadGlobal_global (by rw[I.ok.glob];exact I.mod.glob.keeps I.bk) hm h) hd
theorem lG {E:cK->cM->Prop}{ag:List (cN×Obj)}{s:cM}{σ:St}{H:Hp}{x:Str}{u:cK}{pos:Pos}{Q:cK->cM->Prop}(I:Inv X ag σ H s)(hg:Gl X x)(hm:X.mg x=none)(hv:bootBuiltins x=some u)(h:Q u s)
  (hn:x≠"__name__":=by decide) (hd:(x == ("__debug__":Str))=J:=by decide):cU (model X.prog X.w) X.A (eval (.Name x pos) X.env) Q E s:=by
 obtain⟨a,h1,h2⟩:=I.mod.blt;exact Calls.Name_function_global I.ok.kind hg (Calls.loadGlobal_builtin (by rw[I.ok.glob];exact I.mod.glob.keeps I.bk) hm (by rw[I.ok.blt];exact h1.keeps I.bk) ((h2 x hn).trans hv) h) hd
theorem BV {x:Str}{v:V}{u:cK}{pos:Pos}(hg:Gl X x)(hm:X.mg x=Z u)(r:dD v u)(hd:(x == ("__debug__":Str))=J:=by decide):PE X (.Name x pos) (tC v):=
 λ_ _ _ H _ I h=>vy I hg hm ⟨v,H,I,r,h⟩ hd
theorem BZ {x:Str}{v:V}{u:cK}{pos:Pos}(hg:Gl X x)(hm:X.mg x=Y)(hv:bootBuiltins x=Z u)(r:dD v u)(hn:x≠"__name__":=by decide)(hd:(x == ("__debug__":Str))=J:=by decide):PE X (.Name x pos) (tC v):=
 λ_ _ _ H _ I h=>lG I hg hm hv ⟨v,H,I,r,h⟩ hn hd
variable{a b:Expr}{ta tb:TE}{pos:Pos}
def tB(t:TE):TT:=fun σ H Q=>t σ H λx H1=>∃c,x = .bl c/\Q c H1
variable{tA tB':TT}{rest:List Expr}
def Kd(t u:TT):TT:=fun σ H Q=>t σ H λc H1=>if c=M then u σ H1 Q else Q J H1
def Lr(t u:TT):TT:=fun σ H Q=>t σ H λc H1=>if c=M then Q M H1 else u σ H1 Q
def J4(t:TT):TT:=fun σ H Q=>t σ H λc H1=>Q (!c) H1
theorem BD(ha:PT X a tA):PW X (.BoolOp .And [a] pos) tA:=by
 intro b ag s σ H Q I h;refine isTrue_and (eN (ha ag s σ H Q I h) λc d e=>?_);cases c with
 |true=>exact isTrue_and_nil e
 |false=>exact e
theorem E6(ha:PT X a tA):PW X (.BoolOp .Or [a] pos) tA:=by
 intro b ag s σ H Q I h;refine isTrue_or (eN (ha ag s σ H Q I h) λc d e=>?_);cases c with
 |false=>exact isTrue_or_nil e
 |true=>exact e
theorem E7(ha:PT X a tA)(hb:PW X (.BoolOp .And (b::rest) pos) tB'):PW X (.BoolOp .And (a::b::rest) pos) (Kd tA tB'):=by
 intro f ag s σ H Q I h;refine isTrue_and (eN (ha ag s σ H _ I h) λc g ⟨H1,d,e⟩=>?_);cases c with
 |true=>exact hb f ag g σ H1 Q d e
 |false=>exact⟨H1,d,e⟩
theorem Ig(ha:PT X a tA)(hb:PW X (.BoolOp .Or (b::rest) pos) tB'):PW X (.BoolOp .Or (a::b::rest) pos) (Lr tA tB'):=by
 intro f ag s σ H Q I h;refine isTrue_or (eN (ha ag s σ H _ I h) λc g ⟨H1,d,e⟩=>?_);cases c with
 |true=>exact⟨H1,d,e⟩
 |false=>exact hb f ag g σ H1 Q d e
theorem E9(ha:PT X a tA):PT X (.UnaryOp .Not a pos) (J4 tA):=by
 intro ag s σ H Q I h;exact isTrue_not (ha ag s σ H (λc H1=>Q (!c) H1) I h)
def H0(ta tb:TE):TE:=fun σ H Q=>ta σ H λx H1=>∃c,x = .bl c/\if c=M then tb σ H1 Q else Q (.bl J) H1
def HQ(ta:TE):TE:=fun σ H Q=>ta σ H λx H1=>∃c,x = .bl c/\Q (.bl (!c)) H1
theorem Fp{op}{t:TE}(h:PE X a t):PE X (.BoolOp op [a] pos) t:=λag s σ H Q I b=>BoolOp_one (h ag s σ H Q I b)
theorem Fv(ha:PE X a ta)(hb:PE X (.BoolOp .And (b::rest) pos) tb):PE X (.BoolOp .And (a::b::rest) pos) (H0 ta tb):=by
 intro ag s σ H Q I h;refine BoolOp_and (eN (ha ag s σ H _ I h) λv g ⟨x,H1,e,f,d⟩=>?_);obtain⟨c,rfl,d⟩:=d;cases f;refine wpAny_truthy_bool ?_;cases c with
 |true=>exact hb ag g σ H1 Q e d
 |false=>exact⟨.bl J,H1,e,O,d⟩
theorem Fq(ha:PE X a ta):PE X (.UnaryOp .Not a pos) (HQ ta):=by
 intro ag s σ H Q I h;refine UnaryOp_ (eN (ha ag s σ H _ I h) λv f ⟨x,H1,e,d,b⟩=>?_);obtain⟨c,rfl,b⟩:=b;cases d;exact not_of (wpAny_truthy_bool ⟨.bl (!c),H1,e,O,b⟩)
def Lu(t:TT)(ta tb:TE):TE:=fun σ H Q=>t σ H λc H1=>if c=M then ta σ H1 Q else tb σ H1 Q
theorem yG{c:Expr}(hc:PT X c tA)(ha:PE X a ta)(hb:PE X b tb):PE X (.IfExp c a b pos) (Lu tA ta tb):=by
 intro ag s σ H Q I h;refine wpAny_IfExp (eN (hc ag s σ H _ I h) λd g ⟨H1,e,f⟩=>?_);cases d with
 |true=>exact ha ag g σ H1 Q e f
 |false=>exact hb ag g σ H1 Q e f
end
end L2
namespace L2
open PySem PySem.Spec PyProof.Rows
def lp(K:Fg1)(H:Hp)(a:cN)(xs:List V):Prop:=
 Rd H a (.lst xs) \/
  ∃(o:Obj) (its:Array cK) (n:Nat),K.lookup a=Z o/\o.cls = .type "list"/\o.dict=Y/\o.data = .seq its n/\its.size<=cT/\dU xs its.toList
def jW(K:Fg1)(H:Hp)(a:cN)(xs:List V):Prop:=
 Rd H a (.tup xs) \/
  ∃(o:Obj) (its:Array cK) (n:Nat),K.lookup a=Z o/\o.cls = .type "tuple"/\o.data = .seq its n/\its.size<=cT/\dU xs its.toList
def KQ:cK->Option V
 | .none=>Z .non
 | .bool b=>Z (.bl b)
 | .int i _=>Z (.int i)
 | .str x _=>Z (.str x)
 | .bytes b _=>Z (.byt b)
 | .float b _=>Z (.flt b)
 | .ref a=>Z (.ref a)
 | .type n=>Z (.ty n)
 |_=>Y
theorem dD.abs{x:V}{u:cK}(r:dD x u):KQ u=Z x:=by
 cases x with
 |non=>cases r;rfl
 |bl _=>cases r;rfl
 |int _=>obtain⟨t,rfl⟩:=r;rfl
 |str _=>obtain⟨t,rfl⟩:=r;rfl
 |byt _=>obtain⟨t,rfl⟩:=r;rfl
 |flt _=>obtain⟨t,rfl⟩:=r;rfl
 |ref _=>cases r;rfl
 |ty _=>cases r;rfl
theorem dD.inj{x y:V}{u:cK}(r:dD x u)(q:dD y u):x=y:=Option.some.inj (r.abs.symm.trans q.abs)
theorem dU.inj:∀{xs ys:List V} {us:List cK},dU xs us->dU ys us->xs=ys:=by
 intro xs ys us h g
 induction h generalizing ys with
 |nil=>cases g;rfl
 |cons r t ih=>cases g with
  |cons a b=>rw[r.inj a,ih b]
section
variable{X:Cx}{ag:List (cN×Obj)}{σ:St}{H:Hp}{s:cM}{a:cN}{xs ys:List V}
theorem lp.of{K:Fg1}(h:H a=Z (.lst xs)):lp K H a xs:=.inl (.inl h)
theorem jW.of{K:Fg1}(h:H a=Z (.tup xs)):jW K H a xs:=.inl (.inl h)
theorem Inv.list(I:Inv X ag σ H s)(h:lp X.K H a xs):∃b:List cK,dU xs b/\PlainL s.heap a b.toArray/\xs.length<=cT:=by
 rcases h with h|⟨o,b,n,c,hc,f,d,g,r⟩
 ·obtain⟨z,b,n,r,e⟩:=h.ok I.hok;exact⟨b,r,⟨_,n,e,O,O,O⟩,z⟩
 ·refine⟨b.toList,r,⟨o,n,I.kIn a o c,hc,f,by simpa using d⟩,?_⟩;have e:=r.length;simp only[aH]at e;lia
theorem Inv.tuple(I:Inv X ag σ H s)(h:jW X.K H a xs):∃b:List cK,dU xs b/\IsTup s.heap a b.toArray/\xs.length<=cT:=by
 rcases h with h|⟨o,b,n,c,hc,d,f,r⟩
 ·obtain⟨z,b,r,p⟩:=h.ok I.hok;exact⟨b,r,p,z⟩
 ·refine⟨b.toList,r,⟨o,I.kIn a o c,hc,n,by simpa using d⟩,?_⟩;have e:=r.length;simp only[aH]at e;lia
theorem Inv.list_inj(I:Inv X ag σ H s)(h:lp X.K H a xs)(h':lp X.K H a ys):xs=ys:=by
 obtain⟨b,r,⟨o,n,e,_,_,d⟩,_⟩:=I.list h;obtain⟨its',i,⟨o',j,f,_,_,c⟩,_⟩:=I.list h';rw[e]at f;cases f;rw[d]at c;injection c with g _;have:b=its':=by simpa using congrArg Array.toList g
 subst this;exact r.inj i
theorem Inv.tuple_inj(I:Inv X ag σ H s)(h:jW X.K H a xs)(h':jW X.K H a ys):xs=ys:=by
 obtain⟨b,r,⟨o,e,_,n,d⟩,_⟩:=I.tuple h;obtain⟨its',i,⟨o',f,_,j,c⟩,_⟩:=I.tuple h';rw[e]at f;cases f;rw[d]at c;injection c with g _;have:b=its':=by simpa using congrArg Array.toList g
 subst this;exact r.inj i
end
abbrev Cx.wish(X:Cx)(E:cK->cM->Prop):Cx:={X with xe:=E}
abbrev Cx.nox(X:Cx):Cx:=X.wish λ_ _=>False
theorem Cx.Ok.wish{X:Cx}(ok:X.Ok)(E:cK->cM->Prop):(X.wish E).Ok:=
 ⟨ok.mod,ok.kind,ok.glob,ok.blt,ok.above,ok.inj,ok.has,ok.cab,ok.hd,ok.frames,ok.stk,ok.exf,ok.bs,ok.bsz,ok.noex,ok.exfs,ok.funs,ok.frf⟩
theorem Cx.Ok.unwish{X:Cx}{E:cK->cM->Prop}(ok:(X.wish E).Ok):X.Ok:=
 ⟨ok.mod,ok.kind,ok.glob,ok.blt,ok.above,ok.inj,ok.has,ok.cab,ok.hd,ok.frames,ok.stk,ok.exf,ok.bs,ok.bsz,ok.noex,ok.exfs,ok.funs,ok.frf⟩
section
variable{X:Cx}{ag:List (cN×Obj)}{σ:St}{H:Hp}{s:cM}{E:cK->cM->Prop}
theorem Inv.wish(I:Inv X ag σ H s)(E:cK->cM->Prop):Inv (X.wish E) ag σ H s:=⟨I.ok.wish E,I.os,I.bare,I.base,I.loc,I.cell,I.free,I.freeC,I.pin,I.hok,I.len⟩
theorem Inv.unwish(I:Inv (X.wish E) ag σ H s):Inv X ag σ H s:=⟨I.ok.unwish,I.os,I.bare,I.base,I.loc,I.cell,I.free,I.freeC,I.pin,I.hok,I.len⟩
theorem SP.unwish{D:jn}{f:Flow}{s':cM}(h:SP (X.wish E) ag D f s'):SP X ag D f s':=by
 cases f with
 |next=>obtain⟨a,H',I,q⟩:=h;exact⟨a,H',I.unwish,q⟩
 |brk=>obtain⟨a,H',I,q⟩:=h;exact⟨a,H',I.unwish,q⟩
 |cont=>obtain⟨a,H',I,q⟩:=h;exact⟨a,H',I.unwish,q⟩
 |ret u=>obtain⟨v,a,H',I,r,q⟩:=h;exact⟨v,a,H',I.unwish,r,q⟩
theorem tq.nox{st:List cY}{t:TS}(h:tq X.nox st t):tq X st t:=λag s σ H D I a=>
 wpAny_mono (h ag s σ H D (I.wish _) a) (λ_ _ q=>q.unwish) λ_ _ z=>False.elim z
end
section
variable{X:Cx}{st:cY}{rest:List cY}{t u:TS}{e:Expr}{te:TE}{pos:Pos}
def HR:TS:=λD σ H=>D.nx σ H
def JZ(t u:TS):TS:=λD σ H=>t {D with nx:=u D} σ H
theorem BK:tq X [] HR:=λ_ _ σ H _ I h=>wpAny_execs_nil ⟨σ,H,I,h⟩
theorem yv(h1:PS X st t)(h2:tq X rest u):tq X (st::rest) (JZ t u):=by
 intro ag s σ H D I h;refine wpAny_execs_cons (eN (h1 ag s σ H {D with nx:=u D} I h) λf c q=>?_);cases f with
 |next=>
  obtain⟨a,H',b,q⟩:=q;exact h2 ag c a H' D b q
 |ret v=>exact q
 |brk=>exact q
 |cont=>exact q
theorem BJ(h1:PS X st t):tq X [st] t:=by
 intro ag s σ H D I h;refine wpAny_execs_cons (eN (h1 ag s σ H D I h) λf a q=>?_);cases f with
 |next=>exact wpAny_execs_nil q
 |ret v=>exact q
 |brk=>exact q
 |cont=>exact q
theorem Inv.quiet{ag:List (cN×Obj)}{σ:St}{H:Hp}{s:cM}(I:Inv X ag σ H s):interactive X.env=J:=by simp[interactive,I.ok.kind]
def HV(te:TE):TS:=λD σ H=>te σ H λ_ H1=>D.nx σ H1
theorem BM(he:PE X e te)(hs:swapsWith e Y pos.line X.env=pure J:=by rfl):PS X (.Expr e pos) (HV te):=by
 intro ag s σ H D I h;exact wpAny_Expr_any (eN (he ag s σ H _ I h) λv d ⟨x,H1,a,c,b⟩=>⟨σ,H1,a,b⟩) I.quiet hs
def J0(te:TE):TS:=λD σ H=>te σ H D.rt
theorem Fb(he:PE X e te):PS X (.Return (Z e) pos) (J0 te):=by
 intro ag s σ H D I h;exact wpAny_Return_some (eN (he ag s σ H _ I h) λv d ⟨x,H1,b,a,c⟩=>⟨x,σ,H1,b,a,c⟩)
def Kb(c:TT)(t u:TS):TS:=λD σ H=>c σ H λb H1=>if b=M then t D σ H1 else u D σ H1
theorem Ii{c:Expr}{a b:List cY}{tc:TT}(hc:PT X c tc)(ha:tq X a t)(hb:tq X b u):PS X (.If c a b pos) (Kb tc t u):=by
 intro ag s σ H D I h;refine wpAny_If (eN (hc ag s σ H _ I h) λd g ⟨H1,e,f⟩=>?_);cases d with
 |true=>exact ha ag g σ H1 D e f
 |false=>exact hb ag g σ H1 D e f
end
abbrev TG:=V->St->Hp->(St->Hp->Prop)->Prop
abbrev Ec:=List V->St->Hp->(St->Hp->Prop)->Prop
def PG(X:Cx)(target:Expr)(t:TG):Prop:=
 ∀(ag:List (cN×Obj)) (s:cM) (σ:St) (H:Hp) (v:V) (u:cK) (Q:St->Hp->Prop),Inv X ag σ H s->dD v u->t v σ H Q ->
  cU (model X.prog X.w) X.A (assign target X.env u) (λ_ s'=>∃ σ' H',Inv X ag σ' H' s'/\Q σ' H') X.xe s
def Hu(X:Cx)(ts:List Expr)(t:Ec):Prop:=
 ∀(ag:List (cN×Obj)) (s:cM) (σ:St) (H:Hp) (vs:List V) (us:List cK) (Q:St->Hp->Prop),Inv X ag σ H s->dU vs us->t vs σ H Q ->
  cU (model X.prog X.w) X.A (assignInOrder ((assignEach ts X.env).map (·.2)) us) (λ_ s'=>∃ σ' H',Inv X ag σ' H' s'/\Q σ' H') X.xe s
abbrev Hr:=V->V->V->Hp->(Hp->Prop)->Prop
def uK(X:Cx)(t:Hr):Prop:=
 ∀(ag:List (cN×Obj)) (s:cM) (σ:St) (H:Hp) (o i v:V) (ov iv u:cK) (Q:Hp->Prop),Inv X ag σ H s->dD o ov->dD i iv->dD v u->t o i v H Q ->
  cU (model X.prog X.w) X.A (setItem ov iv u) (λ_ s'=>∃H',Inv X ag σ H' s'/\Q H') X.xe s
abbrev KW:=V->V->Hp->VK->Prop
def JT(X:Cx)(op:Operator)(t:KW):Prop:=
 ∀(ag:List (cN×Obj)) (s:cM) (σ:St) (H:Hp) (x y:V) (v u:cK) (Q:VK),Inv X ag σ H s->dD x v->dD y u->t x y H Q ->
  cU (model X.prog X.w) X.A (inplaceOp op v u) (EP X ag σ Q) X.xe s
section
variable{X:Cx}{pos:Pos}
def vG(i:Nat):TG:=λv σ H Q=>Q (σ.set i (Z v)) H
theorem u8{i:Nat}{x:Str}(hN:X.N.Nodup)(hi:X.N[i]?=Z x)(hx:uL X.env.scope x)(hf:X.fn x=M\/X.env.scope.names.lookup x=Z .local:=by first|exact .inl rfl|exact .inr rfl|assumption):PG X (.Name x pos) (vG i):=by
 intro ag s σ H v u Q I r h;exact wpAny_assign_Name (jt I hN hi hx r (λs' a=>⟨_,H,a,h⟩) hf)
def KF:Ec:=λvs σ H Q=>vs=[]/\Q σ H
def I9(t:TG)(u:Ec):Ec:=λvs σ H Q=>∃v r,vs=v::r/\t v σ H fun σ' H'=>u r σ' H' Q
theorem BU:Hu X [] KF:=by
 intro ag s σ H vs a Q I r h;obtain⟨e,h⟩:=h;subst e;cases r;exact assignInOrder_nil ⟨σ,H,I,h⟩
theorem yE{e:Expr}{es:List Expr}{t:TG}{u:Ec}(h1:PG X e t)(h2:Hu X es u)(hs:(assignEach (e::es) X.env).map (·.2)=assign e X.env::(assignEach es X.env).map (·.2):=by rfl):Hu X (e::es) (I9 t u):=by
 intro ag s σ H vs j Q I r h;obtain⟨v,i,b,h⟩:=h;subst b;cases r with
 |cons r g=>
  rw[hs];refine assignInOrder_cons (eN (h1 ag s σ H _ _ _ I r h) λ_ c ⟨a,H1,d,f⟩=>?_);exact h2 ag c a H1 _ _ Q d g f
def gTup(K:Fg1)(n:Nat)(t:Ec):TG:=λv σ H Q=>∃a xs,v = .ref a/\jW K H a xs/\xs.length=n/\t xs σ H Q
theorem Fi{es:List Expr}{k:Nat}{t:Ec}{n:Nat}(hc:X.calm=M)(h:Hu X es t)(hn:(assignEach es X.env).length=n:=by rfl)(hst:(assignEach es X.env).findIdx? (·.1)=Y:=by rfl):PG X (.Tuple es k pos) (gTup X.K n t):=by
 intro ag s σ H v u Q I r c;obtain⟨a,xs,f,m,j,c⟩:=c;subst f;cases r;obtain⟨g,d,p,q⟩:=I.tuple m;refine assign_Tuple_tuple (I.ok.hd hc) p (by simp[hn,<- j,d.length]) hst λh' i=>?_;have l:Inv X ag σ H {s with heap:=h'}:=I.kept (t':=s.toks) λb o e=>i b o (nN1 (hL1 e)) e;exact h ag _ σ H xs _ Q l (by simpa using d) c
def gSub(to ti:TE)(t:Hr):TG:=λv σ H Q=>to σ H λo H1=>ti σ H1 λi H2=>t o i v H2 λH3=>Q σ H3
theorem Fj{o i:Expr}{to c:TE}{t:Hr}(ho:PE X o to)(hi:PE X i c)(hs:uK X t)(ha:∀v,assign (.Subscript o i pos) X.env v=(do
   let a<-holding [v] (eval o X.env)
   let b<-holding [v,a] (eval i X.env)
   standAt pos
   holding [v,a,b] (setItem a b v)
   release [v,a,b] []):=by intro _;rfl):PG X (.Subscript o i pos) (gSub to c t):=by
 intro ag s σ H v u Q I r h;rw[ha];refine wB1 (wpAny_holding (eN (ho ag s σ H _ I h) λa m ⟨x,H1,n,f,p⟩=>?_));refine wB1 (wpAny_holding (eN (hi ag m σ H1 _ n p) λb e ⟨y,H2,g,r2,d⟩=>?_));refine wB1 (wpAny_standAt (wB1 (wpAny_holding (eN (hs ag e σ H2 x y v a b u _ g f r2 r d) λ_ q ⟨l,k,j⟩=>?_))));exact wpAny_release ⟨σ,l,k,j⟩
def x0(te:TE)(g:TG):TS:=λD σ H=>te σ H λx H1=>g x σ H1 D.nx
theorem Ff{tg e:Expr}{te:TE}{g:TG}(he:PE X e te)(hg:PG X tg g)(hs:swapsWithSole [tg] e pos.line X.env=pure J:=by rfl)(hw:swappedStores [tg] e X.env=pure Y:=by rfl)(h1:(assignEach [tg] X.env).map (·.2)=[assign tg X.env]:=by rfl):PS X (.Assign [tg] e pos) (x0 te g):=by
 intro ag s σ H D I h;refine wpAny_Assign_stores (eN (he ag s σ H _ I h) λv b ⟨x,H1,c,a,d⟩=>?_) hs hw;rw[h1];exact eN (hg ag b σ H1 x v _ c a d) λ_ f q=>q
theorem Fa{i:Nat}{x:Str}{e:Expr}{te:TE}{pos':Pos}(hN:X.N.Nodup)(hi:X.N[i]? = some x)(hx:uL X.env.scope x)(he:PE X e te)(hs:swapsWith e (some (.Name x pos')) pos.line X.env=pure false:=by rfl)(hf:X.fn x=true\/X.env.scope.names.lookup x=some .local:=by first | exact .inl rfl | exact .inr rfl | assumption):
  PS X (.Assign [.Name x pos'] e pos) (x0 te (vG i)):=by
 intro ag s σ H D I h;refine wpAny_Assign_Name (eN (he ag s σ H _ I h) λv g ⟨y,H1,c,a,d⟩=>?_) hs;exact jt c hN hi hx a (λf b=>⟨_,H1,b,d⟩) hf
def J3(i j:Nat)(ta:TA):TS:=λD σ H=>ta σ H λvs H1=>∃v w,vs=[v,w]/\D.nx ((σ.set i (Z v)).set j (Z w)) H1
theorem Fc{i j:Nat}{x y:Str}{a b:Expr}{ta:TA}{f k pt:Pos}{kt k2 pt2}(hc:X.calm=true)(hN:X.N.Nodup)(hi:X.N[i]? = some x)(A:X.N[j]? = some y)(g:i≠j)(hx:X.env.scope.names.lookup x=some .local)(hy:X.env.scope.names.lookup y=some .local)(ha:PA X [a,b] ta)(hw:swappedStores [.Tuple [.Name x f,.Name y k] kt pt] (.Tuple [a,b] k2 pt2) X.env=pure (some [x,y]))(hs:swapsWithSole [.Tuple [.Name x f,.Name y k] kt pt] (.Tuple [a,b] k2 pt2) pos.line X.env=pure false:=by rfl):
  PS X (.Assign [.Tuple [.Name x f,.Name y k] kt pt] (.Tuple [a,b] k2 pt2) pos) (J3 i j ta):=by
 intro ag s σ H D I h;rw[exec_Assign_arm];refine wB1 (wpAny_standAt ?_);rw[hs];refine wB1 (wP1 ?_);rw[aj (by decide)];refine wB1 (Tuple_ (eN (ha _ ag s σ H _ I h) λu d ⟨vs,H1,F,z,n⟩=>?_));obtain⟨v,w,G,n⟩:=n;subst G;obtain⟨c,u2,rfl,E,l⟩:∃c u2,u=[c,u2]/\dD v c/\dD w u2:=by
  cases z with
  |cons p q=>
   cases q with
   |cons am B=>
    cases B;exact⟨_,_,O,p,am⟩
 refine wO1 ?_ (by show 2<=cT;decide);have t:Inv X ag σ H1 {d with heap:=d.heap.push {cls:=.type "tuple",data:=.seq [c,u2].toArray}}:=F.kept (t':=d.toks) λb o e=>hP1 _ e;rw[hw];refine wB1 (wP1 ?_);show cU (model X.prog X.w) X.A (do rule "assign.swapped-stores";let items<-unpackItems (.ref d.heap.objs.size) 2 Y;assignInOrder [λv=>bindName X.env y v,λv=>bindName X.env x v] items.reverse;pure Flow.next) _ _ _;refine wB1 (wpAny_rule (wB1 (unpackItems_tuple (items:= #[c,u2]) (I.ok.hd hc) (IsTup.new d.heap _) λh' m=>?_)));have K:=t.kept (h':=h') (t':=d.toks) λb o e=>m b o (nN1 (hL1 e)) e;show cU _ _ (assignInOrder [λv=>bindName X.env y v,λv=>bindName X.env x v] [u2,c] >>= λ_=>pure Flow.next) _ _ _;refine wB1 (assignInOrder_cons (wpAny_bindName (jt K hN A (.inl hy) l (λL C=>?_) (.inr hy))));refine assignInOrder_cons (wpAny_bindName (jt C hN hi (.inl hx) E (λao r=>assignInOrder_nil (wP1 ?_)) (.inr hx)));rw[List.set_comm _ _ (Ne.symm g)]at r;exact⟨_,H1,r,n⟩
def Kc(i:Nat)(te:TE)(ti:KW):TS:=λD σ H=>∃x,σ[i]?=Z (Z x)/\te σ H λy H1=>ti x y H1 λz H2=>D.nx (σ.set i (Z z)) H2
theorem Fe{i:Nat}{x:Str}{e:Expr}{te:TE}{op:Operator}{n:KW}{pos':Pos}(hN:X.N.Nodup)(hi:X.N[i]? = some x)(hx:uL X.env.scope x)(he:PE X e te)(ho:JT X op n)(hf:X.fn x=true\/X.env.scope.names.lookup x=some .local:=by first | exact .inl rfl | exact .inr rfl | assumption):
  PS X (.AugAssign (.Name x pos') op e pos) (Kc i te n):=by
 intro ag s σ H D I h;obtain⟨v,E,h⟩:=h;obtain⟨m,t,q⟩:=I.loc;have g:Vis X.env.scope x:=by rcases hx with k|k;exact .inl k;exact .inr (.inl k)
 obtain⟨u,r,l⟩:=q i x v hi E g;refine wpAny_AugAssign_Name ?_;have j:cU (model X.prog X.w) X.A (eval e X.env) (λw f=>cU (model X.prog X.w) X.A (inplaceOp op u w) (λr d=>cU (model X.prog X.w) X.A (storeName X.env x r) (λ_=>SP X ag D .next) X.xe d) X.xe f) X.xe s:=by
  refine eN (he ag s σ H _ I h) λw G ⟨y,H1,C,B,am⟩=>?_;refine eN (ho ag G σ H1 v y u w _ C r B am) λz K ⟨ao,H2,p,r2,o⟩=>?_;exact jt p hN hi hx r2 (λL F=>⟨_,H2,F,o⟩) hf
 rcases l with⟨a,A⟩|⟨a,c,hc,b⟩
 ·exact wpAny_loadName_local I.ok.kind a t A j
 ·rcases a with a|a
  ·exact wpAny_loadName_cell I.ok.kind a hc b j
  ·rcases hx with k|k
   ·have:X.env.scope.names.lookup x=Z .free:=a;rw[k]at this;cases this
   ·have:X.env.scope.names.lookup x=Z .free:=a;rw[k]at this;cases this
def xV(c:TT)(tb:TS):TS:=λD σ H=>∃W:Nat->St->Hp->Prop,(∃m,W m σ H) /\ ∀m σ H,W m σ H ->
 c σ H λb H1=>if b=M then∃N:St->Hp->Prop,(∀ σ' H',N σ' H' -> ∃m',m'<m/\W m' σ' H')/\tb {D with nx:=N,ct:=N,bk:=D.nx} σ H1 else D.nx σ H1
theorem yw{c:Expr}{e:List cY}{tc:TT}{tb:TS}(hp:PassesOwn (model X.prog X.w) X.A X.env X.xe)(hc:PT X c tc)(hb:tq X e tb):PS X (.While c e [] pos) (xV tc tb):=by
 intro ag s σ H D I h;obtain⟨W,⟨x,y⟩,i⟩:=h;refine wpAny_While (codeAny_whileLoop (λn s'=>∃g H',Inv X ag g H' s'/\W n g H') ?_ x ⟨σ,H,I,y⟩);rintro n A ⟨d,H1,z,B⟩;refine wpAny_passesOwn hp (eN (hc ag A d H1 _ z (i n d H1 B)) λb w ⟨H2,t,k⟩=>?_);cases b with
 |true=>
  obtain⟨N,u,k⟩:=k;rw[ak O];refine wpAny_passesOwn hp (eN (hb ag w d H2 _ t k) λf C l=>?_);cases f with
  |next=>
   obtain⟨a,j,q,r⟩:=l;obtain⟨p,o,m⟩:=u a j r;exact⟨p,o,a,j,q,m⟩
  |cont=>
   obtain⟨a,j,q,r⟩:=l;obtain⟨p,o,m⟩:=u a j r;exact⟨p,o,a,j,q,m⟩
  |brk=>exact l
  |ret v=>exact l
 |false=>
  rw[aj aI];exact wpAny_execs_nil ⟨d,H2,t,k⟩
end
structure It where
 go:Nat->Hp->Prop
 yld:Nat->Hp->V->Hp->Prop
 stop:Nat->Hp->Prop
def kF(X:Cx)(ag:List (cN×Obj))(H:Hp)(b:cN):Prop:=
 H b=Y/\b≠X.env.locals/\b∉X.fs/\(b∈X.ex\/X.s₀.heap.objs.size<=b)/\(∀x c,X.env.cells.lookup x=Z c->c≠b) /\ ∀p∈X.pn++ag,p.1≠b
theorem Inv.fpOk{X:Cx}{ag:List (cN×Obj)}{σ:St}{H H':Hp}{s:cM}{b:cN}(I:Inv X ag σ H s)(hb:s.heap.objs.size<=b)(hn:H' b=Y):kF X ag H' b:=by
 refine⟨hn,nG1 (nL1 I.lt hb),I.nofs hb,.inr (aB I.sz hb),λx c e z=>?_,λp a z=>?_⟩
 ·obtain⟨v,q⟩:=I.cell x c e;exact absurd (nL1 q.lt (by rw[z];exact hb)) (ay _)
 ·exact absurd (nL1 (hL1 (I.pin p a).1) (by rw[z];exact hb)) (ay _)
structure xg (P:cO)(w:cQ)(K:Fg1)(tg:Expr)(am:It)(fp:List cN)(it:cN)(tn:Nat->cW->Prop):Prop where
 mem:it∈fp
 obj:∀i h,tn i h -> ∀b∈fp,∃o,h.get? b=some o /\ ∀v,o.data ≠ .cell v
 keep:∀i h h',tn i h->(∀b∈fp,∀o,h.get? b=some o->h'.get? b=some o)->tn i h'
 item:∀(X:Cx),X.prog=P->X.w=w->X.K=K->X.calm=true -> ∀(i:Nat) (ag:List (cN×Obj)) (s:cM) (σ:St) (H:Hp) (E:cK->cM->Prop),Inv X ag σ H s->(∀b∈fp,kF X ag H b)->tn i s.heap->am.go i H ->
  cU (model P w) X.A (pyNext (.ref it)) (λr s1=>∃u,r=some u /\
   cU (model P w) X.A (letOwnedTupleGo tg (.ref it) u) (λ_ s2=>∃x H',Inv X ag σ H' s2/\dD x u/\am.yld i H x H'/\tn (i+1) s2.heap /\ ∀b∈fp,H' b=none) E s1) E s
 done:∀(X:Cx),X.prog=P->X.w=w->X.K=K->X.calm=true -> ∀(i:Nat) (ag:List (cN×Obj)) (s:cM) (σ:St) (H:Hp) (E:cK->cM->Prop),Inv X ag σ H s->(∀b∈fp,kF X ag H b)->tn i s.heap->am.stop i H ->
  cU (model P w) X.A (pyNext (.ref it)) (λr s1=>r=none/\Inv X ag σ H s1) E s
 self:∀(A:cP) (i:Nat) (s:cM) (Q:cK->cM->Prop) (E:cK->cM->Prop),tn i s.heap->Q (.ref it) s->cU (model P w) A (pyIter (.ref it)) Q E s
abbrev TI:=St->Hp->(It->Hp->Prop)->Prop
def Lg(X:Cx)(ag:List (cN×Obj))(σ:St)(tg:Expr)(R:It->Hp->Prop)(itv:cK)(s2:cM):Prop:=
 ∃(it:cN) (fp:List cN) (tn:Nat->cW->Prop) (am:It) (H':Hp),itv = .ref it/\Inv X ag σ H' s2/\xg X.prog X.w X.K tg am fp it tn/\tn 0 s2.heap/\(∀b∈fp,kF X ag H' b)/\R am H'
def PI(X:Cx)(tg iter:Expr)(wi:TI):Prop:=
 ∀(ag:List (cN×Obj)) (s:cM) (σ:St) (H:Hp) (R:It->Hp->Prop),Inv X ag σ H s->wi σ H R ->
  cU (model X.prog X.w) X.A (eval iter X.env) (λv s1=>cU (model X.prog X.w) X.A (pyIter v) (Lg X ag σ tg R) X.xe s1) X.xe s
theorem zN {ao:Model}{A:cP}{E:cK->cM->Prop}{s:cM}{tg:Expr}{it:cN}{u:cK}{o:Obj}{n:String}{vs:Array cK}{Q:Unit->cM->Prop}(ho:s.heap.get? it=some o)(hc:o.cls = .type n)(hd:o.data = .fields vs)
   (hn:["enumerate","zip","dict_itemiterator","dict_reverseitemiterator","odict_iterator","itertools.zip_longest","itertools.pairwise"].contains n=J) (a:Q () s):cU ao A (letOwnedTupleGo tg (.ref it) u) Q E s:=by
 unfold letOwnedTupleGo;cases tg <;> first
   |exact wP1 a
   | (cases u<;>first
       |exact wP1 a
       | (refine wB1 (wpAny_load ho ?_)
          rw[hc,hd];show cU ao A (if(["enumerate","zip","dict_itemiterator","dict_reverseitemiterator","odict_iterator","itertools.zip_longest","itertools.pairwise"].contains n&&vs[0]? == Z (rawInt _))=M then _ else _) Q E s;rw[aj (by intro h;rw[hn,Bool.false_and]at h;cases h)];exact wP1 a))
def Lj(K:Fg1)(a:cN):It:=
 ⟨λi H=>∃xs x,lp K H a xs/\xs[i]?=Z x,λi H x H'=>H'=H /\ ∀xs,lp K H a xs->xs[i]?=Z x,λi H=>∃xs,lp K H a xs/\xs.length<=i⟩
def Li(K:Fg1)(a:cN):It:=
 ⟨λi H=>∃xs x,jW K H a xs/\xs[i]?=Z x,λi H x H'=>H'=H /\ ∀xs,jW K H a xs->xs[i]?=Z x,λi H=>∃xs,jW K H a xs/\xs.length<=i⟩
def Jw(lo:Int)(n:Nat):It:=⟨λi _=>i<n,λi H x H'=>H'=H/\x = .int (lo+i),λi _=>n<=i⟩
theorem wj{P:cO}{w:cQ}{K:Fg1}{tg:Expr}(a it:cN):xg P w K tg (Lj K a) [it] it (λi h=>h.IsListIter it a i) where
 mem:=by simp
 obj:=λi h st b f=>by
  have e:b=it:=by simpa using f
  subst e;obtain⟨o,e,c,d⟩:=st;exact⟨o,e,λv z=>by rw[d]at z;cases z⟩
 keep:=λi h h' st k=>st.at λo e=>k it (by simp) o e
 item:=by
  intro X r B q hc i ag s σ H E I j st G;subst r B q;obtain⟨xs,x,l,n⟩:=G;obtain⟨m,y,p,N⟩:=I.list l;obtain⟨u,Q,ar⟩:=y.get n;obtain⟨A,D,ao,F,t,C⟩:=j it (by simp);refine wpAny_pyNext_list_item st p.isList (x:=u) (by simpa using Q) λh' g L=>?_;have R:Inv X ag σ H {s with heap:=h'}:=I.turned (t':=s.toks) (λb o f e=>(L.2 b f).trans e) A D F t C;obtain⟨o,e,c,d⟩:=id g;exact⟨u,O,zN (s:={s with heap:=h'}) e c d (by decide) ⟨x,H,R,ar,⟨O,λys S=>by rw[I.list_inj S l];exact n⟩,g,λb f=>(j b f).1⟩⟩
 done:=by
  intro X r B q hc i ag s σ H E I j st G;subst r B q;obtain⟨xs,l,n⟩:=G;obtain⟨m,y,p,N⟩:=I.list l;obtain⟨A,D,ao,F,t,C⟩:=j it (by simp);have T:=y.length;exact wpAny_pyNext_list_end (I.ok.hd hc) st p.isList (by simp;lia) λh' am=>⟨O,I.turned (t':=s.toks) (λb o f e=>am b o f e) A D F t C⟩
 self:=λ_ _ _ _ _ st h=>wpAny_pyIter_listiter st h
theorem tN{P:cO}{w:cQ}{K:Fg1}{tg:Expr}(a it:cN):xg P w K tg (Li K a) [it] it (λi h=>h.IsTupleIter it a i) where
 mem:=by simp
 obj:=λi h st b g=>by
  have e:b=it:=by simpa using g
  subst e;obtain⟨o,e,c,d⟩:=st;exact⟨o,e,λv z=>by rw[d]at z;cases z⟩
 keep:=λi h h' st k=>st.at λo e=>k it (by simp) o e
 item:=by
  intro X r B q hc i ag s σ H E I l st G;subst r B q;obtain⟨xs,x,m,n⟩:=G;obtain⟨f,y,p,N⟩:=I.tuple m;obtain⟨u,Q,ar⟩:=y.get n;obtain⟨A,D,ao,F,t,C⟩:=l it (by simp);refine wpAny_pyNext_tuple_item st (show s.heap.IsTuple a f.toArray from p) (x:=u) (by simpa using Q) λh' j L=>?_;have R:Inv X ag σ H {s with heap:=h'}:=I.turned (t':=s.toks) (λb o g e=>(L.2 b g).trans e) A D F t C;obtain⟨o,e,c,d⟩:=id j;exact⟨u,O,zN (s:={s with heap:=h'}) e c d (by decide) ⟨x,H,R,ar,⟨O,λys S=>by rw[I.tuple_inj S m];exact n⟩,j,λb g=>(l b g).1⟩⟩
 done:=by
  intro X r B q hc i ag s σ H E I l st G;subst r B q;obtain⟨xs,m,n⟩:=G;obtain⟨f,y,p,N⟩:=I.tuple m;obtain⟨A,D,ao,F,t,C⟩:=l it (by simp);have T:=y.length;exact wpAny_pyNext_tuple_end (I.ok.hd hc) st (show s.heap.IsTuple a f.toArray from p) (by simp;lia) λh' am=>⟨O,I.turned (t':=s.toks) (λb o g e=>am b o g e) A D F t C⟩
 self:=λ_ _ _ _ _ st h=>wpAny_pyIter_tupleiter st h
theorem tO{P:cO}{w:cQ}{K:Fg1}{tg:Expr}(it:cN)(lo:Int)(n:Nat):xg P w K tg (Jw lo n) [it] it (λi h=>IsRangeIter h it (lo+(i:Nat)*1) ((n:Int)-(i:Nat)) 1) where
 mem:=by simp
 obj:=λi h st b a=>by
  have e:b=it:=by simpa using a
  subst e;exact⟨_,st,λv z=>by
   have A:Data.fields _=Data.cell v:=z;cases A⟩
 keep:=λi h h' st k=>k it (by simp) _ st
 item:=by
  intro X r f q hc i ag s σ H E I d st m;subst r f q;obtain⟨p,g,y,l,u,j⟩:=d it (by simp);have W:=Walks.range (prog:=X.prog) (w:=X.w) (I.ok.hd hc) it lo 1 n;refine W.item i s _ _ m st λv h' tk x c D=>?_;obtain⟨t,rfl⟩:=x;have B:Inv X ag σ H {s with heap:=h',toks:=tk}:=I.turned (λb o a e=>D b o (by simpa using a) e) p g l u j;refine⟨_,O,zN (s:={s with heap:=h',toks:=tk}) (n:="range_iterator") c O O (by decide) ⟨.int (lo+i),H,B,⟨t,?_⟩,⟨O,O⟩,c,λb a=>(d b a).1⟩⟩;rw[Int.mul_one]
 done:=by
  intro X r f q hc i ag s σ H E I d st m;subst r f q;obtain⟨p,g,y,l,u,j⟩:=d it (by simp);exact wpAny_pyNext_range_end (I.ok.hd hc) st (by have:n<=i:=m;lia) λh' C=>⟨O,I.turned (t':=s.toks) (λb o a e=>C b o a e) p g l u j⟩
 self:=λ_ _ _ _ _ st h=>wpAny_pyIter_rangeiter st h
end L2
namespace L2
open PySem PySem.Spec PyProof.Rows
section
variable{X:Cx}{tg:Expr}
def I0(K:Fg1)(tl:TE):TI:=fun σ H R=>tl σ H λx H1=>∃a,x = .ref a/\(∃xs,lp K H1 a xs)/\R (Lj K a) H1
def KD(K:Fg1)(tl:TE):TI:=fun σ H R=>tl σ H λx H1=>∃a,x = .ref a/\(∃xs,jW K H1 a xs)/\R (Li K a) H1
theorem BR{l:Expr}{tl:TE}(j:PE X l tl):PI X tg l (I0 X.K tl):=by
 intro ag s σ H R I h;refine eN (j ag s σ H _ I h) λv c ⟨x,H1,d,f,k⟩=>?_;obtain⟨a,e,⟨xs,m⟩,q⟩:=k;subst e;cases f;obtain⟨g,r,p,n⟩:=d.list m;refine wpAny_pyIter_list p.isList ?_;refine⟨c.heap.objs.size,[c.heap.objs.size],_,_,H1,O,d.kept (t':=c.toks) λb o e=>hP1 _ e,wj a _,⟨_,hS1 _ O,O,O⟩,λb i=>?_,q⟩;have e:b=c.heap.objs.size:=by simpa using i
 subst e;exact d.fpOk (nR1 _) (d.hok.fresh (nR1 _))
theorem Fh{l:Expr}{tl:TE}(j:PE X l tl):PI X tg l (KD X.K tl):=by
 intro ag s σ H R I h;refine eN (j ag s σ H _ I h) λv c ⟨x,H1,d,g,k⟩=>?_;obtain⟨a,e,⟨xs,m⟩,q⟩:=k;subst e;cases g;obtain⟨f,r,p,n⟩:=d.tuple m;refine wpAny_pyIter_tuple (show c.heap.IsTuple a f.toArray from p) ?_;refine⟨c.heap.objs.size,[c.heap.objs.size],_,_,H1,O,d.kept (t':=c.toks) λb o e=>hP1 _ e,tN a _,⟨_,hS1 _ O,O,O⟩,λb i=>?_,q⟩;have e:b=c.heap.objs.size:=by simpa using i
 subst e;exact d.fpOk (nR1 _) (d.hok.fresh (nR1 _))
theorem rB{ag:List (cN×Obj)}{σ:St}{H:Hp}{s:cM}{R:It->Hp->Prop}{E:cK->cM->Prop}{lo hi:Int}{t u v:Tok}{tk:Nat}(I:Inv X ag σ H s)(h1: -(2^62)<=lo)(h2:lo<2^62)(h: -(2^62)<=hi)(g:hi<2^62)(q:R (Jw lo (hi-lo).toNat) H):cU (model X.prog X.w) X.A (pyIter (.ref s.heap.objs.size)) (Lg X ag σ tg R) E {s with heap:=s.heap.push {cls:=.type "range",data:=.fields #[.int lo t,.int hi u,.int 1 v]},toks:=tk}:=by
 refine wpAny_pyIter_range (IsRange.new ..) (small_one h1 h2 h g) ?_;have a:Inv X ag σ H {s with heap:=s.heap.push {cls:=.type "range",data:=.fields #[.int lo t,.int hi u,.int 1 v]},toks:=tk}:=I.kept λb o e=>hP1 _ e;refine⟨(s.heap.push {cls:=.type "range",data:=.fields #[.int lo t,.int hi u,.int 1 v]}).objs.size,[(s.heap.push {cls:=.type "range",data:=.fields #[.int lo t,.int hi u,.int 1 v]}).objs.size],_,_,H,O,
  a.kept (t':=tk) λb o e=>hP1 _ e,tO _ lo (hi-lo).toNat,?_,λb d=>?_,q⟩
 ·have c:lo+((0:Nat):Int)*1=lo:=by simp
  have f:(((hi-lo).toNat:Nat):Int)-((0:Nat):Int)=Builtin.Range.rangeSize lo hi 1:=by rw[rangeSize_one];split<;>lia
  show IsRangeIter _ _ (lo+((0:Nat):Int)*1) ((((hi-lo).toNat:Nat):Int)-((0:Nat):Int)) 1;rw[c,f];exact hS1 _ O
 ·have e:b=(s.heap.push {cls:=.type "range",data:=.fields #[.int lo t,.int hi u,.int 1 v]}).objs.size:=by simpa using d
  subst e;exact a.fpOk (nR1 _) (a.hok.fresh (nR1 _))
def IY(ta:TA):TI:=fun σ H R=>ta σ H λvs H1=>∃j:Int,vs=[.int j] /\ -(2^62)<=j/\j<2^62/\R (Jw 0 j.toNat) H1
def IX(ta:TA):TI:=fun σ H R=>ta σ H λvs H1=>∃i j:Int,vs=[.int i,.int j]/\(-(2^62)<=i/\i<2^62 /\ -(2^62)<=j/\j<2^62)/\R (Jw i (j-i).toNat) H1
theorem ww {a:Expr}{ta:TA}{p pos:Pos}(hg:Gl X "range")(hm:X.mg "range"=Y)(ha:PA X [a] ta)(hs:cS [a] X.env=[(J,eval a X.env)]:=by rfl):PI X tg (.Call (.Name "range" p) [a] [] pos) (IY ta):=by
 intro ag s σ H R I h;refine Call_ (lG I hg hm boot_range (PyProof.Rows.callWith_type1 (eN (ha pos ag s σ H _ I h) λi k ⟨vs,H1,f,d,b⟩=>?_) hs O));obtain⟨j,e,b,c,q⟩:=b;subst e;cases d with
 |cons r g=>
  cases g;obtain⟨t,rfl⟩:=r;exact call_range_1 (rB f (by lia) (by lia) b c (by simpa using q))
theorem wv {a b:Expr}{ta:TA}{p pos:Pos}(hg:Gl X "range")(hm:X.mg "range"=none)(ha:PA X [a,b] ta)(hs:cS [a,b] X.env=[(false,eval a X.env),(false,eval b X.env)]:=by rfl)(hs2:cS [b] X.env=[(false,eval b X.env)]:=by rfl):
  PI X tg (.Call (.Name "range" p) [a,b] [] pos) (IX ta):=by
 intro ag s σ H R I h;refine Call_ (lG I hg hm boot_range (PyProof.Rows.callWith_type1 (eN (ha pos ag s σ H _ I h) λo v ⟨vs,H1,m,k,c⟩=>?_) (by rw[hs,hs2]) (by rw[hs2];rfl)));obtain⟨i,j,e,⟨c,f,n,g⟩,q⟩:=c;subst e;cases k with
 |cons r d=>
  cases d with
  |cons l d=>
   cases d;obtain⟨t,rfl⟩:=r;obtain⟨u,rfl⟩:=l;exact call_range_2 (rB m c f n g q)
def HU(wi:TI)(g:TG)(tb:TS):TS:=λD σ H=>wi σ H λam H1=>∃W:Nat->Nat->St->Hp->Prop,(∃m,W 0 m σ H1) /\ ∀i m σ H,W i m σ H ->
 (am.stop i H/\D.nx σ H)\/(am.go i H /\ ∃N:St->Hp->Prop,(∀ σ' H',N σ' H' -> ∃m',m'<m/\W (i+1) m' σ' H') /\ ∀x H',am.yld i H x H'->g x σ H' fun σ2 H2=>tb {D with nx:=N,ct:=N,bk:=D.nx} σ2 H2)
def nk(fp:List cN)(h:cW):List (cN×Obj):=fp.filterMap λb=>(h.get? b).map λo=>(b,o)
theorem iU{a:List cN}{h:cW}{b:cN}{o:Obj}(hb:b∈a)(e:h.get? b=Z o):(b,o)∈nk a h:=List.mem_filterMap.mpr ⟨b,hb,by rw[e];rfl⟩
theorem wz{a:List cN}{h:cW}{p:cN×Obj}(hp:p∈nk a h):p.1∈a/\h.get? p.1=Z p.2:=by
 obtain⟨b,c,e⟩:=List.mem_filterMap.mp hp;cases q:h.get? b with
 |none=>rw[q]at e;cases e
 |some o=>
  rw[q]at e;have d:(b,o)=p:=Option.some.inj e;subst d;exact⟨c,q⟩
theorem Inv.pinned{ag:List (cN×Obj)}{σ:St}{H:Hp}{s:cM}{a:List cN}(I:Inv X ag σ H s)(hf:∀b∈a,kF X ag H b)(ho:∀b∈a,∃o,s.heap.get? b=Z o /\ ∀v,o.data ≠ .cell v):Inv X (ag++nk a s.heap) σ H s:=
 I.pins_of λp h=>(aE.mp h).elim (λz=>I.pin p (mA1 _ z)) λz=>by
  obtain⟨c,e⟩:=wz z;obtain⟨i,j,g,_⟩:=hf p.1 c;obtain⟨o,f,d⟩:=ho p.1 c;rw[e]at f;cases f;exact⟨e,i,j,g,d⟩
theorem Inv.unpinned{ag pl:List (cN×Obj)}{σ:St}{H:Hp}{s:cM}(I:Inv X (ag++pl) σ H s):Inv X ag σ H s:=I.pins_of λp a=>I.pin p (mA1 _ (aF _ a))
theorem Fd{iter:Expr}{t:List cY}{V:TI}{g:TG}{tb:TS}{pos:Pos}(hp:PassesOwn (model X.prog X.w) X.A X.env X.xe)(hc:X.calm=M)(hi:PI X tg iter V)(hg:PG X tg g)(hb:tq X t tb)(hs:∀x,foldedSetIterable iter X.env x=pure x:=by intro _;rfl):PS X (.For tg iter t [] pos) (HU V g tb):=by
 intro ag s σ H D I h;refine wpAny_For (eN (hi ag s σ H _ I h) λv s1 h1=>eN h1 λitv s2 h2=>?_) hs;obtain⟨it,C,tn,am,H2,e,I2,T,ao,R,W,⟨m0,w0⟩,z⟩:=h2;subst e
 -- what stays M of the iterator's objects through the loop
 have p:∀{H':Hp},(∀b∈C,H' b=Y) -> ∀b∈C,kF X ag H' b:=λhn b hb=>⟨hn b hb,(R b hb).2⟩;refine codeAny_forLoop_any (λn s'=>∃i c H',Inv X ag c H' s'/\tn i s'.heap/\(∀b∈C,H' b=Y)/\W i n c H') ?_ m0 ⟨0,σ,H2,I2,ao,λb hb=>(R b hb).1,w0⟩;rintro n U ⟨i,q,G,wq,B,F,w3⟩;rcases z i n q G w3 with⟨E,qn⟩|⟨go,N,hN,step⟩
 ·refine wpAny_passesOwn hp (eN (T.done X O O O hc i ag U q G X.xe wq (p F) B E) λr s4 ⟨L,I4⟩=>?_);subst L;exact wpAny_execs_nil ⟨q,G,I4,qn⟩
 ·refine wpAny_passesOwn hp (eN (T.item X rfl rfl rfl hc i ag U q G X.xe wq (p F) B go) fun r s4 ⟨u,L,h4⟩=>?_);subst L;refine wpAny_passesOwn hp (eN h4 fun _ S ⟨x,aq,I5,r5,y5,y,P⟩=>?_);have K:=I5.pinned (p P) (T.obj _ _ y);refine wpAny_passesOwn hp (eN (hg _ S q aq x u _ K r5 (step x aq y5)) fun _ s6 ⟨Q,H6,I6,q6⟩=>?_);refine wpAny_passesOwn hp (eN (hb _ s6 Q H6 _ I6 q6) fun f ar w=>?_);have k:∀ {a:St} {j:Hp},Inv X (ag++nk C S.heap) a j ar->N a j -> ∃ m,m<n /\ ∃ i c H',Inv X ag c H' ar/\tn i ar.heap/\(∀ b∈C,H' b=none)/\W i m c H':=fun {a j} l A=>by
   obtain⟨m',hm,w7⟩:=hN a j A;refine⟨m',hm,i+1,a,j,l.unpinned,T.keep _ _ _ y λb hb o e=>(l.pin (b,o) (mA1 _ (mA1 _ (iU hb e)))).1,λb hb=>?_,w7⟩;obtain⟨o,e,d⟩:=T.obj _ _ y b hb;exact(l.pin (b,o) (mA1 _ (mA1 _ (iU hb e)))).2.1
  cases f with
  |next=>obtain⟨a,j,l,A⟩:=w;exact k l A
  |cont=>obtain⟨a,j,l,A⟩:=w;exact k l A
  |brk=>obtain⟨a,j,l,w⟩:=w;exact⟨a,j,l.unpinned,w⟩
  |ret v=>obtain⟨x7,a,j,l,r7,w⟩:=w;exact⟨x7,a,j,l.unpinned,r7,w⟩
end
end L2
namespace L2
open PySem PySem.Spec PyProof.Rows
abbrev R2:=V->V->Hp->VK->Prop
def fJ(X:Cx)(f:cK->cK->Sem cK)(r:R2):Prop:=
 ∀(ag:List (cN×Obj)) (s:cM) (σ:St) (H:Hp) (x y:V) (v u:cK) (Q:VK),Inv X ag σ H s->dD x v->dD y u->r x y H Q ->
  cU (model X.prog X.w) X.A (f v u) (EP X ag σ Q) X.xe s
def HC(X:Cx)(f:cK->Sem cK)(r:V->Hp->VK->Prop):Prop:=
 ∀(ag:List (cN×Obj)) (s:cM) (σ:St) (H:Hp) (x:V) (v:cK) (Q:VK),Inv X ag σ H s->dD x v->r x H Q ->
  cU (model X.prog X.w) X.A (f v) (EP X ag σ Q) X.xe s
def eH(X:Cx)(f:cK)(r:List V->Hp->VK->Prop):Prop:=
 ∀(ag:List (cN×Obj)) (s:cM) (σ:St) (H:Hp) (xs:List V) (us:List cK) (Q:VK),Inv X ag σ H s->dU xs us->r xs H Q ->
  cU (model X.prog X.w) X.A (call f us) (EP X ag σ Q) X.xe s
def KU(X:Cx)(r:V->Hp->(Bool->Hp->Prop)->Prop):Prop:=
 ∀(ag:List (cN×Obj)) (s:cM) (σ:St) (H:Hp) (x:V) (v:cK) (Q:Bool->Hp->Prop),Inv X ag σ H s->dD x v->r x H Q ->
  cU (model X.prog X.w) X.A (truthy v) (TP X ag σ Q) X.xe s
def HP(r:R2)(ta tb:TE):TE:=fun σ H Q=>ta σ H λx H1=>tb σ H1 λy H2=>r x y H2 Q
def K5(r:V->Hp->VK->Prop)(ta:TE):TE:=fun σ H Q=>ta σ H λx H1=>r x H1 Q
def rI(C:Int->Int->Prop)(g:Int->Int->V):R2:=λx y H Q=>∃i j,x = .int i/\y = .int j/\C i j/\Q (g i j) H
def BA(g:Int->Int->V):R2:=λx y H Q=>∃i j,x = .int i/\y = .int j/\Q (g i j) H
def rU(g:Int->V):V->Hp->VK->Prop:=λx H Q=>∃i,x = .int i/\Q (g i) H
section
variable{X:Cx}{a b c:Expr}{ta tb tc:TE}{pos:Pos}
theorem He(ha:PE X a ta)(hb:PE X b tb){ag:List (cN×Obj)}{s:cM}{σ:St}{H:Hp}{R:V->V->Hp->Prop}(I:Inv X ag σ H s)(h:ta σ H fun x H1=>tb σ H1 fun y H2=>R x y H2){Q:cK->cM->Prop}{f:cK->cK->Sem cK}(hf:∀v u e x y H2,Inv X ag σ H2 e->dD x v->dD y u->R x y H2->cU (model X.prog X.w) X.A (f v u) Q X.xe e):
  cU (model X.prog X.w) X.A (eval a X.env) (λv c=>cU (model X.prog X.w) X.A (eval b X.env) (λu d=>cU (model X.prog X.w) X.A (f v u) Q X.xe d) X.xe c) X.xe s:=by
 refine eN (ha ag s σ H _ I h) λv k ⟨x,H1,l,i,m⟩=>?_;refine eN (hb ag k σ H1 _ l m) λu e ⟨y,H2,j,r2,g⟩=>?_;exact hf v u e x y H2 j i r2 g
theorem Im{op:Operator}{r:R2}(ho:fJ X (binaryOp op) r)(ha:PE X a ta)(hb:PE X b tb):PE X (.BinOp a op b pos) (HP r ta tb):=by
 intro ag s σ H Q I h;exact wpAny_BinOp (He ha hb I h λv u e x y H2 d c f q=>ho ag e σ H2 x y v u Q d c f q)
theorem Il{op:UnaryOp}{r:V->Hp->VK->Prop}(ho:HC X (unaryOp op) r)(ha:PE X a ta):PE X (.UnaryOp op a pos) (K5 r ta):=by
 intro ag s σ H Q I h;exact UnaryOp_ (eN (ha ag s σ H _ I h) λv e ⟨x,H1,c,b,d⟩=>ho ag e σ H1 x v Q c b d)
theorem JI{f:cK->cK->Sem cK}{C:Int->Int->Prop}{g:Int->Int->Int}(a:∀(i j:Int) (t u:Tok) (s:cM) (Q:cK->cM->Prop) (E:cK->cM->Prop),C i j->Q (.int (g i j) s.toks) {s with toks:=s.toks+1}->cU (model X.prog X.w) X.A (f (.int i t) (.int j u)) Q E s):
  fJ X f (rI C λi j=>.int (g i j)):=by
 intro ag s σ H x y v u Q I c b h;obtain⟨i,j,rfl,rfl,hc,q⟩:=h;obtain⟨t,rfl⟩:=c;obtain⟨d,rfl⟩:=b;exact a i j t d s _ _ hc ⟨.int (g i j),H,I.tok _,⟨_,O⟩,q⟩
theorem FK{f:cK->cK->Sem cK}{g:Int->Int->Int}(a:∀(i j:Int) (t u:Tok) (s:cM) (Q:cK->cM->Prop) (E:cK->cM->Prop),Q (.int (g i j) s.toks) {s with toks:=s.toks+1}->cU (model X.prog X.w) X.A (f (.int i t) (.int j u)) Q E s):
  fJ X f (BA λi j=>.int (g i j)):=by
 intro ag s σ H x y v u Q I c b h;obtain⟨i,j,rfl,rfl,q⟩:=h;obtain⟨t,rfl⟩:=c;obtain⟨d,rfl⟩:=b;exact a i j t d s _ _ ⟨.int (g i j),H,I.tok _,⟨_,O⟩,q⟩
theorem FL{f:cK->cK->Sem cK}{g:Int->Int->Bool}(a:∀(i j:Int) (t u:Tok) (s:cM) (Q:cK->cM->Prop) (E:cK->cM->Prop),Q (.bool (g i j)) s->cU (model X.prog X.w) X.A (f (.int i t) (.int j u)) Q E s):
  fJ X f (BA λi j=>.bl (g i j)):=by
 intro ag s σ H x y v u Q I c b h;obtain⟨i,j,rfl,rfl,q⟩:=h;obtain⟨t,rfl⟩:=c;obtain⟨d,rfl⟩:=b;exact a i j t d s _ _ ⟨.bl (g i j),H,I,O,q⟩
def JA(i j:Int):Prop:=0<j/\j<1073741824
def Jz(i j:Int):Prop:=0<=j/\j<=1000000/\i.natAbs<2^64
theorem FJ:fJ X (binaryOp .Add) (BA λi j=>.int (i+j)):=FK λ_ _ _ _ _ _ _ q=>add_int q
theorem Fz:fJ X (binaryOp .Sub) (BA λi j=>.int (i-j)):=FK λ_ _ _ _ _ _ _ q=>sub_int q
theorem B3:fJ X (binaryOp .FloorDiv) (rI JA λi j=>.int (i/j)):=JI λi j _ _ _ _ _ hc q=>by
 have h1:(0:Int)<j:=hc.1;have h2:j<1073741824:=hc.2;exact floordiv_int (by lia) (by rw[Int.fdiv_eq_ediv_of_nonneg i (by lia)];exact q) (.inl (PyProof.noPylong_small (by lia)))
theorem FD:fJ X (binaryOp .Mod) (rI (λ_ j=>0<j) λi j=>.int (i%j)):=JI λi j _ _ _ _ _ hc q=>by
 have h1:(0:Int)<j:=hc;exact mod_int' (by lia) (by rw[Int.fmod_eq_emod_of_nonneg i (by lia)];exact q)
theorem FC:fJ X (binaryOp .Pow) (rI Jz λi j=>.int (i^j.toNat)):=JI λ_ _ _ _ _ _ _ hc q=>pow_int_small hc.1 hc.2.1 hc.2.2 q
theorem CO:fJ X (inplaceOp .Add) (BA λi j=>.int (i+j)):=FK λ_ _ _ _ _ _ _ q=>iadd_int q
theorem Lp{f:cK->Sem cK}{g:Int->Int}(a:∀(i:Int) (t:Tok) (s:cM) (Q:cK->cM->Prop) (E:cK->cM->Prop),Q (.int (g i) s.toks) {s with toks:=s.toks+1}->cU (model X.prog X.w) X.A (f (.int i t)) Q E s):
  HC X f (rU λi=>.int (g i)):=by
 intro ag s σ H x v Q I b h;obtain⟨i,rfl,q⟩:=h;obtain⟨t,rfl⟩:=b;exact a i t s _ _ ⟨.int (g i),H,I.tok _,⟨_,O⟩,q⟩
theorem Er:HC X (unaryOp .USub) (rU λi=>.int (-i)):=Lp λ_ _ _ _ _ q=>neg_int q
theorem z5{ag:List (cN×Obj)}{σ:St}{H:Hp}{s:cM}{Q:VK}{k k':Bool}(I:Inv X ag σ H s)(q:Q (.bl k) H)(e:k=k'):EP X ag σ Q (.bool k') s:=by
 subst e;exact⟨.bl k,H,I,O,q⟩
theorem Iu:fJ X (compareOp .LtE) (BA λi j=>.bl (decide (i<=j))):=FL λ_ _ _ _ _ _ _ q=>le_int q
theorem Iv:fJ X (compareOp .Gt) (BA λi j=>.bl (decide (j<i))):=FL λ_ _ _ _ _ _ _ q=>gt_int q
theorem Iw:fJ X (compareOp .GtE) (BA λi j=>.bl (decide (j<=i))):=FL λ_ _ _ _ _ _ _ q=>ge_int q
theorem FF:fJ X (compareOp .Is) (λx y H Q=>y = .non/\Q (.bl (decide (x = .non))) H):=by
 intro ag s σ H x y v u Q I a b h;obtain⟨rfl,q⟩:=h;cases b;refine is_none_gen (z5 I q ?_);cases x<;>first
  |(cases a;rfl)
  |(obtain⟨t,rfl⟩:=a;rfl)
theorem B2:fJ X (compareOp .IsNot) (λx y H Q=>y = .non/\Q (.bl (!decide (x = .non))) H):=by
 intro ag s σ H x y v u Q I a b h;obtain⟨rfl,q⟩:=h;cases b;refine isnot_none_gen (z5 I q ?_);cases x<;>first
  |(cases a;rfl)
  |(obtain⟨t,rfl⟩:=a;rfl)
theorem yS(b:Expr){op:CmpOp}(h:op ≠ .In:=by decide)(h2:op ≠ .NotIn:=by decide):behindInMarks op b=J:=by
 have c:(op == CmpOp.In)=J:=by cases op<;>first|rfl|exact absurd rfl h
 have a:(op == CmpOp.NotIn)=J:=by cases op<;>first|rfl|exact absurd rfl h2
 cases b<;>simp[behindInMarks,c,a]
theorem BX{op:CmpOp}{r:R2}(ho:fJ X (compareOp op) r)(ha:PE X a ta)(hb:PE X b tb)(hm:behindInMarks op b=J):PE X (.Compare a [op] [b] pos) (HP r ta tb):=by
 intro ag s σ H Q I h;exact wpAny_Compare1 (He ha hb I h λv u e x y H2 d c f q=>ho ag e σ H2 x y v u Q d c f q) hm
def DG(t:TE):TT:=fun σ H Q=>t σ H λx H'=>∃k,x = .bl k/\Q k H'
theorem BH{op:CmpOp}{r:R2}(ho:fJ X (compareOp op) r)(ha:PE X a ta)(hb:PE X b tb)(hm:behindInMarks op b=J):PT X (.Compare a [op] [b] pos) (DG (HP r ta tb)):=by
 intro ag s σ H Q I h;refine wpAny_isTrue_Compare1 (eN (ha ag s σ H _ I h) λv n ⟨x,H1,o,g,p⟩=>eN (hb ag n σ H1 _ o p) λu f ⟨y,H2,i,r2,d⟩=>
  eN (ho ag f σ H2 x y v u _ i g r2 d) λc t ⟨z,q,m,l,k,e,j⟩=>?_) hm
 subst e;cases l;exact wpAny_truthy_bool ⟨q,m,j⟩
def tP(r r':R2)(ta tb tc:TE):TE:=fun σ H Q=>ta σ H λx H1=>tb σ H1 λy H2=>r x y H2 λz H3=>∃k,z = .bl k /\
 (if k=M then tc σ H3 λw' H4=>r' y w' H4 Q else Q (.bl J) H3)
theorem yJ{op op':CmpOp}{r f:R2}(ho:fJ X (compareOp op) r)(ho':fJ X (compareOp op') f)(ha:PE X a ta)(hb:PE X b tb)(hc:PE X c tc)(hm:lastMarks [op,op'] [b,c]=J:=by with_unfolding_all rfl):PE X (.Compare a [op,op'] [b,c] pos) (tP r f ta tb tc):=by
 intro ag s σ H Q I h;refine Compare_chain (eN (ha ag s σ H _ I h) λv F ⟨x,H1,C,p,G⟩=>chain_link (eN (hb ag F σ H1 _ C G) λu m ⟨y,H2,n,r2,l⟩=>
  eN (ho ag m σ H2 x y v u _ n p r2 l) λd w ⟨z,i,j,o,k,e,g⟩=>?_)) hm
 subst e;cases o;refine wpAny_truthy_bool ?_;cases k with
 |false=>exact ite_ff ⟨.bl J,i,j,O,g⟩
 |true=>exact ite_tt (chain_last (eN (hc ag w σ i _ j g) λam D ⟨A,E,t,q,B⟩=>ho' ag D σ E y A u am Q t r2 q B))
theorem yu{op op':CmpOp}{r f:R2}(ho:fJ X (compareOp op) r)(ho':fJ X (compareOp op') f)(ha:PE X a ta)(hb:PE X b tb)(hc:PE X c tc)(hm:lastMarks [op,op'] [b,c]=J:=by with_unfolding_all rfl):PT X (.Compare a [op,op'] [b,c] pos) (DG (tP r f ta tb tc)):=by
 intro ag s σ H Q I h;refine isTrue_chain (eN (ha ag s σ H _ I h) λv ar ⟨x,H1,G,w,P⟩=>test_link (eN (hb ag ar σ H1 _ G P) λu m ⟨y,H2,o,r2,l⟩=>
  eN (ho ag m σ H2 x y v u _ o w r2 l) λd D ⟨z,g,j,p,k,e,i⟩=>?_)) hm
 subst e;cases p;refine wpAny_truthy_bool ?_;cases k with
 |false=>
  obtain⟨S,t,A⟩:=i;cases t;exact ite_ff ⟨g,j,A⟩
 |true=>
  refine ite_tt (test_last (eN (hc ag D σ g _ j i) λR ao ⟨E,N,C,B,F⟩=>eN (ho' ag ao σ N y E u R _ C r2 B F) λV U ⟨T,L,n,K,W,q,am⟩=>?_));subst q;cases K;exact wpAny_truthy_bool ⟨L,n,am⟩
def AX(K:Fg1)(x:V)(H:Hp)(k:Bool):Prop:=
 match x with
 | .non=>k=J
 | .bl b=>k=b
 | .int i=>k=(i != 0)
 | .str y=>y.length<=cT/\k=((y.length:Int) != 0)
 | .byt y=>y.size<=cT/\k=((y.size:Int) != 0)
 | .ref p=>(∃xs,lp K H p xs/\k = !xs.isEmpty)\/(∃xs,jW K H p xs/\k = !xs.isEmpty) \/ ∃kvs,H p=Z (.dK kvs)/\k = !kvs.isEmpty
 |_=>False
theorem uo{κ:Type}{kvs:List (κ×V)}{vs:List (κ×cK)}(r:KV kvs vs):(!vs.isEmpty) = !kvs.isEmpty:=by
 cases r<;>rfl
theorem nJ{xs:List V}{its:List cK}(r:dU xs its):(!its.toArray.isEmpty) = !xs.isEmpty:=by
 cases r<;>simp
theorem lF:(cT:Nat)<2^63:=by rw[sizeLine_eq];decide
theorem xQ:KU X (λx H Q=>∃k,AX X.K x H k/\Q k H):=by
 intro ag s σ H x v Q I d h;obtain⟨k,e,q⟩:=h;have o:=lF;have u:cT=16777216:=sizeLine_eq;cases x with
 |non=>
  cases d;have a:k=J:=e;subst a;exact truthy_none ⟨H,I,q⟩
 |bl b=>
  cases d;have a:k=b:=e;subst a;exact wpAny_truthy_bool ⟨H,I,q⟩
 |int i=>
  obtain⟨t,rfl⟩:=d;have a:k=(i != 0):=e;subst a;exact PySem.P.truthy_int ⟨H,I,q⟩
 |str y=>
  obtain⟨t,rfl⟩:=d;obtain⟨n,a⟩:y.length<=cT/\k=((y.length:Int) != 0):=e;subst a;exact PySem.P.truthy_str (by lia) ⟨H,I.tok _,q⟩
 |byt y=>
  obtain⟨t,rfl⟩:=d;obtain⟨n,a⟩:y.size<=cT/\k=((y.size:Int) != 0):=e;subst a;exact PySem.W.truthy_bytes (by lia) ⟨H,I.tok _,q⟩
 |ref p=>
  cases d;have a:(∃xs,lp X.K H p xs/\k = !xs.isEmpty)\/(∃xs,jW X.K H p xs/\k = !xs.isEmpty) \/ ∃kvs,H p=Z (.dK kvs)/\k = !kvs.isEmpty:=e;rcases a with⟨xs,f,a⟩|⟨xs,f,a⟩|⟨kvs,f,a⟩
  ·subst a;obtain⟨g,r,pl,j⟩:=I.list f;have c:=r.length;exact wpAny_truthy_list pl.isList (by simp only[aJ];lia) ⟨H,I.tok _,by rw[nJ r];exact q⟩
  ·subst a;obtain⟨g,r,pl,j⟩:=I.tuple f;have c:=r.length;exact truthy_tuple pl (by simp only[aJ];lia) ⟨H,I.tok _,by rw[nJ r];exact q⟩
  ·subst a;obtain⟨j,l,vs,r,m⟩:kvs.length<=cT/\(p == sysModules)=false /\ ∃vs,KV kvs vs/\s.heap.DictOf (eF X.prog X.w) p vs:=I.hok p _ f;have c:kvs.length=vs.length:=Paired.length r;exact wpAny_truthy_dict l m (by lia) ⟨H,I.tok _,by rw[uo r];exact q⟩
 |_=>exact(show False from e).elim
theorem yt(ha:PE X a ta)(he:∀ b,isTrue a X.env b=(do let v<-b;standAt a.pos;holding [v] (truthy v))):
  PT X a (fun σ H Q=>ta σ H λx H'=>∃k,AX X.K x H' k/\Q k H'):=by
 intro ag s σ H Q I h;exact isTrue_plain (eN (ha ag s σ H _ I h) λv d ⟨x,H1,e,c,f⟩=>xQ ag d σ H1 x v Q e c f) (he _)
theorem t1:fJ X (binaryOp .Add) (λx y H Q=>∃i j,x = .str i/\y = .str j/\i.length+j.length<=cT/\Q (.str (i++j)) H):=by
 intro ag s σ H x y v u Q I a b h;obtain⟨i,j,rfl,rfl,d,q⟩:=h;obtain⟨t,rfl⟩:=a;obtain⟨c,rfl⟩:=b;exact add_str (λc tk=>⟨.str (i++j),H,I.tok _,⟨_,O⟩,q⟩) d
theorem hI{x:V}{us:List cK}(r:dU [x] us):∃u,us=[u]/\dD x u:=by
 cases r with
 |cons a r2=>cases r2;exact⟨_,O,a⟩
theorem xH{x y:V}{us:List cK}(r:dU [x,y] us):∃u w',us=[u,w']/\dD x u/\dD y w':=by
 cases r with
 |cons a r2=>
  cases r2 with
  |cons b c=>cases c;exact⟨_,_,O,a,b⟩
theorem xc(hc:X.calm=M):eH X (.builtin "max") (λxs H Q=>∃i j,xs=[.int i,.int j]/\Q (.int (if j>i then j else i)) H):=by
 intro ag s σ H xs c Q I r h;obtain⟨i,j,rfl,q⟩:=h;obtain⟨u,b,rfl,⟨t,rfl⟩,⟨d,rfl⟩⟩:=xH r;refine max_two_ints (I.ok.hd hc) λh' tk k=>⟨_,H,I.kept k,?_,q⟩;by_cases a:j>i
 ·rw[ak a,ak a];exact⟨_,O⟩
 ·rw[aj a,aj a];exact⟨_,O⟩
theorem xb(hc:X.calm=M):eH X (.builtin "min") (λxs H Q=>∃i j,xs=[.int i,.int j]/\Q (.int (if j<i then j else i)) H):=by
 intro ag s σ H xs c Q I r h;obtain⟨i,j,rfl,q⟩:=h;obtain⟨u,b,rfl,⟨t,rfl⟩,⟨d,rfl⟩⟩:=xH r;refine min_two_ints (I.ok.hd hc) λh' tk k=>⟨_,H,I.kept k,?_,q⟩;by_cases a:j<i
 ·rw[ak a,ak a];exact⟨_,O⟩
 ·rw[aj a,aj a];exact⟨_,O⟩
theorem pk:eH X (.type "int") (λxs H Q=>(∃i,xs=[.int i]/\Q (.int i) H) \/ ∃k,xs=[.bl k]/\Q (.int (if k then 1 else 0)) H):=by
 intro ag s σ H xs b Q I r h;rcases h with⟨i,rfl,q⟩|⟨k,rfl,q⟩
 ·obtain⟨u,rfl,t,rfl⟩:=hI r;exact call_int_int ⟨.int i,H,I,⟨_,O⟩,q⟩
 ·obtain⟨u,rfl,a⟩:=hI r;cases a;exact call_int_bool ⟨.int (if k then 1 else 0),H,I.tok _,⟨_,O⟩,q⟩
theorem nZ:eH X (.type "bool") (λxs H Q=>(∃i,xs=[.int i]/\Q (.bl (i != 0)) H) \/ ∃k,xs=[.bl k]/\Q (.bl k) H):=by
 intro ag s σ H xs b Q I r h;rcases h with⟨i,rfl,q⟩|⟨k,rfl,q⟩
 ·obtain⟨u,rfl,t,rfl⟩:=hI r;exact call_bool_int ⟨.bl (i != 0),H,I,O,q⟩
 ·obtain⟨u,rfl,a⟩:=hI r;cases a;exact call_bool_bool ⟨.bl k,H,I,O,q⟩
theorem qv:eH X (.type "str") (λxs H Q=>∃i,xs=[.int i]/\i.natAbs.log2<1920/\Q (.str (toString i)) H):=by
 intro ag s σ H xs b Q I r h;obtain⟨i,rfl,a,q⟩:=h;obtain⟨u,rfl,t,rfl⟩:=hI r;exact PySem.P.str_of_int a ⟨.str _,H,I.tok _,⟨_,O⟩,q⟩
end
end L2
namespace L2
open PySem PySem.Spec PyProof.Rows
structure Hx (h:cW)(x dx C:cN)(mA:Str->Option cK):Prop where
 obj:h.get? x=some (PySem.W.instObj C dx)
 ns:h.Ns1 dx mA
 ne:dx≠x
theorem wG{h:cW}{dx:cN}{mA:Str->Option cK}(n:h.Ns1 dx mA):∃c,h.get? dx=Z c /\ ∀name,PySem.W.lookIn name c=Z (mA name):=by
 obtain⟨o,es,ep,g,i,d,_,j⟩:=n;refine⟨o,g,λname=>?_⟩;have e:=j name;unfold nsFind findBy at e;rw[<- Array.find?_toList]at e;unfold PySem.W.lookIn;rw[i];dsimp only;split
 ·rename_i y q;rw[q]at e;exact congrArg Z e
 ·rename_i q;rw [q] at e;have a:es.toList.any (·.refKey)=false:=by
   rw[List.any_eq_false];intro y k;obtain⟨z,t,b⟩:=d y (Array.mem_toList_iff.mp k);simp[DictEntry.refKey,b]
  have f:¬ es.toList.any (·.refKey)=M:=by rw[a];exact aI
  rw[aj f];exact congrArg Z e
theorem Hx.look{h:cW}{x dx C:cN}{mA:Str->Option cK}(I:Hx h x dx C mA):∃a,PySem.W.InstAt h x (PySem.W.instObj C dx) C (Z a) /\ ∀name,PySem.W.lookIn name a=Z (mA name):=
 let ⟨a,ho,hl⟩:=wG I.ns
 ⟨a,⟨I.obj,O,O,ho⟩,hl⟩
section
variable{prog:cO}{w:cQ}{A:cP}{E:cK->cM->Prop}{s:cM}{K:Fg1}{x dx C f:cN}{mA:Str->Option cK}{name:Str}{v:cK}
end
theorem lS.some_of{v:V}{o:Option cK}(r:lS (Z v) o):∃u,o=Z u/\dD v u:=by
 cases o with
 |none=>exact(show False from r).elim
 |some u=>exact⟨u,O,r⟩
section
variable{P:cO}{w:cQ}{H H':Hp}{h h':cW}{a C dx:cN}{fs fs':List (Str×V)}
theorem CP(b:kG P w H h)(e:H a=Z (.ins C dx fs)):∃mA,Hx h a dx C mA/\(∀f,lS (fs.lookup f) (mA f))/\PySem.Within mA (fs.map (·.1))/\fs.length<=1000/\H dx=Z (.own a):=by
 obtain⟨d,z,ne,c,mA,n,r,q⟩:=(show ez P w H h a (.ins C dx fs)from b a _ e);exact⟨mA,⟨c,n,ne⟩,r,q,z,d⟩
end
structure K2 (K:Fg1)(C:cN):Prop where
 pg:PySem.W.plainGet K C Str.empty=true
 hd:PySem.W.hasDictIn K C=true
 po:PySem.W.plainOver K C=true
 sa:PySem.W.findIn K (.ref C) "__setattr__"=some (some (.builtin "object.__setattr__"))
theorem K2.get{K:Fg1}{C:cN}(c:K2 K C)(f:Str):PySem.W.plainGet K C f=M:=c.pg
structure Con (K:Fg1)(C:cN)(f:Str)(v:V)(u:cK):Prop where
 at_:PySem.W.findIn K (.ref C) f=some (some u)
 rel:dD v u
 get:PySem.W.specialIn K u "__get__"=some none
 cp:PySem.W.copiedNames.contains f=false
section
variable{X:Cx}{ag:List (cN×Obj)}{σ:St}{H:Hp}{s:cM}{a C dx:cN}{fs:List (Str×V)}{f:Str}{v:V}{A:cP}{E:cK->cM->Prop}
end
section
variable{X:Cx}{o e value:Expr}{f:Str}{pos pos' tpos:Pos}{ta tv:TE}
end
section
variable{X:Cx}{ag:List (cN×Obj)}{σ:St}{H:Hp}{s:cM}{A:cP}{E:cK->cM->Prop}{Q:cK->cM->Prop}{c:cK}{b:Bool}
inductive mK (K:Fg1)(H:Hp):V->cK->Prop where
 |non:mK K H .non (.type "NoneType")
 |bl (x:Bool):mK K H (.bl x) (.type "bool")
 |int (i:Int):mK K H (.int i) (.type "int")
 |str (x:Str):mK K H (.str x) (.type "str")
 |flt (x:UInt64):mK K H (.flt x) (.type "float")
 |lst {a:cN} {xs:List V} (e:H a=some (.lst xs)):mK K H (.ref a) (.type "list")
 |frz {a:cN} {o:Obj} {xs:List V} (e:H a=some (.frz o (.lst xs))):mK K H (.ref a) (.type "list")
 |tup {a:cN} {xs:List V} (e:H a=some (.tup xs)):mK K H (.ref a) (.type "tuple")
 |dK {a:cN} {kvs:List (Key×V)} (e:H a=some (.dK kvs)):mK K H (.ref a) (.type "dict")
 |dT {a:cN} {kvs:List (List Key×V)} (e:H a=some (.dT kvs)):mK K H (.ref a) (.type "dict")
 | ins {a C dx:cN} {fs:List (Str×V)} (e:H a=some (.ins C dx fs)) (cl:K2 K C) (ha:PySem.W.findIn K (.ref C) "__class__"=some (some (.builtin "object.__class__")))
   (hn:PySem.W.specialIn K (.builtin "object.__class__") "__get__"=some (some (.builtin "getset_descriptor.__get__"))) (htk:PySem.W.takesIn K (.builtin "object.__class__")=some true)
   (hm:PySem.W.mroIn K C (.type "object")=some true):mK K H (.ref a) (.ref C)
theorem iG{x:V}{u t:cK}(I:Inv X ag σ H s)(f:dD x u)(ty:mK X.K H x t)(e:PySem.W.kitOne X.K t c=some b)(h:∀ tk,Q (.bool b) {s with toks:=tk}):
  cU (model X.prog X.w) A (call (.builtin "isinstance") [u,c]) Q E s:=by
 cases ty with
 |non=>cases(show u=Value.none from f);exact PySem.W.kia_one PySem.W.kitx_none I.kIn True.intro e (λz=>nomatch z) h
 |bl y=>cases(show u=Value.bool y from f);exact PySem.W.kia_one PySem.W.kitx_bool I.kIn True.intro e (λz=>nomatch z) h
 |int i=>obtain⟨t,q⟩:=(show∃t,u=Value.int i t from f);cases q;exact PySem.W.kia_one PySem.W.kitx_int I.kIn True.intro e (λz=>nomatch z) h
 |str y=>obtain⟨t,q⟩:=(show∃t,u=Value.str y t from f);cases q;exact PySem.W.kia_one PySem.W.kitx_str I.kIn True.intro e (λz=>nomatch z) h
 |flt y=>obtain⟨t,q⟩:=(show∃t,u=Value.float y t from f);cases q;exact PySem.W.kia_one PySem.W.kitx_float I.kIn True.intro e (λz=>nomatch z) h
 | @lst a xs d=>
  cases(show u=Value.ref a from f);obtain⟨_,_,n,_,h1⟩:=(show ez X.prog X.w H s.heap a (.lst xs)from I.hok a _ d);exact PySem.W.kia_one PySem.W.kitx_list I.kIn ⟨_,h1,O⟩ e (λz=>nomatch z) h
 | @frz a l xs d=>
  cases(show u=Value.ref a from f);obtain⟨_,_,_,n,_,h1⟩:=(show ez X.prog X.w H s.heap a (.frz l (.lst xs))from I.hok a _ d);exact PySem.W.kia_one PySem.W.kitx_list I.kIn ⟨_,h1,O⟩ e (λz=>nomatch z) h
 | @tup a xs d=>
  cases(show u=Value.ref a from f);obtain⟨_,_,_,p⟩:=(show ez X.prog X.w H s.heap a (.tup xs)from I.hok a _ d);obtain⟨o,h1,h2,_⟩:=p;exact PySem.W.kia_one PySem.W.kitx_tuple I.kIn ⟨o,h1,h2⟩ e (λz=>nomatch z) h
 | @dK a kvs d=>
  cases(show u=Value.ref a from f);obtain⟨_,_,vs,_,p⟩:=(show ez X.prog X.w H s.heap a (.dK kvs)from I.hok a _ d);obtain⟨o,es,ep,h1,h2,_⟩:=p;exact PySem.W.kia_one PySem.W.kitx_dict I.kIn ⟨o,h1,h2.1⟩ e (λz=>nomatch z) h
 | @dT a kvs d=>
  cases(show u=Value.ref a from f);obtain⟨_,_,xs,_,o,es,ep,h1,h2,_⟩:=(show ez X.prog X.w H s.heap a (.dT kvs)from I.hok a _ d);exact PySem.W.kia_one PySem.W.kitx_dict I.kIn ⟨o,h1,h2.1⟩ e (λz=>nomatch z) h
 | @ins a C dx fs d j k m g r=>
  cases(show u=Value.ref a from f);obtain⟨mA,ar,_⟩:=CP I.hok d;obtain⟨v,am,_⟩:=ar.look;exact PySem.W.kia_one (PySem.W.kitx_own (j.get _) j.hd k m g r) I.kIn am e (λz=>nomatch z) h
end
end L2
namespace L2
open PySem PySem.Spec PyProof.Rows
structure ga (k:Nat)(A:cP):Prop where
 hd:A.handled=none
 dp:A.depth+3*k+5<recursionLimit
 un:A.units+16*k+200<cLine
 gd:A.guards=some []
theorem ga.mono{j k:Nat}{A:cP}(r:ga k A)(h:j<=k):ga j A:=⟨r.hd,by have:=r.dp;lia,by have:=r.un;lia,r.gd⟩
theorem ga.deeper{k:Nat}{A:cP}(r:ga (k+1) A)(env:Env):ga k (A.deeper env):=
 ⟨r.hd,by have:=r.dp;show A.depth+1+3*k+5<_;lia,by have:=r.un;show A.units+3+16*k+200<_;lia,r.gd⟩
theorem ga.depth{k:Nat}{A:cP}(r:ga k A):A.depth<recursionLimit:=by have:=r.dp;lia
theorem ga.units{k:Nat}{A:cP}(r:ga k A):A.units+64<cLine:=by have:=r.un;lia
def J7:TA:=λ_ H Q=>Q [] H
def HX(ta:TE)(tr:TA):TA:=fun σ H Q=>ta σ H λx H1=>tr σ H1 λxs H2=>Q (x::xs) H2
section
variable{X:Cx}{e:Expr}{es:List Expr}{te:TE}{t:TA}{pos:Pos}
theorem lA:PA X [] J7:=λ_ _ _ _ H Q I h=>Calls.spliced_nil ⟨[],H,I,.nil,h⟩
theorem iR(ha:PE X e te)(hr:PA X es t)(hs:cS (e::es) X.env=(J,eval e X.env)::cS es X.env:=by rfl):PA X (e::es) (HX te t):=by
 intro pos ag s σ H Q I h;rw[hs];show cU _ _ (spliced ((J,eval e X.env)::backTo pos (cS es X.env))) _ _ s;refine Calls.spliced_cons (eN (ha ag s σ H _ I h) λu d ⟨x,H1,f,b,g⟩=>?_);exact eN (hr pos ag d σ H1 _ f g) λj i ⟨xs,H2,c,r2,a⟩=>⟨x::xs,H2,c,.cons b r2,a⟩
def JY(t:TA):TE:=fun σ H Q=>t σ H λxs H1=>xs.length<=cT /\ ∀p,H1 p=Y->Q (.ref p) (upd H1 p (.tup xs))
def Ka(t:TA):TE:=fun σ H Q=>t σ H λxs H1=>xs.length<=cT /\ ∀p,H1 p=Y->Q (.ref p) (upd H1 p (.lst xs))
theorem Fm{x1}(h:PA X es t):PE X (.Tuple es x1 pos) (JY t):=by
 intro ag s σ H Q I g;refine wpAny_Tuple_spliced (eN (h pos ag s σ H _ I g) λf a ⟨xs,H1,c,r,z,q⟩=>⟨by rw[<- r.length];exact z,?_⟩);have d:H1 a.heap.objs.size=Y:=c.hok.fresh (nR1 _);refine⟨.ref a.heap.objs.size,upd H1 a.heap.objs.size (.tup xs),c.laid (t':=a.toks) (λb u e=>hP1 _ e) (nR1 _) ?_,O,q _ d⟩;exact⟨z,f,r,⟨_,hS1 _ O,O,_,O⟩⟩
theorem Ft(h:PA X es t):PE X (.List es pos) (Ka t):=by
 intro ag s σ H Q I g;refine wpAny_List_spliced (eN (h pos ag s σ H _ I g) λf a ⟨xs,H1,c,r,z,q⟩=>⟨by rw[<- r.length];exact z,?_⟩);have d:H1 a.heap.objs.size=Y:=c.hok.fresh (nR1 _);refine⟨.ref a.heap.objs.size,upd H1 a.heap.objs.size (.lst xs),c.laid (t':=a.toks) (λb u e=>hP1 _ e) (nR1 _) ?_,O,q _ d⟩;exact⟨z,f,0,r,hS1 _ O⟩
end
abbrev Sp:=List V->Hp->VK->XK->Prop
abbrev xu:=List Env->Hp->cM->XK->cK->cM->Prop
structure DB (P:cO)(w:cQ)(K:Fg1)(mg:Str->Option cK)(base:cW)(A:cP)(outer:List Env)(s:cM)(H:Hp):Prop where
 frames:A.frames=some outer
 mod:Mod K mg base
 bs:∀b o,base.get? b=some o->s.heap.get? b=some o/\H b=none
 bsz:base.objs.size<=s.heap.objs.size
 funs:s.heap.FunFrames base outer
 frf:∀b∈frs outer,H b=none
 hok:kG P w H s.heap
 bare:AllBare s.gens
def CE(outer:List Env)(P:cO)(w:cQ)(H:Hp)(s:cM)(Q:VK)(u:cK)(s':cM):Prop:=
 ∃v H',s'.os=s.os/\AllBare s'.gens/\Un (frs outer) [] H H' s.heap s'.heap/\kG P w H' s'.heap/\dD v u/\Q v H'
def CR(CX:xu)(outer:List Env)(P:cO)(w:cQ)(H:Hp)(s:cM)(Q:VK)(E:XK)(r:Result)(s':cM):Prop:=
 match r with
 | .ok (.ret u)=>CE outer P w H s Q u s'
 | .ok _=>False
 | .error e=>CX outer H s E e s'
structure lT (P:cO)(w:cQ)(K:Fg1)(mg:Str->Option cK)(base:cW)(CX:xu)(k:Nat)(f:cN)(fd:cX)(ps:List Str)(sp:Sp):Prop where
 len:∀vs H Q E,sp vs H Q E->vs.length=ps.length
 run:∀(A:cP) (outer:List Env) (s:cM) (H:Hp) (args:Args) (us:List cK) (vs:List V) (Q:VK) (E:XK),ga k A->DB P w K mg base A outer s H->BindsTo s fd args (ps.zip us)->dU vs us->sp vs H Q E ->
  cV (model P w) A (.call (.ref f) args) (CR CX outer P w H s Q E) s
section
variable{X:Cx}{ag:List (cN×Obj)}{σ:St}{H:Hp}{s s':cM}
theorem Inv.env0(I:Inv X ag σ H s):DB X.prog X.w X.K X.mg X.base X.A X.stack s H:=
 ⟨I.ok.frames,I.ok.mod,I.bs,aB I.ok.bsz I.sz,I.stack,I.stkFree,I.hok,I.bare⟩
theorem Inv.after{Q:VK}{u:cK}(I:Inv X ag σ H s)(h:CE X.stack X.prog X.w H s Q u s'):EP X ag σ Q u s':=by
 obtain⟨v,H',i,a,un,c,r,q⟩:=h;obtain⟨f,g,d,t,e⟩:=s';obtain rfl:e=s.os:=i;exact⟨v,H',I.call (h':=f) (g':=g) (d':=d) (t':=t) (ch:=[]) un c a (λb z=>absurd z (by simp)),r,q⟩
end
def HY(sp:Sp)(dvs:List V)(E:XK)(t:TA):TE:=fun σ H Q=>t σ H λvs H1=>sp (vs++dvs) H1 Q E
def jN(K:Fg1)(fd:cX)(ps:List Str)(ds:List cK):Prop:=
 ∀(s:cM) (us:List cK),K.In s.heap->(us++ds).length=ps.length->BindsTo s fd ⟨us,[]⟩ (ps.zip (us++ds))
theorem jN.all{K:Fg1}{fd:cX}{ps:List Str}(h:∀a:List cK,a.length=ps.length->bindArgs fd ⟨a,[]⟩=pure (ps.zip a)):jN K fd ps []:=λs a _ b=>by
 rw[aK]at b ⊢;exact .of_eq (h a b)
def uJ(CX:xu)(X:Cx)(E:XK):Prop:=∀(ag:List (cN×Obj)) (σ:St) (H:Hp) (s:cM) (e:cK) (s':cM),Inv X ag σ H s->CX X.stack H s E e s'->X.xe e s'
section
variable{X:Cx}{CX:xu}{k:Nat}{f C:cN}{fd:cX}{ps:List Str}{sp:Sp}{dvs:List V}{ds:List cK}{E:XK}{x m:Str}{p pos apos:Pos}{e o:Expr}{es:List Expr}{ta:TE}{t:TA}
theorem ET{ag:List (cN×Obj)}{σ:St}{H:Hp}{s:cM}{Q:VK}{us:List cK}{vs:List V}(F:lT X.prog X.w X.K X.mg X.base CX k f fd ps sp)(hr:ga k X.A)(hb:jN X.K fd ps ds)(hd:dU dvs ds)(hx:uJ CX X E)(I:Inv X ag σ H s)(r:dU vs us)(h:sp (vs++dvs) H Q E):cU (model X.prog X.w) X.A (call (.ref f) us) (EP X ag σ Q) X.xe s:=by
 have r2:dU (vs++dvs) (us++ds):=r.append hd;have b:(us++ds).length=ps.length:=by rw[<- r2.length];exact F.len _ _ _ _ h
 refine wpAny_call (codeAny_mono (F.run X.A X.stack s H ⟨us,[]⟩ (us++ds) (vs++dvs) Q E hr I.env0 (hb s us I.kIn b) r2 h) λr s' a=>?_);cases r with
 |error e=>exact hx ag σ H s e s' I a
 |ok c=>
  cases c with
  |ret u=>exact I.after a
  |next=>exact False.elim a
  |brk=>exact False.elim a
  |cont=>exact False.elim a
theorem BY (F:lT X.prog X.w X.K X.mg X.base CX k f fd ps sp)(hr:ga k X.A)(hg:Gl X x)(hm:X.mg x=some (.ref f))(hk:wK1 X.K (.ref f)=true)(hb:jN X.K fd ps ds)(hd:dU dvs ds)(hx:uJ CX X E)
  (ha:PA X (e::es) t) (hdb:(x == ("__debug__":Str))=J:=by decide) (he:cS (e::es) X.env=(J,eval e X.env)::cS es X.env:=by rfl) (hpl:(backTo pos (cS es X.env)).any (·.1)=J:=by rfl):
  PE X (.Call (.Name x p) (e::es) [] pos) (HY sp dvs E t):=by
 intro ag s σ H Q I h;refine wpAny_Call_Name_kw (vy I hg hm ?_ hdb);refine PySem.W.callWith_K (h₀:=X.base) I.ok.mod.kin hk (eN (ha pos ag s σ H _ I h) λb c ⟨vs,H1,a,r,q⟩=>⟨a.kIn,?_⟩) he hpl;exact ET F hr hb hd hx a r q
end
section
variable{X:Cx}{CX:xu}{k:Nat}{f C:cN}{fd:cX}{ps ks:List Str}{sp:Sp}{E:XK}{x m:Str}{p pos apos kpos:Pos}{e o:Expr}{es:List Expr}{kws:List Keyword}{te ta:TE}{t tk:TA}{nm:Option Str}
variable{g:List cK->List cK->List cK}{gV:List V->List V->List V}
end
structure gC (N P:List Str)(sc:cZ):Prop where
 kind:sc.kind = .function
 co:sc.isCoroutine=false
 gen:sc.isGenerator=false
 nd:N.Nodup
 pre:N.take P.length=P
 par:∀x∈P,sc.names.lookup x=some .local\/sc.names.lookup x=some .cell
 nofree:∀y∈sc.names,y.2 ≠ .free
theorem pq{kindOf:Str->Option NameKind}{x:Str}:∀{binds:List (Str×cK)} {m:Str->Option cK},(∀v,(x,v)∉binds)->bindL kindOf binds m x=m x
 |[],_,_=>rfl
 |(n,v)::r,m,h=>by
  unfold bindL;rw[pq λw a=>h w (mC1 _ a)];split
  ·have:x≠n:=by rintro rfl;exact h v mS1
   simp[this]
  ·rfl
theorem pv{kindOf:Str->Option NameKind}{x:Str}:∀{binds:List (Str×cK)} {m:Str->Option cK},(∀v,(x,v)∉binds)->bindC kindOf binds m x=m x
 |[],_,_=>rfl
 |(n,v)::r,m,h=>by
  unfold bindC;rw[pv λw a=>h w (mC1 _ a)];split
  ·rfl
  ·have:x≠n:=by rintro rfl;exact h v mS1
   simp[this]
theorem pu{kindOf:Str->Option NameKind}{x:Str}{v:cK}:∀ {P:List Str} {vs:List cK} {i:Nat} {m:Str->Option cK},P.Nodup->P[i]? = some x->vs[i]? = some v->kindOf x=some .local ->
  bindL kindOf (P.zip vs) m x=Z v
 |[],_,_,_,_,h,_,_=>by simp at h
 |_::_,[],_,_,_,_,h,_=>by simp at h
 |p::P,w::vs,0,m,nd,h1,h2,hk=>by
  simp at h1 h2;subst h1;subst h2;show bindL kindOf ((p,w)::P.zip vs) m p=_;unfold bindL;rw[pq λv a=>(aL.mp nd).1 (List.of_mem_zip a).1,ak hk];simp
 |p::P,w::vs,i+1,m,nd,h1,h2,hk=>by
  show bindL kindOf ((p,w)::P.zip vs) m x=_;unfold bindL;exact pu (i:=i) (aL.mp nd).2 (by simpa using h1) (by simpa using h2) hk
theorem pw{kindOf:Str->Option NameKind}{x:Str}{v:cK}:∀ {P:List Str} {vs:List cK} {i:Nat} {m:Str->Option cK},P.Nodup->P[i]? = some x->vs[i]? = some v->kindOf x≠some .local ->
  bindC kindOf (P.zip vs) m x=Z v
 |[],_,_,_,_,h,_,_=>by simp at h
 |_::_,[],_,_,_,_,h,_=>by simp at h
 |p::P,w::vs,0,m,nd,h1,h2,hk=>by
  simp at h1 h2;subst h1;subst h2;show bindC kindOf ((p,w)::P.zip vs) m p=_;unfold bindC;rw[pv λv a=>(aL.mp nd).1 (List.of_mem_zip a).1,aj hk];simp
 |p::P,w::vs,i+1,m,nd,h1,h2,hk=>by
  show bindC kindOf ((p,w)::P.zip vs) m x=_;unfold bindC;exact pw (i:=i) (aL.mp nd).2 (by simpa using h1) (by simpa using h2) hk
def start(N:List Str)(vs:List V):St:=vs.map Z++aM (N.length-vs.length) Y
def mJ(CX:xu)(P:cO)(w:cQ)(K:Fg1)(mg:Str->Option cK)(base:cW)(N:List Str)(qual:Str)(scope:cZ)(f:cN)(cd:cK)(A:cP)(outer:List Env)(s:cM)(H:Hp)(E:XK):Cx where
 prog:=P
 w:=w
 K:=K
 mg:=mg
 base:=base
 A:=A.deeper (envOfC qual scope s.heap.objs.size f cd)
 N:=N
 s₀:=s
 H₀:=H
 env:=envOfC qual scope s.heap.objs.size f cd
 outer:=outer
 stack:=envOfC qual scope s.heap.objs.size f cd::outer
 ex:=[]
 calm:=M
 fn:=λ_=>M
 pn:=[]
 xe:=λe s'=>cU (model P w) (A.deeper (envOfC qual scope s.heap.objs.size f cd)) (leaving (envOfC qual scope s.heap.objs.size f cd) e) (λ_ s''=>CX outer H s E e s'') (λe' s''=>CX outer H s E e' s'') s'
theorem sJ{a:cZ}{n:Nat}{x:Str}(h:a.names.lookup x=Z .cell):∃c,(cellsFrom n a.names []).lookup x=Z c:=by
 have q:=PySem.W.cellsFrom_some a.names n [] (.inl h);exact aN.mp q
theorem wK{CX:xu}{P:cO}{w:cQ}{K:Fg1}{mg:Str->Option cK}{base:cW}{N ps:List Str}{g:Str}{scope:cZ}{f:cN}{B:cK}{A:cP}{d:List Env}{s s1:cM}{H:Hp}{E:XK}{us:List cK}{vs:List V}(S:gC N ps scope)(hd:A.handled=none)(j:DB P w K mg base A d s H)(am:vs.length=ps.length)(r:dU vs us)(x:InCallC s s.heap.objs.size (bindL (envOfC g scope s.heap.objs.size f B).kindOf (ps.zip us) fun _=>none) (cellsFrom (s.heap.objs.size+1) scope.names []) (bindC (envOfC g scope s.heap.objs.size f B).kindOf (ps.zip us) fun _=>none) s1):
  Inv (mJ CX P w K mg base N g scope f B A d s H E) [] (start N vs) H s1:=by
 have F:ps.length<=N.length:=by have:=congrArg List.length S.pre;rw[aO]at this;lia
 obtain⟨h1,tk,rfl,C⟩:=x.done;have l:∀b:cN,b∉(mJ CX P w K mg base N g scope f B A d s H E).ex:=λb z=>absurd (show b∈([]:List cN)from z) (by simp);refine⟨⟨j.mod,S.kind,O,O,nR1 _,λy z c h1 h2=>?_,λy m=>?_,λy c _ h=>?_,λ_=>hd,Around.frames_deeper j.frames,.inr ⟨O,O⟩,λb z=>absurd z (l b),j.bs,j.bsz,λb _ _=>l b,λb z=>absurd z (l b),j.funs,j.frf⟩,
  rfl,j.bare,Un.kept C,⟨_,x.toInCall.ns,λi y v h1 h2 L=>?_⟩,λy c h=>⟨_,x.cell y c h⟩,j.hok.fresh (nR1 _),λy c h=>?_,λp o=>absurd (show p∈([]:List (cN×Obj))from o) (by simp),j.hok.kept C,?_⟩
 ·exact name_of_addr x.apart (PySem.mem_of_lookup h1) (PySem.mem_of_lookup h2)
 ·have m:scope.names.lookup y=Z .cell\/scope.names.lookup y=Z .free:=m;rcases m with m|m
  ·exact sJ m
  ·exact absurd O (S.nofree _ (PySem.mem_of_lookup m))
 ·exact Nat.le_of_lt (x.above y c (PySem.mem_of_lookup h))
 ·have hi:i<vs.length:=by
   unfold start at h2;by_cases hi:i<vs.length
   ·exact hi
   ·rw[gR1 (by simpa using hi)]at h2;rw[aP]at h2;split at h2<;>cases h2
  have G:vs[i]?=Z v:=by
   unfold start at h2;rw[gL1 (by simpa using hi),gP1]at h2;cases e:vs[i]? with
   |none=>rw[e]at h2;cases h2
   |some a=>rw[e]at h2;cases h2;rfl
  obtain⟨u,D,I⟩:=r.get G;have o:ps[i]?=Z y:=by
   rw[<- S.pre,aQ (by lia)];exact h1
  have t:ps.Nodup:=by rw[<- S.pre];exact S.nd.sublist (List.take_sublist _ _)
  refine⟨u,I,?_⟩;rcases S.par y (gM1 o)with k|k
  ·exact .inl ⟨k,pu t o D k⟩
  ·obtain⟨c,e⟩:=sJ (n:=s.heap.objs.size+1) k;refine .inr ⟨.inl k,c,e,?_⟩;have q:=x.cell y c e;rw[pw t o D (by show scope.names.lookup y≠_;rw[k];decide)]at q;exact q
 ·exact j.hok.fresh (Nat.le_of_lt (x.above y c (PySem.mem_of_lookup h)))
 ·unfold start;show _=N.length;rw[lA1,lM1,lR1];lia
theorem Ja{CX:xu}{P:cO}{w:cQ}{K:Fg1}{mg:Str->Option cK}{base:cW}{k:Nat}{f:cN}{name c:Str}{params:Arguments}{g:List cY}{scope:cZ}{T kV p L d ct wq:cK}{ao od:Option cN}{G:Array (Option cK)}{N ps:List Str}{sp:Sp}(X:K.lookup f=some ⟨wq,od,.func (wF1 name c params g scope T kV p L ao d ct),G⟩)(hcd:wC1 K d c=true)(S:gC N ps scope)(len:∀vs H Q E,sp vs H Q E->vs.length=ps.length)(i:∀(A:cP) (a:List Env) (s:cM) (H:Hp) (vs:List V) (Q:VK) (E:XK),ga k (A.deeper (envOfC c scope s.heap.objs.size f d))->sp vs H Q E ->
   ∃t,tq (mJ CX P w K mg base N c scope f d A a s H E) g t/\t {nx:=λ_ H'=>Q .non H',rt:=Q} (start N vs) H):
  lT P w K mg base CX (k+1) f (wF1 name c params g scope T kV p L ao d ct) ps sp:=by
 refine⟨len,λA a s H R U vs Q E D z hb r B=>?_⟩;have W:=len _ _ _ _ B;have ar:K.In s.heap:=z.mod.kin.keeps λb o e=>(z.bs b o e).1;have C:s.heap.NoLimit:=z.mod.nolimit.keeps λb o e=>(z.bs b o e).1;have j:∀y∈ps.zip U,scope.names.lookup y.1=Z .local\/(scope.names.lookup y.1=Z .cell/\((cellsFrom (s.heap.objs.size+1) scope.names []).lookup y.1).isSome=M):=λ⟨n,v⟩ hy=>by
  rcases S.par n (List.of_mem_zip hy).1 with q|q
  ·exact .inl q
  ·exact .inr ⟨q,PySem.W.cellsFrom_some _ _ _ (.inl q)⟩
 refine codeAny_call_function D.depth (ar _ _ X) O S.co S.gen O (PySem.W.codeRec_of ar hcd) (hb _ _ _ _ ?_);refine wpAny_newFunctionEnv_cells S.kind j λenv he s1 x=>?_;subst he;refine⟨C.keeps x.toInCall.keep,codeAny_func ?_⟩;obtain⟨t,ht,hq⟩:=i A a s H vs Q E (D.deeper _) B;have I:Inv (mJ CX P w K mg base N c scope f d A a s H E) [] (start N vs) H s1:=wK S D.hd z W r x;refine wpAny_mono (ht [] s1 (start N vs) H _ I hq) (λaq s' l=>?_) λe s' l=>l;have m:∀{h:St} {H':Hp} {v:V} {u:cK},Inv (mJ CX P w K mg base N c scope f d A a s H E) [] h H' s'->dD v u->Q v H'->CE a P w H s Q u s':=
  λ{h H' v u} am F q=>⟨v,H',am.os,am.bare,am.base,am.hok,F,q⟩
 cases aq with
 |ret u=>
  obtain⟨v,h,H',am,F,q⟩:=l;exact m am F q
 |next=>
  obtain⟨h,H',am,q⟩:=l;exact m (v:=V.non) (u:=Value.none) am O q
 |brk=>
  obtain⟨_,_,_,q⟩:=l;exact False.elim q
 |cont=>
  obtain⟨_,_,_,q⟩:=l;exact False.elim q
end L2
namespace L2
open PySem PySem.Spec PyProof.Rows
section
variable{X:Cx}{x:Str}{p pos:Pos}{e:Expr}{es:List Expr}{t:TA}{id T:String}{r:List V->Hp->VK->Prop}
def K7(r:List V->Hp->VK->Prop)(t:TA):TE:=fun σ H Q=>t σ H λvs H1=>r vs H1 Q
theorem kX (hc:eH X (.builtin id) r)(hg:Gl X x)(hm:X.mg x=none)(hv:bootBuiltins x=some (.builtin id))(ha:PA X (e::es) t)(hn:x≠"__name__":=by decide)(hdb:(x == ("__debug__":Str))=false:=by decide)
  (he:cS (e::es) X.env=(J,eval e X.env)::cS es X.env:=by rfl) (hpl:(backTo pos (cS es X.env)).any (·.1)=J:=by rfl):PE X (.Call (.Name x p) (e::es) [] pos) (K7 r t):=by
 intro ag s σ H Q I h;refine wpAny_Call_Name_kw (lG I hg hm hv ?_ hn hdb);exact PyProof.Rows.callWith_builtin1 (eN (ha pos ag s σ H _ I h) λb c ⟨vs,H1,d,a,f⟩=>hc ag c σ H1 vs b Q d a f) he hpl
theorem lz (hc:eH X (.type T) r)(hg:Gl X x)(hm:X.mg x=none)(hv:bootBuiltins x=some (.type T))(ha:PA X (e::es) t)(hn:x≠"__name__":=by decide)(hdb:(x == ("__debug__":Str))=false:=by decide)
  (he:cS (e::es) X.env=(J,eval e X.env)::cS es X.env:=by rfl) (hpl:(backTo pos (cS es X.env)).any (·.1)=J:=by rfl):PE X (.Call (.Name x p) (e::es) [] pos) (K7 r t):=by
 intro ag s σ H Q I h;refine wpAny_Call_Name_kw (lG I hg hm hv ?_ hn hdb);exact PyProof.Rows.callWith_type1 (eN (ha pos ag s σ H _ I h) λb c ⟨vs,H1,d,a,f⟩=>hc ag c σ H1 vs b Q d a f) he hpl
end
end L2
namespace HT
open PySem PyProof.Rows
section
open PySem.SeqAt
open PySem.AutoSeq1 (wpAny_loadPart')
open PySem.MeetsSeq PySem.MeetsSeq2 PySem.MeetsSeq3
end
section
variable{prog:cO}{w:cQ}{A:cP}{E:cK->cM->Prop}{s:cM}
theorem Di {t b:cN}{vs ws:List cK}{Q:cK->cM->Prop}(ht:IsTup s.heap t vs.toArray)(hb:IsTup s.heap b ws.toArray)(hv:vs≠[])
  (h1:ws=[]->Q (.ref t) s) (h2:ws≠[]->Q (.ref s.heap.objs.size) {s with heap:=s.heap.push {cls:=.type "tuple",data:=.seq (vs++ws).toArray}})
  (hsz:vs.length+ws.length<=cT):cU (model prog w) A (binaryOp .Add (.ref t) (.ref b)) Q E s:=by
 obtain⟨⟨cls,dd,data,sl⟩,i,hc,n,m⟩:=id ht;obtain⟨⟨l,c,j,g⟩,a,f,k,d⟩:=id hb;simp only at hc m f d;subst hc m f d;have e:vs.toArray++ws.toArray=(vs++ws).toArray:=by simp
 by_cases h:ws=[]
 ·exact concat_meets ⟨_,i,rfl⟩ ⟨_,a,rfl⟩ noFill_tuple_add seq_tuple_add PySem.F.slot_tuple_add PySem.F.entry_tuple_add (PySem.F.args_tuple_add_2 _ _)
   (tuple_addW1 t b vs.toArray ws.toArray n k dd c sl g (by simpa using hv) (by simp[h])) ⟨i,a,h1 h⟩
 ·refine concat_meets ⟨_,i,rfl⟩ ⟨_,a,rfl⟩ noFill_tuple_add seq_tuple_add PySem.F.slot_tuple_add PySem.F.entry_tuple_add (PySem.F.args_tuple_add_2 _ _)
   (tuple_addW2 t b vs.toArray ws.toArray n k dd c sl g (by simpa using hv) (by simpa using h) (by rw[aJ,aJ];exact hsz)) ⟨i,a,?_⟩
  rw[e];exact h2 h
def sIx(n d:Nat):Option Int->Nat
 |none=>d
 |some v=>if v<0 then(v+(n:Int)).toNat else min v.toNat n
theorem nj(n d:Nat):sIx n d Y=d:=rfl
theorem pP(n d k:Nat):sIx n d (Z (k:Int))=min k n:=by
 show(if(k:Int)<0 then((k:Int)+(n:Int)).toNat else min (k:Int).toNat n)=min k n;rw[aj (by lia),Int.toNat_natCast]
theorem ES(n d:Nat)(hd:d<=n)(o:Option Int):sIx n d o<=n:=by
 cases o with
 |none=>exact hd
 |some v=>
  show(if v<0 then(v+(n:Int)).toNat else min v.toNat n)<=n;by_cases a:v<0
  ·rw[ak a];lia
  ·rw[aj a];exact Nat.min_le_right _ _
theorem vX(v:Int)(n d:Nat):(if v<0 then max (v+(n:Int)) 0 else min v (n:Int))=((sIx n d (Z v):Nat):Int):=by
 show(if v<0 then max (v+(n:Int)) 0 else min v (n:Int))=(((if v<0 then(v+(n:Int)).toNat else min v.toNat n):Nat):Int);by_cases a:v<0
 ·simp only[ak a];lia
 ·simp only[aj a];lia
theorem uH(lo hi:Option Int)(n:Nat):Builtin.Slice.sliceAdjust lo hi 1 (n:Int)=(((sIx n 0 lo:Nat):Int),((sIx n n hi:Nat):Int)):=by
 have h1:¬ ((1:Int)<0):=by lia
 unfold Builtin.Slice.sliceAdjust;simp only[h1,if_false];refine Prod.ext ?_ ?_
 ·cases lo with
  |none=>rfl
  |some v=>exact vX v n 0
 ·cases hi with
  |none=>rfl
  |some v=>exact vX v n n
theorem tW(i j:Nat):Builtin.Slice.slicePlaces (i:Int) (j:Int) 1=j-i:=by
 unfold Builtin.Slice.slicePlaces;have h1:(1:Int)>0:=by lia
 simp only[h1,if_true,Int.ediv_one];split<;>lia
theorem hO{v:cK}{o:Option Int}{Q:Option Int->cM->Prop}(p:IsPart v o)(h:Q o s):cU (model prog w) A (Builtin.Slice.slicePartIndex v) Q E s:=by
 cases p with
 |none=>exact slicePart_none h
 |int i t=>exact slicePart_int h
theorem ix{sl:cN}{d c:cK}{lo hi:Option Int}{n:Nat}{Q:Int×Int×Nat->cM->Prop}(hs:s.heap.IsSliceOf sl d c .none)(pl:IsPart d lo)(e:IsPart c hi)(h:Q (((sIx n 0 lo:Nat):Int),1,sIx n n hi-sIx n 0 lo) s):cU (model prog w) A (Builtin.Slice.sliceApplied (.ref sl) (pure (n:Int))) Q E s:=by
 obtain⟨g,b,f,a⟩:=id hs;unfold Builtin.Slice.sliceApplied Builtin.Slice.sliceFields;refine wB1 (wB1 (wpAny_field b a (x:=d) O (wB1 (wpAny_field b a (x:=c) O (wB1 (wpAny_field b a (x:=.none) O (wP1 ?_)))))));refine wB1 (slicePart_none ?_);show cU _ _ (if((1:Int) == 0)=M then _ else _) _ _ s;rw[aj (by decide)];refine wB1 (hO pl (wB1 (hO e (wB1 (wP1 ?_)))));show cU _ _ (match Builtin.Slice.sliceAdjust lo hi 1 (n:Int)with|(lo,hi)=>pure (lo,(1:Int),Builtin.Slice.slicePlaces lo hi 1)) _ _ s;rw[uH lo hi n];show cU _ _ (pure (((sIx n 0 lo:Nat):Int),(1:Int),Builtin.Slice.slicePlaces ((sIx n 0 lo:Nat):Int) ((sIx n n hi:Nat):Int) 1)) _ _ s;rw[tW];exact wP1 h
theorem yD(xs:Array cK)(i k:Nat):((af k).filterMap λ(m:Nat)=>xs[((i:Int)+(m:Int)*1).toNat]?).toArray=((xs.toList.drop i).take k).toArray:=by
 have e:(λ(m:Nat)=>xs[((i:Int)+(m:Int)*1).toNat]?)=λm=>xs[i+m]?:=by
  funext m
  have:((i:Int)+(m:Int)*1).toNat=i+m:=by lia
  rw[this]
 rw[e];have:=pick_run xs i k;rw[aR]at this;have a:((λx=>xs[x]?)∘λx=>i+x)=λm=>xs[i+m]?:=rfl;rw[a]at this;rw[this]
theorem la {t sl:cN}{items:Array cK}{g f:cK}{lo hi:Option Int}{Q:cK->cM->Prop}(ht:IsTup s.heap t items)(hs:s.heap.IsSliceOf sl g f .none)(pl:IsPart g lo)(i:IsPart f hi)
  (hw:¬ (sIx items.size 0 lo=0/\sIx items.size items.size hi=items.size))
  (h:Q (.ref s.heap.objs.size) {s with heap:=s.heap.push {cls:=.type "tuple",data:=.seq ((items.toList.drop (sIx items.size 0 lo)).take (sIx items.size items.size hi-sIx items.size 0 lo)).toArray}})
  (hsz:items.size<=cT):cU (model prog w) A (getItem (.ref t) (.ref sl)) Q E s:=by
 have a:sizeOk (.seq ((items.toList.drop (sIx items.size 0 lo)).take (sIx items.size items.size hi-sIx items.size 0 lo)).toArray):=by
  show((items.toList.drop (sIx items.size 0 lo)).take (sIx items.size items.size hi-sIx items.size 0 lo)).toArray.size<=cT;rw[aJ,aO,aS,aH];omega
 have o:sIx items.size items.size hi<=items.size:=ES _ _ (nR1 _) hi;obtain⟨k,e,d,j⟩:=id hs;have c:s.TypeIs (.ref sl) "slice":=⟨k,e,d⟩;unfold getItem
 try with_reducible refine wpAny_holding ?_
 first|refine wB1 (wP1 ?_)|skip
 refine wB1 (wpAny_sequenceKey ht.typeIs (by decide) ?_);refine wB1 (wpAny_callSpecial?_slot (name:=Str.ofString "__getitem__") ht.typeIs PyProof.Rows.slot_tuple_getitem
  (wE1 PyProof.Rows.slot_tuple_getitem ht.typeIs entry_tuple_getitem ?_ (args_tuple_getitem _ _)))
 show cU _ _ (Builtin.Tuple.tupleItemsOf (.ref t) >>= _) _ _ s;refine wB1 (tupleItemsOf_ ht ?_);refine wB1 (wpAny_typeOf c ?_);rw[ak (by decide)];refine wB1 (ix hs pl i ?_);have b:¬ ((((sIx items.size 0 lo:Nat):Int) == 0&&(1:Int) == 1&&(sIx items.size items.size hi-sIx items.size 0 lo) == items.size)=M):=by
  intro q;rw[bA1,bA1]at q;have n:((sIx items.size 0 lo:Nat):Int)=0:=eq_of_beq q.1.1;have l:sIx items.size items.size hi-sIx items.size 0 lo=items.size:=eq_of_beq q.2;exact hw ⟨by omega,by omega⟩
 show cU _ _ (if(((sIx items.size 0 lo:Nat):Int) == 0&&(1:Int) == 1&&(sIx items.size items.size hi-sIx items.size 0 lo) == items.size)=M then _ else _) _ _ s;rw[aj b,yD]
 first
  |exact wB1 (m:=Builtin.Tuple.tupleExact _) (wO1 (wP1 ⟨_,rfl,wP1 h⟩) a)
  |exact wB1 (m:=Builtin.Tuple.tupleExact _) (wO1 (wB1 (wP1 (wP1 ⟨_,rfl,wP1 h⟩))) a)
  |exact wB1 (wB1 (m:=Builtin.Tuple.tupleExact _) (wO1 (wP1 (wP1 ⟨_,rfl,wP1 h⟩)) a))
  |exact wB1 (wB1 (m:=Builtin.Tuple.tupleExact _) (wO1 (wP1 ⟨_,rfl,wP1 h⟩) a))
end
end HT
namespace L2
open PySem PySem.Spec PyProof.Rows
abbrev TO:=St->Hp->(Option Int->Hp->Prop)->Prop
def PO(X:Cx)(e:Option Expr)(t:TO):Prop:=
 ∀(ag:List (cN×Obj)) (s:cM) (σ:St) (H:Hp) (Q:Option Int->Hp->Prop),Inv X ag σ H s->t σ H Q ->
  cU (model X.prog X.w) X.A (evalPart e X.env) (λu s'=>∃o H',Inv X ag σ H' s'/\IsPart u o/\Q o H') X.xe s
def Bo:TO:=λ_ H Q=>Q Y H
def HN(t:TE):TO:=fun σ H Q=>t σ H λx H1=>∃i,x = .int i/\Q (Z i) H1
section
variable{X:Cx}{e:Expr}{te:TE}{lo hi:Option Expr}{tl th:TO}{pos p2:Pos}
theorem BQ:PO X Y Bo:=by
 intro ag s σ H Q I h;rw[evalPart_none];exact wP1 ⟨Y,H,I,.none,h⟩
theorem BP(h:PE X e te):PO X (Z e) (HN te):=by
 intro ag s σ H Q I a;rw[evalPart_some];refine eN (h ag s σ H _ I a) λu f ⟨x,H1,c,b,d⟩=>?_;obtain⟨i,rfl,q⟩:=d;obtain⟨t,rfl⟩:=b;exact⟨Z i,H1,c,.int i t,q⟩
def A3(X:Cx)(r:V->Option Int->Option Int->Hp->VK->Prop):Prop:=
 ∀(ag:List (cN×Obj)) (s:cM) (σ:St) (H:Hp) (x:V) (v vl vu:cK) (lo hi:Option Int) (sl:cN) (Q:VK),Inv X ag σ H s->dD x v->s.heap.IsSliceOf sl vl vu .none->IsPart vl lo->IsPart vu hi->r x lo hi H Q ->
  ∃T id,typeLookup (.type T) "__getitem__"=pure (Z (.builtin id))/\s.TypeIs v T/\cU (model X.prog X.w) X.A (getItem v (.ref sl)) (EP X ag σ Q) X.xe s
theorem A3.or{r d:V->Option Int->Option Int->Hp->VK->Prop}(h:A3 X r)(h':A3 X d):A3 X (λx lo hi H Q=>r x lo hi H Q\/d x lo hi H Q):=by
 intro ag s σ H x v e b lo hi sl Q I c f pl a q;rcases q with q|q
 ·exact h ag s σ H x v e b lo hi sl Q I c f pl a q
 ·exact h' ag s σ H x v e b lo hi sl Q I c f pl a q
def Lq(r:V->Option Int->Option Int->Hp->VK->Prop)(te:TE)(tl th:TO):TE:=fun σ H Q=>te σ H λx H1=>tl σ H1 λl H2=>th σ H2 λu H3=>r x l u H3 Q
theorem yF{r:V->Option Int->Option Int->Hp->VK->Prop}(hr:A3 X r)(he:PE X e te)(k:PO X lo tl)(w:PO X hi th):PE X (.Subscript e (.Slice lo hi Y p2) pos) (Lq r te tl th):=by
 intro ag s σ H Q I h;refine Subscript_ (eN (he ag s σ H _ I h) λv B ⟨x,H1,y,n,C⟩=>?_);refine wpAny_Slice (eN (k ag B σ H1 _ y C) λc i ⟨l,H2,j,pl,g⟩=>eN (w ag i σ H2 _ j g) λd a ⟨u,f,z,m,t⟩=>?_);rw[evalPart_none];refine wP1 ?_;have o:Inv X ag σ f {a with heap:=a.heap.push {cls:=.type "slice",data:=.fields #[c,d,.none]}}:=z.kept (t':=a.toks) λb E q=>hP1 _ q;obtain⟨T,id,A,p,D⟩:=hr ag {a with heap:=a.heap.push {cls:=.type "slice",data:=.fields #[c,d,.none]}} σ f x v c d l u a.heap.objs.size Q o n (Heap.IsSliceOf.new ..) pl m t;show cU (model X.prog X.w) X.A (subscriptTail e (.Slice lo hi Y p2) v (.ref a.heap.objs.size)) (EP X ag σ Q) X.xe {a with heap:=a.heap.push {cls:=.type "slice",data:=.fields #[c,d,.none]}};exact tail_any (ops:=[.ref a.heap.objs.size,v]) p A D (by with_unfolding_all rfl)
def sH(xs:List V)(lo hi:Option Int):List V:=(xs.drop (HT.sIx xs.length 0 lo)).take (HT.sIx xs.length xs.length hi-HT.sIx xs.length 0 lo)
theorem mj(xs:List V)(lo hi:Option Int):(sH xs lo hi).length<=xs.length:=by
 unfold sH;rw[aO,aS];lia
def Kk(K:Fg1):V->Option Int->Option Int->Hp->VK->Prop:=λx lo hi H Q=>∃a xs,x = .ref a/\jW K H a xs /\
 ¬ (HT.sIx xs.length 0 lo=0/\HT.sIx xs.length xs.length hi=xs.length) /\ ∀p,H p=Y->Q (.ref p) (upd H p (.tup (sH xs lo hi)))
theorem EJ:A3 X (Kk X.K):=by
 intro ag s σ H x v n m lo hi sl Q I j l pl g h;obtain⟨a,xs,rfl,k,i,q⟩:=h;cases j;obtain⟨d,r,f,e⟩:=I.tuple k;have c:d.toArray.size=xs.length:=by rw[aJ];exact r.length.symm
 refine⟨"tuple",_,PyProof.Rows.slot_tuple_getitem.lookup,f.typeIs,?_⟩;refine HT.la f l pl g (by rw[c];exact i) ?_ (by rw[c];exact e);rw[c];refine⟨.ref s.heap.objs.size,_,I.laid (t':=s.toks) (o:=.tup (sH xs lo hi)) (λb p q=>hP1 _ q) (nR1 _) ?_,O,q _ (I.hok.fresh (nR1 _))⟩;exact⟨aB (mj xs lo hi) e,_,(r.drop (HT.sIx xs.length 0 lo)).take (HT.sIx xs.length xs.length hi-HT.sIx xs.length 0 lo),IsTup.new _ _⟩
def Ie(K:Fg1):R2:=λx y H Q=>∃a b xs ys,x = .ref a/\y = .ref b/\jW K H a xs/\jW K H b ys/\xs≠[]/\xs.length+ys.length<=cT /\
 (ys=[]->Q (.ref a) H)/\(ys≠[] -> ∀p,H p=Y->Q (.ref p) (upd H p (.tup (xs++ys))))
theorem dU.nil_iff{xs:List V}{us:List cK}(r:dU xs us):us=[]↔xs=[]:=by
 cases r with
 |nil=>simp
 |cons _ _=>simp
theorem B4:fJ X (binaryOp .Add) (Ie X.K):=by
 intro ag s σ H x y v u Q I g p h;obtain⟨a,b,xs,ys,rfl,rfl,l,k,j,d,n,f⟩:=h;cases g;cases p;obtain⟨i,c,m,_⟩:=I.tuple l;obtain⟨e,r2,p2,_⟩:=I.tuple k;refine HT.Di m p2 (λz=>j (c.nil_iff.mp z)) (λz=>⟨.ref a,H,I,O,n (r2.nil_iff.mp z)⟩) (λz=>?_) (by rw[<- c.length,<- r2.length];exact d);refine⟨.ref s.heap.objs.size,_,I.laid (t':=s.toks) (o:=.tup (xs++ys)) (λb r q=>hP1 _ q) (nR1 _) ?_,O,f (λw=>z (r2.nil_iff.mpr w)) _ (I.hok.fresh (nR1 _))⟩;exact⟨by rw[lA1];exact d,_,c.append r2,IsTup.new _ _⟩
end
end L2
namespace L2
open PySem PySem.Spec PyProof.Rows
def tj(n:Nat)(i:Int):Option Nat:=if 0<=i then(if i<n then Z i.toNat else Y)else if-(n:Int)<=i then Z (i+n).toNat else Y
def py{α:Type}(xs:List α)(i:Int):Option α:=(tj xs.length i).bind λj=>xs[j]?
theorem vB{n:Nat}{i:Int}{j:Nat}(h:tj n i=Z j):seqIndex? i n=Z j/\j<n /\ -(n:Int)<=i/\i<n:=by
 unfold tj at h;by_cases a:0<=i
 ·rw[ak a]at h;by_cases h1:i<n
  ·rw[ak h1]at h;have e:i.toNat=j:=Option.some.inj h;exact⟨by rw[seqIndex_of a h1,e],by lia,by lia,h1⟩
  ·rw[aj h1]at h;cases h
 ·rw[aj a]at h;by_cases h1: -(n:Int)<=i
  ·rw[ak h1]at h;have e:(i+n).toNat=j:=Option.some.inj h;exact⟨by rw[seqIndex_neg (by lia) h1,e],by lia,h1,by lia⟩
  ·rw[aj h1]at h;cases h
theorem v0{α:Type}{xs:List α}{i:Int}{v:α}(h:py xs i=Z v):∃j,seqIndex? i xs.length=Z j/\xs[j]?=Z v/\j<xs.length /\ -(xs.length:Int)<=i/\i<xs.length:=by
 unfold py at h;cases e:tj xs.length i with
 |none=>rw[e]at h;cases h
 |some j=>
  rw[e]at h;obtain⟨h1,h2,a,b⟩:=vB e;exact⟨j,h1,h,h2,a,b⟩
theorem Dq{α:Type}{xs:List α}{j:Nat}{v:α}(h:xs[j]?=Z v):py xs (j:Int)=Z v:=by
 have a:j<xs.length:=(gE1.mp h).1;have e:tj xs.length (j:Int)=Z j:=by
  unfold tj;rw[ak (by lia),ak (by lia)];simp
 unfold py;rw[e];exact h
theorem AM{α:Type}(xs:List α)(v:α):py (xs++[v]) (-1)=Z v:=by
 have a:(xs++[v]).length=xs.length+1:=by simp
 have e:tj (xs++[v]).length (-1)=Z xs.length:=by
  unfold tj;rw[a,aj (by decide),ak (by lia)]
  congr 1
  lia
 unfold py;rw[e];show(xs++[v])[xs.length]?=Z v;simp
def mY(b:Expr):Prop:=∀o i,subscripted b J o i=operate [o,i] (getItem o i)
def Ed(X:Cx)(r:R2):Prop:=
 ∀(value slice:Expr) (ag:List (cN×Obj)) (s:cM) (σ:St) (H:Hp) (x y:V) (v u:cK) (Q:VK),Inv X ag σ H s->dD x v->dD y u->r x y H Q ->
  subscripted slice J v u=operate [v,u] (getItem v u)->cU (model X.prog X.w) X.A (subscriptTail value slice v u) (EP X ag σ Q) X.xe s
def Hz(X:Cx)(id:String)(r:V->List V->Hp->VK->Prop):Prop:=
 ∀(ag:List (cN×Obj)) (s:cM) (σ:St) (H:Hp) (x:V) (xs:List V) (v:cK) (us:List cK) (Q:VK),Inv X ag σ H s->dD x v->dU xs us->r x xs H Q ->
  cU (model X.prog X.w) X.A (call (.builtin id) (v::us)) (EP X ag σ Q) X.xe s
section
variable{X:Cx}{a b:Expr}{ta tb:TE}{pos:Pos}
theorem Io{r:R2}(hr:Ed X r)(ha:PE X a ta)(hb:PE X b tb)(hs:mY b):PE X (.Subscript a b pos) (HP r ta tb):=by
 intro ag s σ H Q I h;exact Subscript_ (He ha hb I h λv u e x y H2 d c f q=>hr a b ag e σ H2 x y v u Q d c f q (hs _ _))
def Ko(K:Fg1):R2:=λx y H Q=>∃p xs i v,x = .ref p/\y = .int i/\lp K H p xs/\py xs i=Z v/\Q v H
def Kn(K:Fg1):R2:=λx y H Q=>∃p xs i v,x = .ref p/\y = .int i/\jW K H p xs/\py xs i=Z v/\Q v H
theorem CI:Ed X (Ko X.K):=by
 intro value c ag s σ H x y v u Q I l A h g;obtain⟨p,xs,i,z,rfl,rfl,C,B,q⟩:=h;cases l;obtain⟨t,rfl⟩:=A;obtain⟨b,r,pl,D⟩:=I.list C;obtain⟨j,h1,h2,F,o,n⟩:=v0 B;obtain⟨w,f,d⟩:=r.get h2;have m:=r.length;have E:=lF;have a:EP X ag σ Q w s:=⟨z,H,I,d,q⟩;by_cases k:0<=i
 ·have e:i.toNat=j:=by
   rw[seqIndex_of k n]at h1;exact Option.some.inj h1
  exact item_listR pl.isList k (by lia) (by rw[e];simpa using f) a g
 ·have e:(i+(b.toArray.size:Int)).toNat=j:=by
   rw[seqIndex_neg (by lia) o]at h1;rw[aJ,<- m];exact Option.some.inj h1
  exact subscriptTail_builtinR (x:=w) pl.isList.typeIs slot_list_getitem.lookup
   (wpAny_getItem_list_neg (Q:=λr s'=>r=w/\EP X ag σ Q r s') pl.isList (by lia) (by rw[aJ]<;>lia) (by lia) (by rw[e];simpa using f) ⟨O,a⟩) g
theorem ix_tup:Ed X (Kn X.K):=by
 intro value b ag s σ H x y v u Q I e n h l;obtain⟨p,xs,i,z,rfl,rfl,k,m,q⟩:=h;cases e;obtain⟨t,rfl⟩:=n;obtain⟨f,r,pl,o⟩:=I.tuple k;obtain⟨j,h1,h2,D,B,A⟩:=v0 m;obtain⟨w,d,c⟩:=r.get h2;have g:=r.length;have C:=lF;have a:EP X ag σ Q w s:=⟨z,H,I,c,q⟩;exact subscriptTail_builtinR (x:=w) pl.typeIs slot_tuple_getitem.lookup
  (getItem_tuple (j:=j) (Q:=λr s'=>r=w/\EP X ag σ Q r s') pl (by lia) (by lia) (by rw[aJ,<- g];exact h1) (by simpa using d) ⟨O,a⟩) l
theorem uh(its:List cK)(n j:Nat)(u:cK):Obj.mapSeq (·.setIfInBounds j u) {cls:=.type "list",data:=.seq its.toArray n}={cls:=.type "list",data:=.seq (its.set j u).toArray n}:=by
 simp[Obj.mapSeq]
theorem Inv.lst{ag:List (cN×Obj)}{σ:St}{H:Hp}{s:cM}{p:cN}{xs:List V}(I:Inv X ag σ H s)(h:H p=some (.lst xs)):
  ∃(its:List cK) (n:Nat),dU xs its/\s.heap.get? p=Z {cls:=.type "list",data:=.seq its.toArray n}/\xs.length<=cT:=by
 obtain⟨z,its,n,r,e⟩:=I.hok p _ h;exact⟨its,n,r,e,z⟩
theorem Inv.lstUpd {ag:List (cN×Obj)}{σ:St}{H:Hp}{s:cM}{p:cN}{xs ys:List V}{its its':List cK}{n n':Nat}{f:Obj->Obj}(I:Inv X ag σ H s)(h:H p=some (.lst xs))
  (ho:s.heap.get? p=Z {cls:=.type "list",data:=.seq its.toArray n}) (hf:f {cls:=.type "list",data:=.seq its.toArray n}={cls:=.type "list",data:=.seq its'.toArray n'}) (r:dU ys its') (hz:ys.length<=cT) (t:Nat):
  Inv X ag σ (upd H p (.lst ys)) {s with heap:=s.heap.update p f,toks:=t}:=by
 have e:(s.heap.update p f).get? p=Z {cls:=.type "list",data:=.seq its'.toArray n'}:=by
  rw[hW1 f ho (by rw[hf]<;>rfl),hf]
 refine I.write (x:=p) (e:=p) (by rw[h];trivial) (.inl O) (λb u a q=>(Heap.get?_update_other _ _ (Ne.symm a)).trans q) ⟨_,e⟩ ?_;exact⟨hz,its',n',r,e⟩
def Ic:V->V->V->Hp->(Hp->Prop)->Prop:=λo i v H Q=>∃p xs k j,o = .ref p/\i = .int k/\H p=Z (.lst xs)/\tj xs.length k=Z j/\Q (upd H p (.lst (xs.set j v)))
theorem yc:uK X Ic:=by
 intro ag s σ H o i v B D u Q I y A x h;obtain⟨p,xs,k,j,rfl,rfl,e,z,q⟩:=h;cases y;obtain⟨t,rfl⟩:=A;obtain⟨a,n,r,d,w⟩:=I.lst e;obtain⟨h1,h2,l,f⟩:=vB z;have c:=r.length;have C:=lF;have g:Inv X ag σ (upd H p (.lst (xs.set j v))) {s with heap:=s.heap.update p (Obj.mapSeq (·.setIfInBounds j u))}:=
  I.lstUpd e d (uh a n j u) (r.set x j) (by rw[aT];exact w) s.toks
 by_cases m:0<=k
 ·have b:k.toNat=j:=by
   rw[seqIndex_of m f]at h1;exact Option.some.inj h1
  exact PySem.W.ki_setAt d m (by lia) (by rw[aJ,<- c];exact f) (by rw[b];exact⟨_,g,q⟩)
 ·have b:(k+(a.toArray.size:Int)).toNat=j:=by
   rw[seqIndex_neg (by lia) l]at h1;rw[aJ,<- c];exact Option.some.inj h1
  exact PySem.W.ki_setBack d (by lia) (by rw[aJ,<- c];exact l) (by lia) (by rw[b];exact⟨_,g,q⟩)
theorem pL(lo hi:Option Int)(n:Nat):(sliceBounds lo hi Y n).1=((HT.sIx n 0 lo:Nat):Int)/\(sliceBounds lo hi Y n).2.1=((HT.sIx n n hi:Nat):Int)/\(sliceBounds lo hi Y n).2.2=1:=by
 refine⟨?_,?_,O⟩
 ·cases lo with
  |none=>simp[sliceBounds,HT.sIx]
  |some i=>
   simp only[sliceBounds,HT.sIx,Option.getD_none,show(1:Int)>0 by decide,if_true];by_cases h:i<0
   ·simp only[h,if_true]<;>lia
   ·simp only[h,if_false]<;>lia
 ·cases hi with
  |none=>simp[sliceBounds,HT.sIx]
  |some i=>
   simp only[sliceBounds,HT.sIx,Option.getD_none,show(1:Int)>0 by decide,if_true];by_cases h:i<0
   ·simp only[h,if_true]<;>lia
   ·simp only[h,if_false]<;>lia
theorem ox(its:List cK)(lo hi:Option Int):slicePick its.toArray lo hi Y=((its.drop (HT.sIx its.length 0 lo)).take (HT.sIx its.length its.length hi-HT.sIx its.length 0 lo)).toArray:=by
 obtain⟨h1,h2,a⟩:=pL lo hi its.toArray.size;unfold slicePick;rw[h1,h2,a];simp only[sliceRange_one,pick_run,aJ]<;>rfl
def Kl(K:Fg1):V->Option Int->Option Int->Hp->VK->Prop:=λx lo hi H Q=>∃a xs,x = .ref a/\lp K H a xs /\ ∀p,H p=Y->Q (.ref p) (upd H p (.lst (sH xs lo hi)))
theorem Bu:A3 X (Kl X.K):=by
 intro ag s σ H x v m l lo hi sl Q I f k pl e h;obtain⟨a,xs,rfl,j,q⟩:=h;cases f;obtain⟨g,r,d,i⟩:=I.list j;have c:=r.length;refine⟨"list",_,slot_list_getitem.lookup,d.isList.typeIs,?_⟩;refine wpAny_getItem_list_slice d.isList k pl e .none (by simp) ?_ (by rw[aJ]<;>lia);rw[ox,<- c];refine⟨.ref s.heap.objs.size,_,I.laid (t':=s.toks) (o:=.lst (sH xs lo hi)) (λb n q=>hP1 _ q) (nR1 _) ?_,O,q _ (I.hok.fresh (nR1 _))⟩;exact⟨aB (mj xs lo hi) i,_,0,(r.drop (HT.sIx xs.length 0 lo)).take (HT.sIx xs.length xs.length hi-HT.sIx xs.length 0 lo),hS1 _ O⟩
def je:V->Bool
 | .non=>M
 | .bl _=>M
 | .int _=>M
 | .str _=>M
 |_=>J
def tm:V->V->Bool
 | .non,.non=>M
 | .bl a,.bl b=>a == b
 | .bl a,.int b=>(if a then 1 else 0) == b
 | .int a,.bl b=>a == (if b then 1 else 0)
 | .int a,.int b=>a == b
 | .str a,.str b=>a == b
 |_,_=>J
theorem kA{A:cP}{s:cM}{y x:V}{u v:cK}(f:dD y u)(c:dD x v)(g:je y=M)(e:je x=M):SeqAt.EqAt A s u v (tm y x):=by
 cases y with
 |non=>
  cases f;cases x with
  |non=>cases c;exact SeqAt.EqAt.same _
  |bl b=>cases c;exact SeqAt.EqAt.none_bool b
  |int b=>obtain⟨t,rfl⟩:=c;exact SeqAt.EqAt.none_int b t
  |str b=>obtain⟨t,rfl⟩:=c;exact SeqAt.EqAt.none_str b t
  |_=>exact absurd (show J=M from e) aI
 |bl a=>
  cases f;cases x with
  |non=>cases c;exact SeqAt.EqAt.bool_none a
  |bl b=>cases c;exact SeqAt.EqAt.bool_bool a b
  |int b=>obtain⟨t,rfl⟩:=c;exact SeqAt.EqAt.bool_int a b t
  |str b=>obtain⟨t,rfl⟩:=c;exact SeqAt.EqAt.bool_str a b t
  |_=>exact absurd (show J=M from e) aI
 |int a=>
  obtain⟨d,rfl⟩:=f;cases x with
  |non=>cases c;exact SeqAt.EqAt.int_none a d
  |bl b=>cases c;exact SeqAt.EqAt.int_bool a d b
  |int b=>obtain⟨t,rfl⟩:=c;exact SeqAt.EqAt.int_int a d b t
  |str b=>obtain⟨t,rfl⟩:=c;exact SeqAt.EqAt.int_str a d b t
  |_=>exact absurd (show J=M from e) aI
 |str a=>
  obtain⟨d,rfl⟩:=f;cases x with
  |non=>cases c;exact SeqAt.EqAt.str_none a d
  |bl b=>cases c;exact SeqAt.EqAt.str_bool a d b
  |int b=>obtain⟨t,rfl⟩:=c;exact SeqAt.EqAt.str_int a d b t
  |str b=>obtain⟨t,rfl⟩:=c;exact SeqAt.EqAt.str_str a d b t
  |_=>exact absurd (show J=M from e) aI
 |_=>exact absurd (show J=M from g) aI
theorem qy:eH X (.builtin "len") (λxs H Q=>∃p ys,xs=[.ref p]/\(lp X.K H p ys\/jW X.K H p ys)/\Q (.int ys.length) H):=by
 intro ag s σ H xs g Q I r h;obtain⟨p,ys,rfl,b,q⟩:=h;obtain⟨u,rfl,e⟩:=hI r;cases e;have i:=lF;rcases b with b|b
 ·obtain⟨c,d,pl,f⟩:=I.list b;have a:=d.length;exact Calls.call_len_list pl.isList (by simp only[aJ]<;>lia) ⟨.int ys.length,H,I.tok _,⟨s.toks+1,by rw[aJ,a]⟩,q⟩
 ·obtain⟨c,d,pl,f⟩:=I.tuple b;have a:=d.length;exact len_tuple pl (by simp only[aJ]<;>lia) ⟨.int ys.length,H,I.tok _,⟨s.toks+1,by rw[aJ,a]⟩,q⟩
theorem qx:eH X (.builtin "len") (λxs H Q=>∃z,xs=[.str z]/\z.length<=cT/\Q (.int z.length) H):=by
 intro ag s σ H xs c Q I r h;obtain⟨z,rfl,b,q⟩:=h;obtain⟨u,rfl,t,rfl⟩:=hI r;have a:=lF;exact len_str (by lia) ⟨.int z.length,H,I.tok _,⟨_,O⟩,q⟩
theorem qw:eH X (.type "list") (λxs H Q=>∃p ys,xs=[.ref p]/\(lp X.K H p ys\/jW X.K H p ys) /\ ∀l,H l=Y->Q (.ref l) (upd H l (.lst ys))):=by
 intro ag s σ H xs w Q I r h;obtain ⟨p,ys,rfl,k,q⟩:=h;obtain ⟨u,rfl,v⟩:=hI r;cases v;have f:∀ (a:List cK),dU ys a->ys.length<=cT -> ∀ (h':cW) (c:Nat),(∀ b o',s.heap.get? b=some o'->h'.get? b=some o') ->
   h'.get? s.heap.objs.size=Z {cls:=.type "list",dict:=Y,data:=.seq a.toArray c,slots:= #[]}->EP X ag σ Q (.ref s.heap.objs.size) {s with heap:=h'}:=λa d j h' c g e=>
  ⟨.ref s.heap.objs.size,_,I.laid (t':=s.toks) g (nR1 _) (show ez X.prog X.w _ h' _ (.lst ys)from⟨j,a,c,d,e⟩),O,q _ (I.hok.fresh (nR1 _))⟩
 rcases k with k|k
 ·obtain⟨a,d,pl,j⟩:=I.list k;have i:=d.length;obtain⟨o,t,hc,n,m⟩:=pl.isList;exact call_list_seq p (.inl O) t hc m (λh' c g e=>f a d j h' c g e) (by simp only[aJ]<;>lia)
 ·obtain⟨a,d,pl,j⟩:=I.tuple k;have i:=d.length;obtain⟨o,t,hc,n,m⟩:=pl;exact call_list_seq p (.inr O) t hc m (λh' c g e=>f a d j h' c g e) (by simp only[aJ]<;>lia)
theorem oG:eH X (.type "tuple") (λxs H Q=>∃p ys,xs=[.ref p]/\((lp X.K H p ys /\ ∀l,H l=Y->Q (.ref l) (upd H l (.tup ys)))\/(jW X.K H p ys/\Q (.ref p) H))):=by
 intro ag s σ H xs n Q I r h;obtain⟨p,ys,rfl,h⟩:=h;obtain⟨u,rfl,k⟩:=hI r;cases k;rcases h with⟨d,q⟩|⟨d,q⟩
 ·obtain ⟨a,c,pl,g⟩:=I.list d;have f:=c.length;refine call_tuple_list pl.isList (fun h' j=>?_) (by simp only [aJ]<;>lia);have i:Inv X ag σ H {s with heap:=h'}:=I.kept (t':=s.toks) j;have m:Inv X ag σ (upd H h'.objs.size (.tup ys)) {s with heap:=h'.push {cls:=.type "tuple",data:=.seq a.toArray}}:=
   i.laid (t':=s.toks) (λb o e=>hP1 _ e) (nR1 _) (show ez X.prog X.w _ _ _ (.tup ys)from⟨g,a,c,IsTup.new _ _⟩)
  exact⟨.ref h'.objs.size,_,m,O,q _ (i.hok.fresh (nR1 _))⟩
 ·obtain⟨a,c,pl,g⟩:=I.tuple d;exact call_tuple_same pl ⟨.ref p,H,I,O,q⟩
def K4(K:Fg1)(T:String)(x:V)(H:Hp):Prop:=match x with
 | .str _=>T="str"
 | .int _=>T="int"
 | .ref p=>(T="list" /\ ∃ xs,lp K H p xs)\/(T="tuple" /\ ∃ o,K.lookup p=some o/\o.cls = .type "tuple"/\o.dict=none) \/
   (T="dict"/\((∃kvs,H p=Z (.dK kvs)) \/ ∃kvs,H p=Z (.dT kvs)))\/(T="set" /\ ∃S n,H p=Z (.set S n))
 |_=>False
theorem Es{ag:List (cN×Obj)}{σ:St}{H:Hp}{s:cM}{T:String}{x:V}{v:cK}(I:Inv X ag σ H s)(r:dD x v)(ty:K4 X.K T x H):
  s.TypeIs v T /\ ∀a,v = .ref a -> ∃g,s.heap.get? a=Z g/\g.dict=Y:=by
 cases x with
 |str z=>
  obtain⟨t,rfl⟩:=r;cases(show T="str" from ty);exact⟨typeIs_str s z t,λ_ e=>nomatch e⟩
 |int i=>
  obtain⟨t,rfl⟩:=r;cases(show T="int" from ty);exact⟨typeIs_int s i t,λ_ e=>nomatch e⟩
 |ref p=>
  cases r;rcases ty with⟨rfl,xs,j⟩|⟨rfl,o,b,hc,f⟩|⟨rfl,b⟩|⟨rfl,S,n,b⟩
  ·obtain⟨h,_,pl,_⟩:=I.list j;refine⟨pl.isList.typeIs,λa e=>?_⟩;cases e;obtain⟨o,n,e,c,f,_⟩:=pl;exact⟨o,e,f⟩
  ·refine⟨⟨o,I.kIn p o b,hc⟩,λa e=>?_⟩;cases e;exact⟨o,I.kIn _ o b,f⟩
  ·have z:∃ o,s.heap.get? p=some o/\o.ExactDict:=by
    rcases b with⟨kvs,b⟩|⟨kvs,b⟩
    ·obtain⟨_,_,_,_,o,_,_,e,ex,_⟩:=I.hok p _ b;exact⟨o,e,ex⟩
    ·obtain⟨_,_,_,_,o,_,_,e,ex,_⟩:=I.hok p _ b;exact⟨o,e,ex⟩
   obtain⟨o,e,ex⟩:=z;refine⟨⟨o,e,ex.1⟩,λa d=>?_⟩;cases d;exact⟨o,e,ex.2.1⟩
  ·obtain⟨o,_,_,_,e,ex,_⟩:=I.hok p _ b;refine⟨⟨o,e,ex.1⟩,λa d=>?_⟩;cases d;exact⟨o,e,ex.2.1⟩
 |_=>exact False.elim ty
def Lv(K:Fg1)(T:String)(r:V->List V->Hp->VK->Prop)(to:TE)(t:TA):TE:=fun σ H Q=>to σ H λx H1=>K4 K T x H1/\t σ H1 λxs H2=>r x xs H2 Q
variable{o e:Expr}{es:List Expr}{to:TE}{t:TA}{name:Str}{apos cpos:Pos}{T id:String}{r:V->List V->Hp->VK->Prop}
theorem Ip (g:PlainAttrs T)(slot:Slot T name id)(hty:typeOf (.builtin id)=pure (.type "method_descriptor"))(hm:Hz X id r)(ho:PE X o to)(ha:PA X (e::es) t)
  (hbase:attributeBase o name X.env (eval o X.env)=eval o X.env:=by rfl)
  (hfew:((backTo cpos (cS (e::es) X.env)).all (λx=> !x.1)&&(backToKw cpos (keywordEach [] X.env)).all (λx=>x.1.isSome)
   && decide ((e::es).length+([]:List Keyword).length+(if([]:List Keyword).isEmpty then 0 else 1)<30))=M:=by rfl)
  (hline:(apos.endLine == cpos.line)=M:=by rfl) (hs:cS (e::es) X.env=(J,eval e X.env)::cS es X.env:=by rfl) (hplain:(backTo cpos (cS es X.env)).any (·.1)=J:=by rfl):
  PE X (.Call (.Attribute o name apos) (e::es) [] cpos) (Lv X.K T r to t):=by
 intro ag s σ H Q I h;refine wpAny_Call_method_late hbase hfew hline O (eN (ho ag s σ H _ I h) λv k ⟨x,H1,c,b,ty,l⟩=>?_);obtain⟨h1,h2⟩:=Es c b ty;refine⟨T,id,g,slot,hty,h1,h2,?_⟩;have a:=ha cpos ag k σ H1 _ c l;rw[hs]at a ⊢;refine Calls.callWith_builtin (by show(J||(backTo cpos (cS es X.env)).any (·.1))=J;rw[hplain]<;>rfl) (Calls.evalArgs_plain ?_);exact eN a λj f ⟨vs,H2,i,r2,d⟩=>hm ag f σ H2 x vs v j Q i b r2 d
end
end L2
namespace L2
open PySem PySem.Spec PyProof.Rows
def Lh(X:Cx)(id:String)(r:V->List V->Hp->VK->Prop):Prop:=
 ∀(ag:List (cN×Obj)) (s:cM) (σ:St) (H:Hp) (x:V) (xs:List V) (v:cK) (us:List cK) (Q:VK),Inv X ag σ H s->dD x v->dU xs us->r x xs H Q ->
  cU (model X.prog X.w) X.A (call (.builtin id) (v::us)) (EP X ag σ Q) X.xe s
theorem dU.one:∀{x:V} {us:List cK},dU [x] us -> ∃u,us=[u]/\dD x u:=by
 intro x us h;cases h with
 |cons r t=>cases t;exact⟨_,O,r⟩
theorem dU.two:∀{x y:V} {us:List cK},dU [x,y] us -> ∃u v,us=[u,v]/\dD x u/\dD y v:=by
 intro x y us h;cases h with
 |cons r t=>obtain⟨v,rfl,q⟩:=dU.one t;exact⟨_,_,O,r,q⟩
theorem dU.rep{xs:List V}{us:List cK}(h:dU xs us):∀k:Nat,dU (aM k xs).flatten (aM k us).flatten
 |0=>.nil
 |k+1=>by
  rw[aU,aU,aV,aV];exact dU.append h (dU.rep h k)
theorem pc(its:List cK):∀ (k:Nat) (acc:List cK),
  List.foldl (λb x2=>b++x2) acc.toArray (aM k its.toArray)=(acc++(aM k its).flatten).toArray
 |0,acc=>by simp
 |k+1,acc=>by
  have e:acc.toArray++its.toArray=(acc++its).toArray:=by simp
  have a:(acc++its)++(aM k its).flatten=acc++(aM (k+1) its).flatten:=by
   rw[aU,aV,aW]
  rw[<- a,<- pc its k (acc++its),<- e,aU,aX]
section
variable{X:Cx}{ag:List (cN×Obj)}{σ:St}{H:Hp}{s:cM}{l b:cN}{xs ys zs:List V}
theorem Inv.lset {its its':List cK}{n:Nat}{f:Array cK->Array cK}{t':Nat}(I:Inv X ag σ H s)(a:H l=some (.lst xs))
  (e:s.heap.get? l=Z {cls:=.type "list",data:=.seq its.toArray n}) (hf:f its.toArray=its'.toArray) (hv:dU ys its') (hz:ys.length<=cT):
  Inv X ag σ (upd H l (.lst ys)) {s with heap:=s.heap.update l (Obj.mapSeq f),toks:=t'}:=by
 have q:=PySem.IsL.update e f;rw[hf]at q;refine I.write (x:=l) (e:=l) (by rw[a];exact trivial) (.inl O) (λd u b c=>(Heap.get?_update_other s.heap (Obj.mapSeq f) (Ne.symm b)).trans c) ⟨_,q⟩ ?_;exact⟨hz,its',_,hv,q⟩
theorem Inv.lnew{its:List cK}{t':Nat}(I:Inv X ag σ H s)(hv:dU ys its)(hz:ys.length<=cT):
  Inv X ag σ (upd H s.heap.objs.size (.lst ys)) {s with heap:=s.heap.push {cls:=.type "list",data:=.seq its.toArray},toks:=t'}:=
 I.laid (λ_ _ q=>hP1 _ q) (nR1 _) ⟨hz,its,0,hv,hS1 _ O⟩
theorem Inv.fresh(I:Inv X ag σ H s):H s.heap.objs.size=Y:=I.hok.fresh (nR1 _)
theorem Inv.lstM(I:Inv X ag σ H s)(a:H l=Z (.lst xs)):xs.length<=cT /\ ∃(its:List cK) (n:Nat),dU xs its/\xs.length=its.length/\s.heap.get? l=Z {cls:=.type "list",data:=.seq its.toArray n}:=by
 obtain⟨z,its,n,r,e⟩:=I.hok l _ a;exact⟨z,its,n,r,r.length,e⟩
theorem rV{n:Nat}(h:n<=cT):Builtin.List.listTooLong n=J:=by
 unfold Builtin.List.listTooLong;exact ai (by lia)
end
section
variable{X:Cx}
def BC:V->List V->Hp->VK->Prop:=λx vs H Q=>∃l xs y,x = .ref l/\vs=[y]/\H l=Z (.lst xs)/\xs.length<cT/\Q .non (upd H l (.lst (xs++[y])))
theorem oS:Lh X "list.append" BC:=by
 intro ag s σ H x vs v i Q I c d h;obtain⟨l,xs,y,rfl,rfl,b,g,q⟩:=h;cases c;obtain⟨u,rfl,f⟩:=d.one;obtain⟨z,a,n,r,j,e⟩:=I.lstM b;refine call_meets F.slot_list_append ⟨_,e,O⟩ F.entry_list_append (F.args_list_append_2 _ _) (PySem.list_append l a.toArray n u (by rw[aJ];lia)) ⟨e,?_⟩;refine⟨.non,_,I.lset (its':=a++[u]) b e (by simp) (r.append (.cons f .nil)) ?_,O,q⟩;rw[lA1,aY];lia
def BB:V->List V->Hp->VK->Prop:=λx vs H Q=>∃l b xs zs,x = .ref l/\vs=[.ref b]/\H l=Z (.lst xs)/\H b=Z (.lst zs)/\xs.length+zs.length<=cT/\Q .non (upd H l (.lst (xs++zs)))
theorem wB:Lh X "list.extend" BB:=by
 intro ag s σ H x vs v A Q I k m h;obtain⟨l,b,xs,zs,rfl,rfl,g,j,y,q⟩:=h;cases k;obtain⟨u,rfl,t⟩:=m.one;cases t;obtain⟨z,c,n,r,B,e⟩:=I.lstM g;obtain⟨w,a,p,r2,i,o⟩:=I.lstM j;have f:c.toArray.size+a.toArray.size<=cT:=by rw[aJ,aJ];lia
 have d:¬ (!c.toArray.isEmpty&&Builtin.List.listTooLong (c.toArray.size+a.toArray.size))=M:=by
  rw[rV f,aZ];exact aI
 refine call_meets F.slot_list_extend ⟨_,e,O⟩ F.entry_list_extend (F.args_list_extend_2 _ _)
  (AutoSeq1.list_extend_list_list_0 l c.toArray n b a.toArray p d (by rw[aJ];lia) (by lia)) ⟨e,o,?_⟩
 refine⟨.non,_,I.lset (its':=c++a) g e (by simp) (r.append r2) ?_,O,q⟩;rw[lA1];lia
def Kp:R2:=λx y H Q=>∃l b xs zs,x = .ref l/\y = .ref b/\H l=Z (.lst xs)/\H b=Z (.lst zs)/\xs.length+zs.length<=cT /\ ∀p,H p=Y->Q (.ref p) (upd H p (.lst (xs++zs)))
theorem FH:fJ X (binaryOp .Add) Kp:=by
 intro ag s σ H x y v u Q I i m h;obtain⟨l,b,xs,zs,rfl,rfl,f,g,p,q⟩:=h;cases i;cases m;obtain⟨z,c,n,r,t,e⟩:=I.lstM f;obtain⟨o,a,w,r2,d,j⟩:=I.lstM g;refine PySem.P.add_list e j ?_ (by rw[aJ,aJ];lia);have k:c.toArray++a.toArray=(c++a).toArray:=by simp
 rw[k];exact⟨.ref _,_,I.lnew (t':=s.toks) (r.append r2) (by rw[lA1];lia),O,q _ I.fresh⟩
def Km:R2:=λx y H Q=>∃l k xs,x = .ref l/\y = .int k/\H l=Z (.lst xs) /\ -(2^63)<=k/\k<2^63/\xs.length*k.toNat<=cT /\
 ∀p,H p=Y->Q (.ref p) (upd H p (.lst (aM k.toNat xs).flatten))
theorem vx{α:Type}(xs:List α)(k:Nat):(aM k xs).flatten.length=k*xs.length:=by
 induction k with
 |zero=>simp
 |succ k ih=>rw[aU,aV,lA1,ih,Nat.succ_mul,Nat.add_comm]
theorem FB:fJ X (binaryOp .Mult) Km:=by
 intro ag s σ H x y v u Q I w C h;obtain⟨l,k,xs,rfl,rfl,p,h1,h2,o,q⟩:=h;cases w;obtain⟨t,rfl⟩:=C;obtain⟨z,b,n,r,A,e⟩:=I.lstM p;have f:b.toArray.size*k.toNat<=cT:=by rw[aJ,<- A];exact o
 have g:¬ b.toArray.size*k.toNat>(2^63-1)/8:=by
  have:(cT:Nat)<=(2^63-1)/8:=by decide
  lia
 have d:¬ (!Builtin.List.listFitsIndex k)=M:=by
  rw[fitsIndex_both h1 h2];exact aI
 have c:¬ Builtin.List.listTooLong (b.toArray.size*k.toNat)=M:=by
  rw[rV f];exact aI
 have i:List.foldl (λj x2=>j++x2) #[] (aM (if b.toArray.isEmpty=M then 0 else k.toNat) b.toArray)=(aM k.toNat b).flatten.toArray:=by
  have B:∀m:Nat,List.foldl (λj x2=>j++x2) #[] (aM m b.toArray)=(aM m b).flatten.toArray:=λm=>by
   have:=pc b m [];rw[a0]at this;exact this
  rw[B];cases b with
  |nil=>simp
  |cons a D=>rw[aj (by simp)]
 refine wpAny_binaryOp_repeat_ref (T:="list") (U:="int") (by decide) ⟨_,e,O⟩ (λs'=>typeIs_int s' k t) noFill_list_mul F.fills_int_mul F.slot_int_rmul repeat_list F.slot_int_index.lookup
  (call_meets F.slot_int_rmul (typeIs_int s k t) F.entry_int_rmul (F.args_int_rmul_2 _ _) (int___rmul___int_list k t l b.toArray n)
   ⟨e,O,⟨_,e,O⟩,call_meets F.slot_list_mul ⟨_,e,O⟩ F.entry_list_mul (F.args_list_mul_2 _ _) (AutoListH.list___mul___list_int_3 l b.toArray n k t d g c) ⟨e,?_⟩⟩)
 rw[i];exact⟨.ref _,_,I.lnew (t':=s.toks) (r.rep k.toNat) (by rw[vx,Nat.mul_comm];exact o),O,q _ I.fresh⟩
end
section
variable{prog:cO}{w:cQ}{A:cP}{E:cK->cM->Prop}{s:cM}
end
section
variable{X:Cx}
end
end L2
namespace Att
open PySem PySem.W PySem.Calls PyProof.Rows
theorem mG{P:Params}{h:cW}:∀(ns:List Int) (vs:List cK),WellAll P h vs (ns.map WData.int)->IntsAre vs ns:=by
 intro ns
 induction ns with
 |nil=>
  intro vs w;rw[ba]at w;cases w;exact .nil
 |cons n ns ih=>
  intro vs w;rw[mP1]at w;cases w with
  |cons a b=>
   cases a;exact .cons _ _ (ih _ b)
theorem wp{l:OpenLaw}{n:Nat}(hn:l.most=some n){P:Params}{h:cW}{args:List WData}{c:List cK}(b:l.row.toRowW.claim.pre args=true)(k:WellAll P h c args):
  ∃a vs ns,c=[Value.ref a]/\args=[WData.list (ns.map WData.int)]/\h.get? a=Z {cls:=.type "list",data:=.seq vs.toArray}/\IntsAre vs ns/\ns.length<=n:=by
 have j:WShape.hasAll [] args [.list .int]=M:=(pre_splitW b).1;have hc:l.pre.holds [] {args:=args}=M:=(pre_splitW b).2;obtain⟨d,r,rfl,h1,h2⟩:=hasAllW_cons j;obtain rfl:=hasAllW_nil h2;obtain⟨xs,rfl,s⟩:=hasW_list h1;obtain⟨ns,rfl⟩:=items_int s;have f:ns.length<=n:=by
  unfold OpenLaw.pre at hc;have i:(WTm.not (.lt (.lit (.int (n:Int))) (.len (.arg 0)))).holds [] {args:=[.list (ns.map .int)]}=M:=by
   have i:=(holds_andW hc).1;rw[hn]at i;exact i
  have g:=condW_of i (w_not (w_lt w_lit (w_len_list (w_arg O))));rw[lM1]at g;refine Nat.le_of_not_lt λq=>?_;have o:(n:Int)<((ns.length:Nat):Int):=by omega
  first
   |(rw[ah o]at g;exact absurd g (by decide))
   |(simp at g;omega)
 cases k with
 |cons p m=>
  cases m;cases p with
  |list t e=>exact⟨_,_,ns,O,O,t,mG ns _ e,f⟩
theorem wt(l:OpenLaw)(args:List WData):l.row.toRowW.claim.post args (.bool M) args=M:=
 postW_of (r:=l.row.toRowW) (X:=(M == M))
  (show WShape.has [] (.bool M) .bool=M by first|rfl|decide|simp[WShape.has,WShape.arms,WShape.armsAll])
  (show(WTm.eq .res (.lit (.bool M))).value [] {args:=args,res:=Z (.bool M),after:=args}=Z (.bool (M == M))from w_eq_bool (w_res O) w_lit) O
theorem attach_call {l:OpenLaw}{n:Nat}{q:cO}{e:List Str}{XP:(Str->Option cK)->cW->Prop}{A:cQ->cW->Prop}{d:DefRec}
  (hn:l.most=Z n) (s:d.params.defaults=[])
  (call:∀(w:cQ) (c b:cM) (mg y:Str->Option cK) (k:cN) (o:Obj) (t p h:cK) (a:cN) (vs:List cK) (ns:List Int),
   Ground q e [] XP w c mg y b.heap->A w b.heap ->
   b.heap.get? k=Z o->o.data = .func (docDef d.name d.params d.body d.scope t p h)->b.heap.CodeRec p d.name->mg d.name=Z (.ref k) ->
   b.heap.get? a=Z {cls:=.type "list",data:=.seq vs.toArray}->IntsAre vs ns->ns.length<=n->b.gens = #[] ->
   cV (model l.prog w) callerA (.call (.ref k) ⟨[.ref a],[]⟩) (λr s'=>r = .ok (.ret (.bool M))/\OldK b.heap s'.heap/\s'.os=b.os/\AllBare s'.gens) b):
  WalkO q e XP A l.row.toRowW d [] (λf vs=>PySem.call f vs):=by
 intro w c b mg y G aq k o t p h K kV am ar v D u N C z as i B L x E;obtain rfl:K = .none:=Dflts.none D s;obtain rfl:kV = .none:=Dflts.noKw D;obtain⟨a,vs,ns,rfl,rfl,m,g,j⟩:=wp hn i x;refine enter_call (codeAny_mono (call w c b mg y k o t p h a vs ns G aq am (fd_plain ar) v u m g j N) λr s' ao=>?_);obtain⟨rfl,h2,I,F⟩:=ao;exact⟨.inl ⟨.bool M,.bool M,[],O,λ_=>rfl,.bool M,wt l _,λ_=>⟨List.Pairwise.nil,λ_ H=>(nomatch H)⟩⟩,h2,I,F⟩
section
variable{prog:cO}{w:cQ}{A:cP}{E:cK->cM->Prop}{s:cM}{K:Frag}
end
end Att
namespace L2
open PySem PySem.Spec PyProof.Rows
theorem wh:∀{vs:List cK} {ns:List Int},IntsAre vs ns->dU (ns.map V.int) vs:=by
 intro vs ns h
 induction h with
 |nil=>exact .nil
 |cons n t h ih=>exact .cons ⟨t,O⟩ ih
def Dz(H:Hp):Prop:=∀b,H b=Y \/ ∃o xs,H b=Z (.frz o (.lst xs))
theorem zz {P:cO}{w:cQ}{K:Fg1}{mg L:Str->Option cK}{CX:xu}{k:Nat}{C a:cN}{fd:cX}{x:Str}{sp:Sp}{s₁:cM}{vs:List cK}{ns:List Int}
  (R:K.In s₁.heap) (A:s₁.heap.Ns cR mg) (hb:s₁.heap.Ns builtinsNs L) (I:∀x:Str,x≠"__name__"->L x=bootBuiltins x) (i:s₁.heap.NoLimit) (hg:s₁.gens = #[])
  (ha:s₁.heap.get? a=Z {cls:=.type "list",data:=.seq vs.toArray}) (hi:IntsAre vs ns) (ao:ns.length<=cT) (hr:ga k callerA)
  (F:∀base:cW,K.In base->base.Ns cR mg->lT P w K mg base CX k C fd [x] sp) (g:∀(s:cM) (u:cK),BindsTo s fd ⟨[u],[]⟩ [(x,u)])
  (am:∀H:Hp,Dz H->lp K H a (ns.map V.int)->sp [.ref a] H (λv _=>v = .bl M) λ_ _ _=>False)
  (E:∀H e s',CX [] H s₁ (λ_ _ _=>False) e s'->False):
  cV (model P w) callerA (.call (.ref C) ⟨[.ref a],[]⟩) (λr s'=>r = .ok (.ret (.bool M))/\OldK s₁.heap s'.heap/\s'.os=s₁.os/\AllBare s'.gens) s₁:=by
 have ar:=wh hi;have B:=hi.length
 -- from an abstract heap in which nothing but the script may be tracked
 have f:∀ H:Hp,Dz H->lp K H a (ns.map V.int)->kG P w H s₁.heap->(∀ b,H b≠none->b=a)->(H a≠none->K.lookup a=none) ->
   cV (model P w) callerA (.call (.ref C) ⟨[.ref a],[]⟩) (λr s'=>r = .ok (.ret (.bool M))/\OldK s₁.heap s'.heap/\s'.os=s₁.os/\AllBare s'.gens) s₁:=by
  intro H Q hS p N hK;have base_of:∀{b:cN} {o:Obj},s₁.heap.get? b=Z o->H b=Y->(qq s₁.heap H).get? b=Z o:=λe n=>zJ e n;have G:∀{b:cN} {o:Obj} {es:Array DictEntry} {ep:Nat},s₁.heap.get? b=Z o->o.data = .dict es ep->H b=Y:=λ{b o es ep} e d=>by
   cases q:H b with
   |none=>rfl
   |some u=>
    have D:b=a:=N b (by rw[q];simp);subst D;rw[ha]at e;cases e;have d':Data.seq vs.toArray _=Data.dict es ep:=d;cases d'
  have c:∀{b:cN} {m:Str->Option cK},s₁.heap.Ns b m->(qq s₁.heap H).Ns b m:=λ{b m} ⟨o,es,ep,e,d,r⟩=>⟨o,es,ep,base_of e (G e d),d,r⟩;have y:K.In (qq s₁.heap H):=λb o e=>base_of (R b o e) (by
   cases q:H b with
   |none=>rfl
   |some u=>
    have D:b=a:=N b (by rw[q];simp);subst D;rw[hK (by rw[q];simp)]at e;cases e)
  have aq:Mod K mg (qq s₁.heap H):=⟨y,c A,⟨L,c hb,I⟩,let ⟨mc,h1,h2⟩:=i;⟨mc,c h1,h2⟩⟩;have e0:DB P w K mg (qq s₁.heap H) callerA [] s₁ H:=⟨O,aq,λb o e=>B6 e,Nat.le_of_eq (wQ _ _),trivial,λb hb=>absurd (show b∈([]:List cN)from hb) (by simp),p,.of_eq hg⟩;refine codeAny_mono ((F _ y (c A)).run callerA [] s₁ H ⟨[.ref a],[]⟩ [.ref a] [.ref a] _ _ hr e0 (g s₁ (.ref a)) (.cons O .nil) (am H Q hS)) λr s' h=>?_;cases r with
  |error e=>exact(E H e s' h).elim
  |ok W=>
   cases W with
   |next=>exact False.elim h
   |brk=>exact False.elim h
   |cont=>exact False.elim h
   |ret u=>
    obtain⟨v,H',os,l,un,j,X,q⟩:=h;have q':v = .bl M:=q;subst q';obtain rfl:u=Value.bool true:=X;refine⟨O,OldK.of_keep λb o e=>?_,os,l⟩;cases q:H b with
    |none=>exact un.keep b o e q (by intro z;exact absurd (show b∈([]:List cN)from z) (by simp)) (by simp)
    |some u=>
     rcases Q b with z|⟨wq,xs,z⟩
     ·rw[q]at z;cases z
     ·have U:=un.frzs b wq _ z;obtain⟨S,_⟩:=p b _ z;obtain⟨T,_⟩:=j b _ U;rw[e]at S;cases S;exact T
 cases hk:K.lookup a with
 |some o=>
  -- the script is one of the module's own objects
  have e:=R a o hk;rw[ha]at e;cases e;refine f (λ_=>Y) (λ_=>.inl O) (.inr ⟨_,vs.toArray,_,hk,O,O,O,by rw[aJ,B];exact ao,by simpa using ar⟩) (λb u z=>by have t:(Y:Option HO)=Z u:=z;cases t) (λb z=>absurd O z) λz=>absurd O z
 |none=>
  refine f (λb=>if b=a then Z (.frz {cls:=.type "list",data:=.seq vs.toArray} (.lst (ns.map V.int)))else Y) (λb=>?_) (.inl (.inr ⟨{cls:=.type "list",data:=.seq vs.toArray},ak O⟩)) (λb u z=>?_) (λb z=>?_) λ_=>hk
  ·by_cases hb:b=a
   ·exact .inr ⟨_,_,ak hb⟩
   ·exact .inl (aj hb)
  ·by_cases hb:b=a
   ·have t:=(ak hb).symm.trans z;cases t;subst hb;exact⟨ha,by rw[lM1];exact ao,vs,_,ar,ha⟩
   ·have t:=(aj hb).symm.trans z;cases t
  ·by_cases hb:b=a
   ·exact hb
   ·exact absurd (aj hb) z
end L2
namespace L2
open PySem PySem.Spec PyProof.Rows
theorem Bg{l:PySem.W.OpenLaw}{n k:Nat}{q:cO}{g:List Str}{XP:(Str->Option cK)->cW->Prop}{A:cQ->cW->Prop}{d:DefRec}{K:Params->Fg1}{CX:cQ->xu}{sp:cQ->Sp}{x:Str}(hn:l.most=some n)(t:n<=cT)(r:d.params.defaults=[])(hr:ga k callerA)(D:∀(w:cQ) (h:cW),A w h->(K w.params).In h)(F:∀(w:cQ) (mg:Str->Option cK) (m:cN) (h:cW),(K w.params).In h->h.Ns cR mg->mg d.name=some (.ref m) ->
   ∃fd:cX,(∀(s:cM) (u:cK),BindsTo s fd ⟨[u],[]⟩ [(x,u)]) /\
    ∀base:cW,(K w.params).In base->base.Ns cR mg->lT l.prog w (K w.params) mg base (CX w) k m fd [x] (sp w))(z:∀(w:cQ) (H:Hp) (a:cN) (ns:List Int),ns.length<=n->Dz H->lp (K w.params) H a (ns.map V.int)->sp w [.ref a] H (λv _=>v = .bl M) λ_ _ _=>False)(p:∀(w:cQ) (H:Hp) (s:cM) (e:cK) (s':cM),CX w [] H s (λ_ _ _=>False) e s'->False):
  PySem.W.WalkO q g XP A l.row.toRowW d [] (λf vs=>PySem.call f vs):=by
 refine Att.attach_call hn r λw B j mg T m o P S L a vs ns G aq Q R N y i c b ar=>?_;have C:=D w _ aq;obtain⟨fd,E,I⟩:=F w mg m _ C G.T.g y;exact zz C G.T.g G.T.b G.T.builtins G.T.nolimit ar i c (aB b t) hr I E (λH ao am=>z w H a ns b ao am) λH e s'=>p w H j e s'
end L2
namespace L2
open PySem PySem.Spec PyProof.Rows
def ij(s:cY):Arguments:=match s with
 | .FunctionDef _ a _ _ _ _ _ _ _ _=>a
 |_=>{posonlyargs:=[],args:=[],vararg:=Y,kwonlyargs:=[],kw_defaults:=[],kwarg:=Y,defaults:=[]}
def fh(s:cY):List cY:=match s with
 | .FunctionDef _ _ b _ _ _ _ _ _ _=>b
 |_=>[]
def dE(s:cY):cZ:=match s with
 | .FunctionDef _ _ _ _ _ _ sc _ _ _=>sc
 |_=>{kind:=.function,names:=[],isGenerator:=J,isCoroutine:=J}
abbrev sZ:xu:=λ_ _ _ _ _ _=>False
abbrev E0:XK:=λ_ _ _=>False
theorem Ir{X:Cx}:uJ sZ X E0:=λ_ _ _ _ _ _ _ h=>h.elim
structure wa (K:Fg1)(x qual:Str)(st:cY)(f:cN)(fd:cX):Prop where
 ex:∃(oc:cK) (od:Option cN) (kV doc pm:cK) (an:Option cN) (cdv ct:cK) (osl:Array (Option cK)),
  fd=wF1 x qual (ij st) (fh st) (dE st) .none kV doc pm an cdv ct/\K.lookup f=some ⟨oc,od,.func fd,osl⟩/\wC1 K cdv qual=true
 kp:wK1 K (.ref f)=true
section
variable{P:cO}{w:cQ}{K:Fg1}{mg:Str->Option cK}{base:cW}
theorem wa.ok{x b:Str}{st:cY}{f:cN}{fd:cX}{N ps:List Str}{k:Nat}{sp:Sp}(F:wa K x b st f fd)(S:gC N ps (dE st))(len:∀ vs H Q E,sp vs H Q E->vs.length=ps.length)(d:∀(c:cK) (A:cP) (a:List Env) (s:cM) (H:Hp) (vs:List V) (Q:VK) (E:XK),ga k (A.deeper (envOfC b (dE st) s.heap.objs.size f c))->sp vs H Q E ->
   ∃t,tq (mJ sZ P w K mg base N b (dE st) f c A a s H E).nox (fh st) t/\t {nx:=λ_ H'=>Q .non H',rt:=Q} (start N vs) H):lT P w K mg base sZ (k+1) f fd ps sp:=by
 obtain⟨n,o,kV,j,p,r,c,ct,m,rfl,l,g⟩:=F.ex;refine Ja l g S len λA a s H vs Q E i e=>?_;obtain⟨t,h,q⟩:=d c A a s H vs Q E i e;exact⟨t,h.nox,q⟩
theorem wa.binds{x a:Str}{st:cY}{f:cN}{fd:cX}{ps:List Str}(F:wa K x a st f fd)(h:∀(kV c d:cK) (e:Option cN) (b ct:cK) (us:List cK),us.length=ps.length->bindArgs (wF1 x a (ij st) (fh st) (dE st) .none kV c d e b ct) ⟨us,[]⟩=pure (ps.zip us)):jN K fd ps []:=by
 obtain⟨j,k,kV,c,d,e,b,ct,i,rfl,l,g⟩:=F.ex;exact .all (h kV c d e b ct)
theorem zY{x a:Str}{st:cY}{f:cN}{i:cK}{j h:Option cN}{e:Array (Option cK)}{kV d g b ct:cK}(l:K.lookup f=Z ⟨i,j,.func (wF1 x a (ij st) (fh st) (dE st) .none kV d g h b ct),e⟩)(c:wC1 K b a=M)(k:wK1 K (.ref f)=M):wa K x a st f (wF1 x a (ij st) (fh st) (dE st) .none kV d g h b ct):=⟨⟨i,j,kV,d,g,h,b,ct,e,O,l,c⟩,k⟩
end
section
variable{X:Cx}
end
def sX(H H':Hp):Prop:=∀b o,H b=Z o->H' b=Z o
theorem sX.trans{H H1 H2:Hp}(a:sX H H1)(b:sX H1 H2):sX H H2:=λc o h=>b c o (a c o h)
theorem sX.free{H H':Hp}(e:sX H H'){l:cN}(h:H' l=Option.none):H l=Option.none:=by
 cases q:H l with
 |none=>rfl
 |some o=>
  rw[e l o q]at h;cases h
theorem sX.seq{K:Fg1}{H H':Hp}{a:cN}{xs:List V}(e:sX H H')(h:lp K H a xs):lp K H' a xs:=by
 rcases h with(h|⟨o,h⟩)|h
 ·exact .inl (.inl (e _ _ h))
 ·exact .inl (.inr ⟨o,e _ _ h⟩)
 ·exact .inr h
end L2
namespace L2
open PySem PySem.Spec PyProof.Rows
section
variable{κ:Type} [DecidableEq κ]
def iN(kvs:List (κ×V))(k:κ):Option V:=(kvs.find? λkv=>decide (kv.1=k)).map (·.2)
def iC(kvs:List (κ×V))(k:κ)(v:V):List (κ×V):=
 if(kvs.any λkv=>decide (kv.1=k))=M then kvs.map (λkv=>if kv.1=k then(kv.1,v)else kv)else kvs++[(k,v)]
def D5(kvs:List (κ×V))(k:κ):List (κ×V):=kvs.filter λkv=>decide (kv.1≠k)
theorem m5{p:κ×V}{r:List (κ×V)}{k:κ}(e:p.1=k):iN (p::r) k=Z p.2:=by simp[iN,bb,e]
theorem m6{p:κ×V}{r:List (κ×V)}{k:κ}(e:¬ p.1=k):iN (p::r) k=iN r k:=by simp[iN,bb,e]
theorem ri(k:κ):∀kvs:List (κ×V),(kvs.any λa=>decide (a.1=k))=(iN kvs k).isSome
 |[]=>rfl
 |p::r=>by
  rw[bc];by_cases e:p.1=k
  ·simp only[m5 e,ah e,Bool.true_or,Option.isSome_some]
  ·rw[m6 e,ai e,Bool.false_or];exact ri k r
theorem jD(kvs:List (κ×V))(k:κ)(v:V):(iC kvs k v).length<=kvs.length+1:=by
 unfold iC;split
 ·rw[lM1];lia
 ·rw[lA1,lC1,bf];lia
theorem lS.isSome_eq{o:Option V}{u:Option cK}(r:lS o u):o.isSome=u.isSome:=by
 cases o with
 |none=>cases u with
  |none=>rfl
  |some _=>exact(show False from r).elim
 |some _=>cases u with
  |none=>exact(show False from r).elim
  |some _=>rfl
theorem lS.getD{o:Option V}{u:Option cK}{d:V}{d':cK}(r:lS o u)(a:dD d d'):dD (o.getD d) (u.getD d'):=by
 cases o with
 |none=>cases u with
  |none=>exact a
  |some _=>exact(show False from r).elim
 |some _=>cases u with
  |none=>exact(show False from r).elim
  |some _=>exact r
theorem KV.val{kvs:List (κ×V)}{vs:List (κ×cK)}(r:KV kvs vs)(k:κ):lS (iN kvs k) (valueAt vs k):=by
 unfold KV at r
 induction r with
 |nil=>exact True.intro
 | @cons p q ps a h t ih=>
  obtain⟨h1,h2⟩:=h;by_cases e:p.1=k
  ·have c:q.1=k:=h1.symm.trans e;have b:valueAt (q::a) k=Z q.2:=by simp[valueAt,bb,c]
   rw[m5 e,b];exact h2
  ·have c:¬ q.1=k:=λz=>e (h1.trans z);have b:valueAt (q::a) k=valueAt a k:=by simp[valueAt,bb,c]
   rw[m6 e,b];exact ih
theorem KV.any{kvs:List (κ×V)}{vs:List (κ×cK)}(r:KV kvs vs)(k:κ):(kvs.any λa=>decide (a.1=k))=vs.any λa=>decide (a.1=k):=by
 unfold KV at r
 induction r with
 |nil=>rfl
 |cons h t ih=>rw[bc,bc,ih,h.1]
theorem KV.repl{kvs:List (κ×V)}{vs:List (κ×cK)}(r:KV kvs vs)(k:κ){y:V}{u:cK}(b:dD y u):
  KV (kvs.map λa=>if a.1=k then(a.1,y)else a) (vs.map λa=>if a.1=k then(a.1,u)else a):=by
 unfold KV at r ⊢
 induction r with
 |nil=>exact .nil
 | @cons p q ps c h t ih=>
  rw[mP1,mP1];refine .cons ?_ ih;obtain⟨h1,h2⟩:=h;by_cases e:p.1=k
  ·rw[ak e,ak (h1.symm.trans e)];exact⟨h1,b⟩
  ·rw[aj e,aj (λz=>e (h1.trans z))];exact⟨h1,h2⟩
theorem KV.put{kvs:List (κ×V)}{vs:List (κ×cK)}(r:KV kvs vs)(k:κ){y:V}{u:cK}(a:dD y u):KV (iC kvs k y) (stored vs k u):=by
 unfold iC stored;rw[r.any k];by_cases e:(vs.any λb=>decide (b.1=k))=M
 ·rw[ak e,ak e];exact r.repl k a
 ·rw[aj e,aj e];exact Paired.snoc r ⟨O,a⟩
theorem KV.drop{kvs:List (κ×V)}{vs:List (κ×cK)}(r:KV kvs vs)(k:κ):KV (D5 kvs k) (without vs k):=by
 unfold KV at r ⊢;unfold D5 without
 induction r with
 |nil=>exact .nil
 | @cons p q ps d h t ih=>
  obtain⟨h1,h2⟩:=h;rw[bg,bg];by_cases e:p.1=k
  ·have a:¬ decide (p.1≠k)=M:=by simp[e]
   have b:¬ decide (q.1≠k)=M:=by simp[h1.symm.trans e]
   rw[aj a,aj b];exact ih
  ·have c:¬ q.1=k:=λz=>e (h1.trans z);have a:decide (p.1≠k)=M:=by simp[e]
   have b:decide (q.1≠k)=M:=by simp[c]
   rw[ak a,ak b];exact .cons ⟨h1,h2⟩ ih
theorem KV.keys{kvs:List (κ×V)}{vs:List (κ×cK)}(r:KV kvs vs):kvs.map (·.1)=vs.map (·.1):=by
 unfold KV at r
 induction r with
 |nil=>rfl
 |cons h t ih=>rw[mP1,mP1,ih,h.1]
theorem KV.length{kvs:List (κ×V)}{vs:List (κ×cK)}(r:KV kvs vs):kvs.length=vs.length:=Paired.length r
end
theorem nH{P:cO}{w:cQ}{k:Key}{u:cK}(r:dD (kV k) u):(eF P w).is k u=M:=by
 cases k with
 |inl i=>obtain⟨t,e⟩:=(show∃t,u=Value.int i t from r);subst e;exact r0 P w i t
 |inr x=>obtain⟨t,e⟩:=(show∃t,u=Value.str x t from r);subst e;exact rZ P w x t
theorem oY{P:cO}{w:cQ}:∀{ks:List Key} {us:List cK},dU (ks.map kV) us->ItemsAre (eF P w) ks us
 |[],_,r=>by rw[ba]at r;cases r;exact .nil
 |k::ks,_,r=>by
  rw[mP1]at r;cases r with
  |cons h t=>exact .cons (nH h) (oY t)
abbrev KT(H:Hp):List (List Key×V)->List (List Key×cN×cK)->Prop:=Paired λp q=>p.1=q.1/\H q.2.1=Z (.tup (p.1.map kV))/\dD p.2 q.2.2
theorem KT.val{H:Hp}{kvs:List (List Key×V)}{xs:List (List Key×cN×cK)}(r:KT H kvs xs)(k:List Key):lS (iN kvs k) ((atKey xs k).map (·.2)):=by
 induction r with
 |nil=>exact True.intro
 | @cons p q ps a h t ih=>
  obtain⟨h1,_,h2⟩:=h;by_cases e:p.1=k
  ·have c:q.1=k:=h1.symm.trans e;have b:atKey (q::a) k=Z q.2:=by simp[atKey,bb,c]
   rw[m5 e,b];exact h2
  ·have c:¬ q.1=k:=λz=>e (h1.trans z);have b:atKey (q::a) k=atKey a k:=by simp[atKey,bb,c]
   rw[m6 e,b];exact ih
theorem KT.repl{H:Hp}{kvs:List (List Key×V)}{xs:List (List Key×cN×cK)}(r:KT H kvs xs)(k:List Key){y:V}{u:cK}(c:dD y u):
  KT H (kvs.map λa=>if a.1=k then(a.1,y)else a) (xs.map (putAt k u)):=by
 induction r with
 |nil=>exact .nil
 | @cons p q ps d h t ih=>
  rw[mP1,mP1];refine .cons ?_ ih;obtain⟨h1,h2,b⟩:=h;unfold putAt;by_cases e:p.1=k
  ·rw[ak e,ak (h1.symm.trans e)];exact⟨h1,h2,c⟩
  ·rw[aj e,aj (λz=>e (h1.trans z))];exact⟨h1,h2,b⟩
theorem KT.put{H:Hp}{kvs:List (List Key×V)}{xs:List (List Key×cN×cK)}(r:KT H kvs xs)(k:List Key){b:cN}{y:V}{u:cK}(hb:H b=some (.tup (k.map kV)))(a:dD y u):
  KT H (iC kvs k y) (storedH xs k b u):=by
 have e:(kvs.any λc=>decide (c.1=k))=(atKey xs k).isSome:=by
  rw[ri,(r.val k).isSome_eq,bh]
 unfold iC storedH;rw[e];by_cases q:(atKey xs k).isSome=M
 ·rw[ak q,ak q];exact r.repl k a
 ·rw[aj q,aj q];exact Paired.snoc r ⟨O,hb,a⟩
theorem KT.keeps{H H':Hp}{kvs:List (List Key×V)}{xs:List (List Key×cN×cK)}(r:KT H kvs xs)(ht:∀b ys,H b=Z (.tup ys)->H' b=Z (.tup ys)):KT H' kvs xs:=
 Paired.mapP r λ_ _ z=>⟨z.1,ht _ _ z.2.1,z.2.2⟩
section
variable{P:cO}{w:cQ}{H:Hp}{h:cW}{a:cN}
theorem DM{u:HO}(ok:kG P w H h)(e:Rd H a u):ez P w H h a u:=e.ok ok
theorem nU{kvs:List (Key×V)}(ok:kG P w H h)(e:Rd H a (.dK kvs)):kvs.length<=cT/\(a == sysModules)=J /\ ∃vs,KV kvs vs/\h.DictOf (eF P w) a vs:=
 show ez P w H h a (.dK kvs)from DM ok e
theorem Aq{kvs:List (Key×V)}(ok:kG P w H h)(e:H a=Z (.dK kvs)):kvs.length<=cT/\(a == sysModules)=J /\ ∃vs,KV kvs vs/\h.DictOf (eF P w) a vs:=nU ok (.inl e)
theorem lH{ks:List Key}(ok:kG P w H h)(e:H a=Z (.tup (ks.map kV))):(tupleKind (eF P w)).is h ks a:=by
 obtain⟨_,b,r,o,h1,h2,n,c⟩:=(show ez P w H h a (.tup (ks.map kV))from ok a _ e);exact⟨o,b.toArray,n,h1,h2,c,by simpa using oY r⟩
theorem nT{kvs:List (List Key×V)}(ok:kG P w H h)(e:Rd H a (.dT kvs)):kvs.length<=cT/\(a == sysModules)=false /\
  ∃xs,KT H kvs xs/\h.DictOfH (tupleKind (eF P w)) a xs:=by
 obtain⟨z,y,xs,r,o,es,ep,h1,h2,g,f,d⟩:=(show ez P w H h a (.dT kvs)from DM ok e);refine⟨z,y,xs,r,o,es,ep,h1,h2,g,f,λx b=>?_,d⟩;have all:∀{l:List (List Key×V)} {m:List (List Key×cN×cK)},KT H l m -> ∀x∈m,(tupleKind (eF P w)).is h x.1 x.2.1:=by
  intro l m q
  induction q with
  |nil=>intro x b;exact nomatch b
  | @cons p q ps i c t ih=>
   intro x b;rcases aD.mp b with e|b
   ·subst e;exact lH ok (by rw[<- c.1];exact c.2.1)
   ·exact ih x b
 exact all r x b
theorem Jf{kvs:List (List Key×V)}(ok:kG P w H h)(e:H a=some (.dT kvs)):kvs.length<=cT/\(a == sysModules)=false /\
  ∃xs,KT H kvs xs/\h.DictOfH (tupleKind (eF P w)) a xs:=nT ok (.inl e)
end
def mL(H:Hp)(a:cN)(y:V)(r:Option V):Prop:=
 (∃kvs k,Rd H a (.dK kvs)/\y=kV k/\r=iN kvs k) \/ ∃kvs k b,Rd H a (.dT kvs)/\y = .ref b/\H b=Z (.tup (k.map kV))/\r=iN kvs k
def xi(H:Hp)(a:cN)(y v:V)(H':Hp):Prop:=
 (∃kvs k,H a=Z (.dK kvs)/\y=kV k/\kvs.length<cT/\H'=upd H a (.dK (iC kvs k v))) \/
 ∃kvs k b,H a=Z (.dT kvs)/\y = .ref b/\H b=Z (.tup (k.map kV))/\kvs.length<cT/\H'=upd H a (.dT (iC kvs k v))
theorem mL.k{H:Hp}{a:cN}{kvs:List (Key×V)}{k:Key}(e:H a=Z (.dK kvs)):mL H a (kV k) (iN kvs k):=.inl ⟨kvs,k,.inl e,O,O⟩
theorem mL.t{H:Hp}{a b:cN}{kvs:List (List Key×V)}{k:List Key}(e:H a=Z (.dT kvs))(c:H b=Z (.tup (k.map kV))):mL H a (.ref b) (iN kvs k):=.inr ⟨kvs,k,b,.inl e,O,c,O⟩
theorem xi.k{H:Hp}{a:cN}{kvs:List (Key×V)}{k:Key}{v:V}(e:H a=Z (.dK kvs))(b:kvs.length<cT):xi H a (kV k) v (upd H a (.dK (iC kvs k v))):=.inl ⟨kvs,k,e,O,b,O⟩
theorem xi.t{H:Hp}{a b:cN}{kvs:List (List Key×V)}{k:List Key}{v:V}(e:H a=some (.dT kvs))(d:H b=some (.tup (k.map kV)))(c:kvs.length<cT):
  xi H a (.ref b) v (upd H a (.dT (iC kvs k v))):=.inr ⟨kvs,k,b,e,O,d,c,O⟩
section
variable{X:Cx}{ag:List (cN×Obj)}{σ:St}{H:Hp}{s:cM}{a:cN}{y v:V}{u r:cK}{o:Option V}{A:cP}{E:cK->cM->Prop}
theorem Inv.big(I:Inv X ag σ H s):sysModules<s.heap.objs.size:=by
 have h:cR<s.heap.objs.size:=(I.mod.glob.keeps I.bk).lt;exact bi (by decide) h
theorem wZ{Q:cK->cM->Prop}(r:A.units+1<cLine)(I:Inv X ag σ H s)(g:mL H a y (some v))(n:dD y u)(h:∀ f s',Inv X ag σ H s'->dD v f->Q f s'):
  cU (model X.prog X.w) A (getItem (.ref a) u) Q E s:=by
 rcases g with⟨kvs,k,e,i,l⟩|⟨kvs,k,b,e,i,t,l⟩
 ·subst i;obtain⟨z,w,vs,d,dd⟩:=nU I.hok e;obtain⟨f,j,c⟩:=lS.some_of (v:=v) (o:=valueAt vs k) (by rw[l];exact d.val k);exact wpAny_getItem_of (nH n) dd.mapOf j (h f _ (I.tok _) c)
 ·subst i;cases(show u=Value.ref b from n);obtain⟨z,w,xs,d,dd⟩:=nT I.hok e;obtain⟨f,j,c⟩:=lS.some_of (v:=v) (o:=(atKey xs k).map (·.2)) (by rw[l];exact d.val k);obtain⟨p,q,m⟩:=oM1.mp j;refine wpAny_getItem_heap (tupleKind_room_in1 r) (lH I.hok t) dd q ?_;rw[m];exact h f _ (I.tok _) c
theorem KL{Q:cK->cM->Prop}(j:A.units+1<cLine)(I:Inv X ag σ H s)(g:mL H a y o)(i:dD y u)(h:∀ s',Inv X ag σ H s'->Q (.bool o.isSome) s'):
  cU (model X.prog X.w) A (compareOp .In u (.ref a)) Q E s:=by
 rcases g with⟨kvs,k,e,d,l⟩|⟨kvs,k,b,e,d,m,l⟩
 ·subst d;obtain⟨z,f,vs,c,dd⟩:=nU I.hok e;refine wpAny_in_of (nH i) f dd.mapOf ?_;rw[<- (c.val k).isSome_eq,<- l];exact h _ (I.tok _)
 ·subst d;cases(show u=Value.ref b from i);obtain⟨z,f,xs,c,dd⟩:=nT I.hok e;refine wpAny_in_heap (tupleKind_room_in1 j) (lH I.hok m) f dd ?_;have q:=(c.val k).isSome_eq;rw[bh]at q;rw[<- q,<- l];exact h _ (I.tok _)
theorem Dd{Q:cK->cM->Prop}(j:A.units+1<cLine)(I:Inv X ag σ H s)(g:mL H a y o)(i:dD y u)(h:∀ s',Inv X ag σ H s'->Q (.bool (!o.isSome)) s'):
  cU (model X.prog X.w) A (compareOp .NotIn u (.ref a)) Q E s:=by
 rcases g with⟨kvs,k,e,d,l⟩|⟨kvs,k,b,e,d,m,l⟩
 ·subst d;obtain⟨z,f,vs,c,dd⟩:=nU I.hok e;refine wpAny_notIn_of (nH i) f dd.mapOf ?_;rw[<- (c.val k).isSome_eq,<- l];exact h _ (I.tok _)
 ·subst d;cases(show u=Value.ref b from i);obtain⟨z,f,xs,c,dd⟩:=nT I.hok e;refine wpAny_notIn_heap (tupleKind_room_in1 j) (lH I.hok m) f dd ?_;have q:=(c.val k).isSome_eq;rw[bh]at q;rw[<- q,<- l];exact h _ (I.tok _)
theorem lh{h':cW}{t':Nat}{c:HO}(I:Inv X ag σ H s)(mu:Hy (H a))(hs:Heap.SameBut a s.heap h')(he:∃ q,h'.get? a=some q)(new:ez X.prog X.w (upd H a c) h' a c):
  Inv X ag σ (upd H a c) {s with heap:=h',toks:=t'}:=
 I.write (x:=a) (e:=a) mu (.inl O) (λb q d z=>(hs.2 b d).trans z) he new
theorem Ar{P:cO}{w:cQ}{H':Hp}{h':cW}{kvs:List (Key×V)}{vs:List (Key×cK)}(z:kvs.length<=cT)(hd:(a == sysModules)=false)(b:KV kvs vs)(dd:h'.DictOf (eF P w) a vs):
  ez P w H' h' a (.dK kvs):=⟨z,hd,vs,b,dd⟩
theorem wY{H':Hp}{Q:Unit->cM->Prop}(D:A.units+1<cLine)(I:Inv X ag σ H s)(g:xi H a y v H')(C:dD y u)(x:dD v r)(h:∀ s',Inv X ag σ H' s'->Q () s'):
  cU (model X.prog X.w) A (setItem (.ref a) u r) Q E s:=by
 rcases g with⟨kvs,k,e,j,l,t⟩|⟨kvs,k,b,e,j,B,l,t⟩
 ·subst j t;obtain⟨z,p,vs,d,dd⟩:=Aq I.hok e;have m:vs.length<=cT:=by rw[<- d.length];exact z
  have n:(iC kvs k v).length<=cT:=by have:=jD kvs k v;lia
  refine wpAny_setItem_pairs (hsz:=m) (nH C) dd λh' f o=>h _ ?_;have am:∃q,h'.get? a=Z q:=let ⟨q,_,_,i,_⟩:=f;⟨q,i⟩
  exact lh I (by rw[e];exact True.intro) o am (Ar n p (d.put k x) f)
 ·subst j t;cases(show u=Value.ref b from C);obtain⟨z,p,xs,d,dd⟩:=Jf I.hok e;have m:xs.length<=cT:=by rw[<- Paired.length d];exact z
  have n:(iC kvs k v).length<=cT:=by have:=jD kvs k v;lia
  refine wpAny_setItem_heap (hsz:=m) (tupleKind_room_in1 D) (lH I.hok B) dd λh' f o=>h _ ?_;obtain⟨q,es,ep,i,h2,K,G,_,F⟩:=f;refine lh I (by rw[e];exact True.intro) o ⟨q,i⟩ ⟨n,p,_,(d.put k B x).keeps λc ys w=>?_,q,es,ep,i,h2,K,G,F⟩;rw[dG (IC w e (λz=>nomatch z))];exact w
end
section
variable{X:Cx}{ag:List (cN×Obj)}{σ:St}{H:Hp}{s:cM}{a:cN}{kvs:List (Key×V)}{k:Key}{u:cK}{A:cP}{E:cK->cM->Prop}
end
theorem sG{X:Cx}{ag:List (cN×Obj)}{σ:St}{H:Hp}{s:cM}{a:cN}{y:V}{o:Option V}(I:Inv X ag σ H s)(g:mL H a y o):s.TypeIs (.ref a) "dict":=by
 rcases g with⟨kvs,k,e,_,_⟩|⟨kvs,k,b,e,_,_,_⟩
 ·obtain⟨_,_,vs,_,dd⟩:=nU I.hok e;exact dd.typeIs
 ·obtain⟨_,_,xs,_,dd⟩:=nT I.hok e;exact dd.typeIs
section
variable{X:Cx}{o i e value:Expr}{pos pos' tpos:Pos}{td ty tv:TE}
end
theorem sF{P:cO}{w:cQ}{H:Hp}(h:cW)(hb:sysModules<h.objs.size):ez P w H (h.push {cls:=.type "dict",data:=.dict #[]}) h.objs.size (.dK []):=
 ⟨bj _,beq_eq_false_iff_ne.mpr (Ne.symm (nN1 hb)),[],.nil,Heap.DictOf.new h⟩
def EF:TE:=λ_ H Q=>∀p,H p=Y->Q (.ref p) (upd H p (.dK []))
section
variable{X:Cx}{pos:Pos}
theorem yH:PE X (.Dict [] [] pos) EF:=λag s σ H Q I h=>
 wpAny_Dict_empty ⟨.ref s.heap.objs.size,_,I.laid (a:=s.heap.objs.size) (o:=.dK []) (t':=s.toks) (λ_ _ q=>hP1 _ q) (nR1 _) (sF s.heap I.big),O,h _ (I.hok.fresh (nR1 _))⟩
end
def pJ:List (TE×TE)->St->Hp->(List (V×V)->Hp->Prop)->Prop
 |[],_,H,Q=>Q [] H
 |(tk,tv)::r,σ,H,Q=>tk σ H λx H1=>tv σ H1 λy H2=>pJ r σ H2 λps H3=>Q ((x,y)::ps) H3
abbrev VV:List (V×V)->List (cK×cK)->Prop:=Paired λp q=>dD p.1 q.1/\dD p.2 q.2
def Jt(X:Cx)(pos:Pos)(keys:List (Option Expr))(values:List Expr)(trs:List (TE×TE)):Prop:=
 ∀(ag:List (cN×Obj)) (s:cM) (σ:St) (H:Hp) (Q:List (V×V)->Hp->Prop),Inv X ag σ H s->pJ trs σ H Q ->
  cU (model X.prog X.w) X.A (evalPairs (pairTrees keys values X.env pos)) (λvs s'=>∃ps H',Inv X ag σ H' s'/\VV ps vs/\Q ps H') X.xe s
theorem BO{X:Cx}{pos:Pos}:Jt X pos [] [] []:=λag s σ H Q I h=>pairTrees_nil_walk ⟨[],H,I,.nil,h⟩
theorem yz{X:Cx}{pos:Pos}{k v:Expr}{ks:List (Option Expr)}{vs:List Expr}{tk tv:TE}{a:List (TE×TE)}(hk:PE X k tk)(hv:PE X v tv)(hr:Jt X pos ks vs a):
  Jt X pos (Z k::ks) (v::vs) ((tk,tv)::a):=λag s σ H Q I h=>
 pairTrees_cons_walk (eN (hk ag s σ H _ I h) λu j ⟨x,H1,l,e,m⟩=>eN (hv ag j σ H1 _ l m) λp d ⟨y,H2,f,n,c⟩=>
  eN (hr ag d σ H2 _ f c) λws q ⟨ps,o,i,b,g⟩=>⟨(x,y)::ps,o,i,.cons ⟨e,n⟩ b,g⟩)
def iT(kvs more:List (Key×V)):List (Key×V):=more.foldl (λacc kv=>iC acc kv.1 kv.2) kvs
theorem KV.merge:∀{more:List (Key×V)} {rs:List (Key×cK)} {kvs:List (Key×V)} {vs:List (Key×cK)},KV more rs->KV kvs vs->KV (iT kvs more) (merged vs rs):=by
 intro more rs kvs vs r;unfold KV at r
 induction r generalizing kvs vs with
 |nil=>intro q;exact q
 | @cons p q ps b h t ih=>
  intro a;have e:KV (iC kvs p.1 p.2) (stored vs q.1 q.2):=by
   have:=a.put p.1 h.2;rw[<- h.1];exact this
  exact ih e
theorem kk:∀(more kvs:List (Key×V)),(iT kvs more).length<=kvs.length+more.length
 |[],kvs=>by show kvs.length<=kvs.length+0;lia
 |p::r,kvs=>by
  have h1:=kk r (iC kvs p.1 p.2);have h2:=jD kvs p.1 p.2;show(iT (iC kvs p.1 p.2) r).length<=_;rw[lC1];lia
theorem nY{P:cO}{w:cQ}:∀{kvs:List (Key×V)} {ws:List (cK×cK)},VV (kvs.map λe=>(kV e.1,e.2)) ws -> ∃d,Carries (eF P w) ws d/\KV kvs d
 |[],_,r=>by rw[ba]at r;cases r;exact⟨[],True.intro,.nil⟩
 |p::kvs,_,r=>by
  rw[mP1]at r;cases r with
  | @cons a b as bs h t=>
   obtain⟨d,c,q⟩:=nY (P:=P) (w:=w) t;obtain⟨b1,b2⟩:=b;exact⟨(p.1,b2)::d,⟨nH h.1,O,c⟩,.cons ⟨O,h.2⟩ q⟩
def HW(trs:List (TE×TE)):TE:=fun σ H Q=>∀p,H p=Y->pJ trs σ (upd H p (.dK [])) λps H2=>H2 p=Z (.dK []) /\ ∃kvs:List (Key×V),ps=kvs.map (λkv=>(kV kv.1,kv.2))/\kvs.length<=15/\Q (.ref p) (upd H2 p (.dK (iT [] kvs)))
theorem BW{X:Cx}{pos:Pos}{keys:List (Option Expr)}{values:List Expr}{f:List (TE×TE)}(h:Jt X pos keys values f)(b:keys.all (·.isSome)=M)(l:keys.length=values.length)(A:keys≠[])(i:keys.length<=15):PE X (.Dict keys values pos) (HW f):=by
 intro ag s σ H Q I q;have p:=I.hok.fresh (nR1 s.heap.objs.size);have y:=I.laid (a:=s.heap.objs.size) (o:=.dK []) (h':=s.heap.push {cls:=.type "dict",data:=.dict #[]}) (t':=s.toks) (λ_ _ q=>hP1 _ q) (nR1 _) (sF s.heap I.big);refine wpAny_Dict_walk (knd:=eF X.prog X.w) b l A i (eN (h ag _ σ _ _ y (q _ p)) λws C ⟨ps,H2,j,g,e,kvs,ep,D,k⟩=>?_);subst ep;obtain⟨v,c,u⟩:=nY (P:=X.prog) (w:=X.w) g;obtain⟨z,B,m,x,dd⟩:=Aq j.hok e;cases x;refine⟨v,c,dd,λh' d n=>⟨.ref s.heap.objs.size,_,?_,O,k⟩⟩;have r:(iT [] kvs).length<=cT:=by
  have h1:=kk kvs [];rw[bf]at h1;rw[sizeLine_eq];lia
 have t:∃q,h'.get? s.heap.objs.size=Z q:=let ⟨q,_,_,hq,_⟩:=d;⟨q,hq⟩
 exact lh j (by rw[e];exact True.intro) n t (Ar r B (u.merge .nil) d)
structure M1 (X:Cx)(o:Expr)(m:Str)(apos:Pos)(e:Expr)(cpos:Pos):Prop where
 base:attributeBase o m X.env (eval o X.env)=eval o X.env
 few:((backTo cpos (cS [e] X.env)).all (λx=> !x.1)&&(backToKw cpos (keywordEach [] X.env)).all (λx=>x.1.isSome)
  && decide (([e]:List Expr).length+([]:List Keyword).length+(if([]:List Keyword).isEmpty then 0 else 1)<30))=true
 line:(apos.endLine == cpos.line)=true
 trees:backTo cpos (cS [e] X.env)=[(false,eval e X.env)]
def K1(H:Hp)(a:cN):Prop:=(∃kvs,Rd H a (.dK kvs)) \/ ∃kvs,Rd H a (.dT kvs)
theorem GH{X:Cx}{ag:List (cN×Obj)}{σ:St}{H:Hp}{s:cM}{a:cN}(I:Inv X ag σ H s)(d:K1 H a):
  s.TypeIs (.ref a) "dict"/\(∀b,Value.ref a = .ref b -> ∃c,s.heap.get? b=Z c/\c.dict=Y)/\(a == sysModules)=J:=by
 rcases d with⟨kvs,e⟩|⟨kvs,e⟩
 ·obtain⟨_,f,vs,_,dd⟩:=nU I.hok e;refine⟨dd.typeIs,λb q=>?_,f⟩;cases q;obtain⟨c,_,_,h1,h2,_⟩:=dd;exact⟨c,h1,h2.2.1⟩
 ·obtain⟨_,f,xs,_,dd⟩:=nT I.hok e;refine⟨dd.typeIs,λb q=>?_,f⟩;cases q;obtain⟨c,_,_,h1,h2,_⟩:=dd;exact⟨c,h1,h2.2.1⟩
section
variable{X:Cx}{ag:List (cN×Obj)}{σ:St}{H:Hp}{s:cM}{a:cN}{y d:V}{u r:cK}{o:Option V}{A:cP}{E:cK->cM->Prop}
theorem G5{Q:cK->cM->Prop}(m:A.units+1<cLine)(I:Inv X ag σ H s)(g:mL H a y o)(j:dD y u)(h:∀ i s',Inv X ag σ H s'->dD (o.getD .non) i->Q i s'):
  cU (model X.prog X.w) A (call (.builtin "dict.get") [.ref a,u]) Q E s:=by
 rcases g with⟨kvs,k,e,d,l⟩|⟨kvs,k,b,e,d,n,l⟩
 ·subst d;obtain⟨z,f,vs,c,dd⟩:=nU I.hok e;refine call_meetsIn PySem.F.slot_dict_get dd.typeIs PySem.F.entry_dict_get (PySem.F.args_dict_get_2 _ _) (meets_dict_get (eF X.prog X.w) a (nH j) f) ⟨_,dd.mapOf,h _ _ (I.tok _) ?_⟩;rw[l];exact(c.val k).getD O
 ·subst d;cases(show u=Value.ref b from j);obtain⟨z,f,xs,c,dd⟩:=nT I.hok e;refine call_meetsIn PySem.F.slot_dict_get dd.typeIs PySem.F.entry_dict_get (PySem.F.args_dict_get_2 _ _) (meetsH_dict_get (tupleKind (eF X.prog X.w)) a b f) ⟨tupleKind_room_in1 m,k,xs,lH I.hok n,dd,h _ _ (I.tok _) ?_⟩;rw[l];exact(c.val k).getD O
end
def EG(td ty:TE):TE:=fun σ H Q=>td σ H λx H1=>∃a,x = .ref a/\K1 H1 a/\ty σ H1 λy H2=>∃o,mL H2 a y o/\Q (o.getD .non) H2
section
variable{X:Cx}{o e f:Expr}{apos cpos:Pos}{td ty tx:TE}
theorem yI (l:X.A.units+1<cLine)(ho:PE X o td)(he:PE X e ty)(m:M1 X o "get" apos e cpos):PE X (.Call (.Attribute o "get" apos) [e] [] cpos) (EG td ty):=by
 intro ag s σ H Q I h;refine wpAny_Call_method m.base m.few m.line PySem.F.plainAttrs_dict PySem.F.slot_dict_get PySem.F.type_dict_get (eN (ho ag s σ H _ I h) λu n ⟨x,H1,c,i,a,ex,d,q⟩=>?_);subst ex;obtain rfl:u=Value.ref a:=i;obtain⟨p,r,_⟩:=GH c d;refine⟨p,r,?_⟩;rw[m.trees];refine Calls.callWith_builtin O (Calls.evalArgs_plain (Calls.spliced_cons (eN (he ag n σ H1 _ c q) λB v ⟨y,H2,j,t,w,g,f⟩=>Calls.spliced_nil ?_)));exact G5 l j g t λz A k b=>⟨_,H2,k,b,f⟩
end
section
variable{X:Cx}{ag:List (cN×Obj)}{σ:St}{H:Hp}{s:cM}{a:cN}{kvs:List (Key×V)}{A:cP}{E:cK->cM->Prop}
end
section
variable{X:Cx}{ag:List (cN×Obj)}{σ:St}{H:Hp}{s:cM}{a:cN}{y:V}{u:cK}{A:cP}{E:cK->cM->Prop}
end
end L2
namespace Mi
open PySem PySem.Spec PyProof.Rows L2
inductive TK where
 |non|int (i:Int)|tup (xs:List TK)
instance:DecidableEq TK:=λ_ _=>Classical.propDecidable _
mutual
def TK.hash:TK->Int
 | .non=>0xFCA86420
 | .int i=>hashInt i
 | .tup xs=>reduceHash (Builtin.Tuple.tupleHashOf (TK.hashes xs))
def TK.hashes:List TK->List Int
 |[]=>[]
 |x::xs=>TK.hash x::TK.hashes xs
end
mutual
def TK.draws:TK->Nat
 | .non=>1
 | .int _=>1
 | .tup xs=>TK.drawsAll xs+1
def TK.drawsAll:List TK->Nat
 |[]=>0
 |x::xs=>TK.draws x+TK.drawsAll xs
end
mutual
def TK.dep:TK->Nat
 | .non=>0
 | .int _=>0
 | .tup xs=>TK.depAll xs+1
def TK.depAll:List TK->Nat
 |[]=>0
 |x::xs=>max (TK.dep x) (TK.depAll xs)
end
theorem TK.dep_mem:∀{xs:List TK} {x:TK},x∈xs->x.dep<=TK.depAll xs
 |y::ys,x,h=>by
  rw[TK.depAll];rcases aD.mp h with e|e
  ·rw[e];exact Nat.le_max_left _ _
  ·exact aB (TK.dep_mem e) (Nat.le_max_right _ _)
theorem TK.hashes_app:∀a b:List TK,TK.hashes (a++b)=TK.hashes a++TK.hashes b
 |[],_=>rfl
 |x::xs,b=>by rw[bm,TK.hashes,TK.hashes,TK.hashes_app xs b];rfl
theorem TK.draws_app:∀a b:List TK,TK.drawsAll (a++b)=TK.drawsAll a+TK.drawsAll b
 |[],_=>by simp[TK.drawsAll]
 |x::xs,b=>by rw[bm,TK.drawsAll,TK.drawsAll,TK.draws_app xs b,bo]
def Ris(xs:Array Nat):Prop:=xs.toList.Pairwise (· < ·)
def DK(m:Nat):Nat->Nat->Nat->List Nat
 |0,_,_=>[]
 |n+1,i,b=>List.range' i (SetTable.runEnd m i-i+1)++DK m n (SetTable.leap m i b).1 (SetTable.leap m i b).2
def Ly(m:Nat):Prop:=m=7\/m=31\/m=127
def Ke(m:Nat)(h:Int):List Nat:=DK m (SetTable.turns m) (SetTable.bits h%(m+1)) (SetTable.bits h)
def Kf(m:Nat)(occ:List Nat)(h:Int)(j:Nat):Prop:=∃pre post,Ke m h=pre++j::post /\ ∀y∈pre,y∈occ
structure Lx (es:Array (Int×cK))(t:SetTable):Prop where
 mks:Ly t.mask
 up:Ris t.place
 du:t.dummies = #[]
 sz:t.place.size=es.size
 le:∀j∈t.place.toList,j<=t.mask
 fl:es.size<=t.mask
 rc:∀z∈t.place.toList.zip es.toList,Kf t.mask t.place.toList z.2.1 z.1
def stO(es:Array (Int×cK))(ep:Nat)(t:SetTable):Obj:={cls:=.type "set",dict:=Y,data:=.set es ep t,slots:= #[]}
def Js(a:cN)(xs:List (TK×cN×cK))(h:cW):Prop:=(xs.map (·.1)).Nodup /\ ∃es ep t,h.get? a=Z (stO es ep t)/\Lx es t/\t.tooFull=J/\(∀e∈es.toList,∃z∈xs,e=(z.1.hash,.ref z.2.1))/\(∀z∈xs,(z.1.hash,Value.ref z.2.1)∈es.toList)/\es.size=xs.length
inductive D where
 |non|bl (b:Bool)|int (i:Int)|str (x:Str)|tup (xs:List D)|rol (xs:List D)|ref (n:Nat)|fn (x:Str)
inductive Ob where
 |lst (xs:List D)|dct (kvs:List (Key×D))|dcT (kvs:List (TK×D))|iset (xs:List Int)|dcF (kvs:List (TK×D))|tst (ks:List TK)
abbrev Sto:=List Ob
abbrev Ev:=List (Option D)
abbrev FE:=Ev->Sto->Option (D×Sto)
abbrev FT:=Ev->Sto->Option (Bool×Sto)
abbrev FA:=Ev->Sto->Option (List D×Sto)
abbrev FN:=List D->Sto->Option (D×Sto)
inductive Fl where
 |nx|rt (d:D)|bk|ct
abbrev FS:=Ev->Sto->Option (Fl×Ev×Sto)
def RoL(K:Fg1)(H:Hp)(a:cN)(xs:List V):Prop:=(∃o,H a=Z (.frz o (.lst xs))) \/
 ∃(o:Obj) (its:Array cK) (n:Nat),K.lookup a=Z o/\o.cls = .type "list"/\o.dict=Y/\o.data = .seq its n/\its.size<=cT/\dU xs its.toList
theorem RoL.sq{K:Fg1}{H:Hp}{a:cN}{xs:List V}(h:RoL K H a xs):lp K H a xs:=h.elim (λ⟨o,q⟩=>.inl (.inr ⟨o,q⟩)) .inr
mutual
inductive eA (K:Fg1)(H:Hp)(mu:List cN):D->V->Prop
 |non:eA K H mu .non .non
 |bl (b:Bool):eA K H mu (.bl b) (.bl b)
 |int (i:Int):eA K H mu (.int i) (.int i)
 |str (x:Str):eA K H mu (.str x) (.str x)
 |tup {ds:List D} {vs:List V} {a:cN} (h:jW K H a vs) (r:dt K H mu ds vs):eA K H mu (.tup ds) (.ref a)
 |rol {ds:List D} {vs:List V} {a:cN} (h:RoL K H a vs) (r:dt K H mu ds vs):eA K H mu (.rol ds) (.ref a)
 |ref {n:Nat} {a:cN} (h:mu[n]?=some a):eA K H mu (.ref n) (.ref a)
 |fn {x:Str} {a:cN} (h:wN1 K cR x=some (some (.ref a))):eA K H mu (.fn x) (.ref a)
inductive dt (K:Fg1)(H:Hp)(mu:List cN):List D->List V->Prop
 |nil:dt K H mu [] []
 |cons {d:D} {v:V} {ds:List D} {vs:List V} (r:eA K H mu d v) (t:dt K H mu ds vs):dt K H mu (d::ds) (v::vs)
end
structure Ext (mu mu':List cN)(H H':Hp):Prop where
 pre:mu <+: mu'
 old:∀a o,H a=some o->a∉mu->H' a=some o
 tup:∀a xs,Rd H a (.tup xs)->Rd H' a (.tup xs)
 frz:∀a o u,H a=some (.frz o u)->H' a=some (.frz o u)
 new:∀a∈mu',a∈mu\/H a=none
theorem Ext.refl(mu:List cN)(H:Hp):Ext mu mu H H:=⟨bp,λ_ _ h _=>h,λ_ _ h=>h,λ_ _ _ h=>h,λ_ h=>.inl h⟩
theorem Ext.trans{mu m1 m2:List cN}{H H1 H2:Hp}(a:Ext mu m1 H H1)(b:Ext m1 m2 H1 H2):Ext mu m2 H H2 where
 pre:=a.pre.trans b.pre
 old:=λc o h n=>b.old c o (a.old c o h n) λz=>by
  rcases a.new c z with q|q
  ·exact n q
  ·rw[h]at q;cases q
 tup:=λc xs h=>b.tup c xs (a.tup c xs h)
 frz:=λc o u h=>b.frz c o u (a.frz c o u h)
 new:=λc h=>by
  rcases b.new c h with q|q
  ·exact a.new c q
  ·by_cases z:c∈mu
   ·exact .inl z
   ·right;cases e:H c with
    |none=>rfl
    |some o=>rw[a.old c o e z]at q;cases q
theorem Ext.at{mu mu':List cN}{H H':Hp}(e:Ext mu mu' H H'){n:Nat}{a:cN}(h:mu[n]?=Z a):mu'[n]?=Z a:=by
 obtain⟨t,rfl⟩:=e.pre;have b:n<mu.length:=(gE1.mp h).1;rw[gL1 b];exact h
theorem Ext.back{mu mu':List cN}{H H':Hp}(e:Ext mu mu' H H'):Ext mu mu H H':=⟨bp,e.old,e.tup,e.frz,λ_ h=>.inl h⟩
structure rb (mu mu':List cN)(H H':Hp):Prop where
 pre:mu <+: mu'
 tup:∀a xs,Rd H a (.tup xs)->Rd H' a (.tup xs)
 frz:∀a o u,H a=some (.frz o u)->H' a=some (.frz o u)
theorem Ext.w{mu mu':List cN}{H H':Hp}(e:Ext mu mu' H H'):rb mu mu' H H':=⟨e.pre,e.tup,e.frz⟩
theorem rb.trans{mu m1 m2:List cN}{H H1 H2:Hp}(a:rb mu m1 H H1)(b:rb m1 m2 H1 H2):rb mu m2 H H2:=⟨a.pre.trans b.pre,λc xs h=>b.tup c xs (a.tup c xs h),λc o u h=>b.frz c o u (a.frz c o u h)⟩
theorem rb.at{mu mu':List cN}{H H':Hp}(e:rb mu mu' H H'){n:Nat}{a:cN}(h:mu[n]?=Z a):mu'[n]?=Z a:=by
 obtain⟨t,rfl⟩:=e.pre;have b:n<mu.length:=(gE1.mp h).1;rw[gL1 b];exact h
structure Ee (mu mu':List cN)(H H':Hp):Prop where
 pre:mu <+: mu'
 tup:∀a xs,Rd H a (.tup xs)->Rd H' a (.tup xs)
 frl:∀a o xs,H a=some (.frz o (.lst xs))->H' a=some (.frz o (.lst xs))
theorem rb.v{mu mu':List cN}{H H':Hp}(e:rb mu mu' H H'):Ee mu mu' H H':=⟨e.pre,e.tup,λa o xs h=>e.frz a o _ h⟩
theorem Ext.v{mu mu':List cN}{H H':Hp}(e:Ext mu mu' H H'):Ee mu mu' H H':=e.w.v
theorem Ee.at{mu mu':List cN}{H H':Hp}(e:Ee mu mu' H H'){n:Nat}{a:cN}(h:mu[n]?=Z a):mu'[n]?=Z a:=by
 obtain⟨t,rfl⟩:=e.pre;have b:n<mu.length:=(gE1.mp h).1;rw[gL1 b];exact h
theorem jW.exv{K:Fg1}{mu mu':List cN}{H H':Hp}{a:cN}{vs:List V}(e:Ee mu mu' H H')(h:jW K H a vs):jW K H' a vs:=by
 rcases h with h|h
 ·exact .inl (e.tup a vs h)
 ·exact .inr h
theorem RoL.exv{K:Fg1}{mu mu':List cN}{H H':Hp}{a:cN}{vs:List V}(e:Ee mu mu' H H')(h:RoL K H a vs):RoL K H' a vs:=by
 rcases h with⟨o,h⟩|h
 ·exact .inl ⟨o,e.frl a o _ h⟩
 ·exact .inr h
theorem eA.exv{K:Fg1}{mu mu':List cN}{H H':Hp}(e:Ee mu mu' H H'):∀ {d:D} {v:V},eA K H mu d v->eA K H' mu' d v:=fun h=>h.rec (motive_1:=fun d v _=>eA K H' mu' d v) (motive_2:=fun ds vs _=>dt K H' mu' ds vs)
  .non .bl .int .str (λh _ ih=>.tup (jW.exv e h) ih) (λh _ ih=>.rol (RoL.exv e h) ih) (λh=>.ref (e.at h)) (λh=>.fn h) .nil (λ_ _ a b=>.cons a b)
theorem dt.ind{K:Fg1}{mu:List cN}{H:Hp}{P:(ds:List D)->(vs:List V)->dt K H mu ds vs->Prop}(hn:P [] [] .nil)(hc:∀{d v ds vs} (r:eA K H mu d v) (t:dt K H mu ds vs),P ds vs t->P (d::ds) (v::vs) (.cons r t)){ds:List D}{vs:List V}(h:dt K H mu ds vs):P ds vs h:=
 h.rec (motive_1:=λ_ _ _=>True) (motive_2:=P) trivial (λ_=>trivial) (λ_=>trivial) (λ_=>trivial) (λ_ _ _=>trivial) (λ_ _ _=>trivial) (λ_=>trivial) (λ_=>trivial) hn (λr t _ ih=>hc r t ih)
theorem dt.exv{K:Fg1}{mu mu':List cN}{H H':Hp}(e:Ee mu mu' H H'):∀{ds:List D} {vs:List V},dt K H mu ds vs->dt K H' mu' ds vs:=λh=>h.ind (P:=λds vs _=>dt K H' mu' ds vs) .nil λr _ ih=>.cons (eA.exv e r) ih
section
variable{K:Fg1}{mu mu':List cN}{H H':Hp}{a:cN}{vs:List V}
theorem eA.exw(e:rb mu mu' H H'){d:D}{v:V}(h:eA K H mu d v):eA K H' mu' d v:=h.exv e.v
theorem dt.exw(e:rb mu mu' H H'){ds:List D}(h:dt K H mu ds vs):dt K H' mu' ds vs:=h.exv e.v
theorem eA.ext(e:Ext mu mu' H H'){d:D}{v:V}(h:eA K H mu d v):eA K H' mu' d v:=h.exv e.v
theorem dt.ext(e:Ext mu mu' H H'){ds:List D}(h:dt K H mu ds vs):dt K H' mu' ds vs:=h.exv e.v
end
section
variable{K:Fg1}{H:Hp}{mu:List cN}
theorem dt.length:∀{ds:List D} {vs:List V},dt K H mu ds vs->ds.length=vs.length:=λh=>h.ind (P:=λds vs _=>ds.length=vs.length) O λ_ _ ih=>congrArg (· + 1) ih
theorem dt.get:∀{ds:List D} {vs:List V} {i:Nat} {d:D},dt K H mu ds vs->ds[i]?=Z d -> ∃v,vs[i]?=Z v/\eA K H mu d v:=by
 intro ds vs i d h e
 induction h using dt.ind generalizing i with
 |hn=>cases e
 |hc r t ih=>cases i with
  |zero=>cases e;exact⟨_,O,r⟩
  |succ i=>exact ih (i:=i) e
theorem dt.getV:∀{ds:List D} {vs:List V} {i:Nat} {v:V},dt K H mu ds vs->vs[i]?=Z v -> ∃d,ds[i]?=Z d/\eA K H mu d v:=by
 intro ds vs i d h e
 induction h using dt.ind generalizing i with
 |hn=>cases e
 |hc r t ih=>cases i with
  |zero=>cases e;exact⟨_,O,r⟩
  |succ i=>exact ih (i:=i) e
theorem dt.append:∀{ds es:List D} {vs ws:List V},dt K H mu ds vs->dt K H mu es ws->dt K H mu (ds++es) (vs++ws):=λh s=>h.ind (P:=λds vs _=>dt K H mu (ds++_) (vs++_)) s λr _ ih=>.cons r ih
theorem dt.take:∀{ds:List D} {vs:List V} (n:Nat),dt K H mu ds vs->dt K H mu (ds.take n) (vs.take n):=by
 intro ds vs n h
 induction h using dt.ind generalizing n with
 |hn=>rw[au,au];exact .nil
 |hc r t ih=>cases n with
  |zero=>exact .nil
  |succ n=>exact .cons r (ih n)
theorem dt.drop:∀{ds:List D} {vs:List V} (n:Nat),dt K H mu ds vs->dt K H mu (ds.drop n) (vs.drop n):=by
 intro ds vs n h
 induction h using dt.ind generalizing n with
 |hn=>rw[av,av];exact .nil
 |hc r t ih=>cases n with
  |zero=>exact .cons r t
  |succ n=>exact ih n
theorem dt.set{d:D}{v:V}(r:eA K H mu d v):∀{ds:List D} {vs:List V} (i:Nat),dt K H mu ds vs->dt K H mu (ds.set i d) (vs.set i v):=by
 intro ds vs i h
 induction h using dt.ind generalizing i with
 |hn=>exact .nil
 |hc q t ih=>cases i with
  |zero=>exact .cons r t
  |succ i=>exact .cons q (ih i)
theorem dt.reverse:∀{ds:List D} {vs:List V},dt K H mu ds vs->dt K H mu ds.reverse vs.reverse:=by
 intro ds vs h
 induction h using dt.ind with
 |hn=>exact .nil
 |hc r t ih=>rw[bq,bq];exact dt.append ih (.cons r .nil)
end
def KR{κ:Type}(K:Fg1)(H:Hp)(mu:List cN):List (κ×D)->List (κ×V)->Prop:=Paired λp q=>p.1=q.1/\eA K H mu p.2 q.2
mutual
def om:TK->D
 | .non=>.non
 | .int i=>.int i
 | .tup xs=>.tup (mz xs)
def mz:List TK->List D
 |[]=>[]
 |x::xs=>om x::mz xs
end
def i1(a:cN)(xs:List (TK×cN×cK))(h:cW):Prop:=(a == sysModules)=J/\(xs.map (·.1)).Nodup /\ ∃o es ep,h.get? a=Z o/\o.ExactDict/\o.data = .dict es ep/\es.toList=xs.map λx=>(⟨x.1.hash,.ref x.2.1,x.2.2⟩:DictEntry)
def Ef(a:cN)(xs:List (TK×cN×cK))(o:Obj):Prop:=(a == sysModules)=J/\(xs.map (·.1)).Nodup/\o.ExactDict /\ ∃es ep,o.data = .dict es ep/\es.toList=xs.map λx=>(⟨x.1.hash,.ref x.2.1,x.2.2⟩:DictEntry)
def KT(K:Fg1)(H:Hp)(mu:List cN):List (TK×D)->List (TK×cN×cK)->Prop:=Paired λp q=>p.1=q.1/\p.1.dep<=8/\eA K H mu (om p.1) (.ref q.2.1) /\ ∃v,dD v q.2.2/\eA K H mu p.2 v
def ot(K:Fg1)(H:Hp)(mu:List cN)(a:cN):Ob->Prop
 | .lst ds=>∃vs,H a=Z (.lst vs)/\dt K H mu ds vs
 | .dct kvs=>∃ws,H a=Z (.dK ws)/\KR K H mu kvs ws
 | .dcT kvs=>∃xs,H a=Z (.ext (i1 a xs))/\KT K H mu kvs xs/\xs.length<=cT
 | .iset xs=>H a=Z (.set (λk=>xs.contains k) xs.length)/\xs.Nodup
 | .dcF kvs=>∃xs,(∃o u,H a=Z (.frz o u)/\Ef a xs o)/\KT K H mu kvs xs/\xs.length<=cT
 | .tst ks=>∃xs,H a=Z (.ext (Js a xs))/\KT K H mu (ks.map λk=>(k,D.non)) xs
structure Sim (K:Fg1)(H:Hp)(mu:List cN)(S:Sto):Prop where
 len:mu.length=S.length
 nd:mu.Nodup
 ob:∀(n:Nat) (o:Ob) (a:cN),S[n]?=some o->mu[n]?=some a->ot K H mu a o
structure fx (K:Fg1)(H:Hp)(mu:List cN)(r:Ev)(σ:L2.St):Prop where
 len:r.length=σ.length
 val:∀(i:Nat) (d:D),r[i]?=some (some d) -> ∃v,σ[i]?=some (some v)/\eA K H mu d v
theorem fx.ext{K:Fg1}{mu mu':List cN}{H H':Hp}{r:Ev}{σ:L2.St}(e:Ext mu mu' H H')(h:fx K H mu r σ):fx K H' mu' r σ:=⟨h.len,λi d q=>by
 obtain⟨v,b,a⟩:=h.val i d q;exact⟨v,b,a.ext e⟩⟩
theorem KR.ext{κ:Type}{K:Fg1}{mu mu':List cN}{H H':Hp}{ks:List (κ×D)}{ws:List (κ×V)}(e:Ext mu mu' H H')(h:KR K H mu ks ws):KR K H' mu' ks ws:=
 Paired.mapP h λ_ _ z=>⟨z.1,z.2.ext e⟩
theorem KT.ext{K:Fg1}{mu mu':List cN}{H H':Hp}{ks:List (TK×D)}{ws:List (TK×cN×cK)}(e:Ext mu mu' H H')(h:KT K H mu ks ws):KT K H' mu' ks ws:=
 Paired.mapP h λ_ _ ⟨z,d,k,v,a,r⟩=>⟨z,d,k.ext e,v,a,r.ext e⟩
theorem Sim.nil{K:Fg1}{H:Hp}:Sim K H [] []:=⟨O,br,λn o a h=>by simp at h⟩
theorem Sim.here{K:Fg1}{H:Hp}{mu:List cN}{S:Sto}(s:Sim K H mu S){a:cN}(h:a∈mu):∃o,H a=Z o:=by
 obtain⟨n,b⟩:=bt h;have c:n<S.length:=by rw[<- s.len];exact(gE1.mp b).1
 have q:=s.ob n _ a (gG1 c) b;cases e:S[n]with
 |lst ds=>rw[e]at q;obtain⟨vs,z,_⟩:=q;exact⟨_,z⟩
 |dct ks=>rw[e]at q;obtain⟨vs,z,_⟩:=q;exact⟨_,z⟩
 |dcT ks=>rw[e]at q;obtain⟨vs,z,_⟩:=q;exact⟨_,z⟩
 |iset xs=>rw[e]at q;exact⟨_,q.1⟩
 |dcF ks=>rw[e]at q;obtain⟨vs,⟨_,_,z,_⟩,_⟩:=q;exact⟨_,z⟩
 |tst ks=>rw[e]at q;obtain⟨vs,z,_⟩:=q;exact⟨_,z⟩
def qT(K:Fg1)(mu:List cN)(H:Hp)(d:D)(S':Sto)(Q:VK):Prop:=∀v H' mu',Ext mu mu' H H'->eA K H' mu' d v->Sim K H' mu' S'->Q v H'
inductive tM (K:Fg1)(m:FE)(σ:L2.St)(H:Hp)(Q:VK):Prop
 |mk (r:Ev) (mu:List cN) (S:Sto) (d:D) (S':Sto) (he:fx K H mu r σ) (hs:Sim K H mu S) (hm:m r S=some (d,S')) (hc:qT K mu H d S' Q)
inductive xX (K:Fg1)(m:FT)(σ:L2.St)(H:Hp)(Q:Bool->Hp->Prop):Prop
 |mk (r:Ev) (mu:List cN) (S:Sto) (b:Bool) (S':Sto) (he:fx K H mu r σ) (hs:Sim K H mu S) (hm:m r S=some (b,S')) (hc:∀H' mu',Ext mu mu' H H'->Sim K H' mu' S'->Q b H')
inductive K6 (K:Fg1)(m:FA)(σ:L2.St)(H:Hp)(Q:List V->Hp->Prop):Prop
 |mk (r:Ev) (mu:List cN) (S:Sto) (ds:List D) (S':Sto) (he:fx K H mu r σ) (hs:Sim K H mu S) (hm:m r S=some (ds,S')) (hc:∀vs H' mu',Ext mu mu' H H'->dt K H' mu' ds vs->Sim K H' mu' S'->Q vs H')
def J8(K:Fg1)(mu:List cN)(H:Hp)(r':Ev)(S':Sto)(E:jn)(f:Fl):Prop:=match f with
 | .nx=>∀ σ' H' mu',Ext mu mu' H H'->fx K H' mu' r' σ'->Sim K H' mu' S'->E.nx σ' H'
 | .bk=>∀ σ' H' mu',Ext mu mu' H H'->fx K H' mu' r' σ'->Sim K H' mu' S'->E.bk σ' H'
 | .ct=>∀ σ' H' mu',Ext mu mu' H H'->fx K H' mu' r' σ'->Sim K H' mu' S'->E.ct σ' H'
 | .rt d=>qT K mu H d S' E.rt
inductive uW (K:Fg1)(m:FS)(E:jn)(σ:L2.St)(H:Hp):Prop
 |mk (r:Ev) (mu:List cN) (S:Sto) (f:Fl) (r':Ev) (S':Sto) (he:fx K H mu r σ) (hs:Sim K H mu S) (hm:m r S=some (f,r',S')) (hc:J8 K mu H r' S' E f)
inductive rN (K:Fg1)(f:FN)(vs:List V)(H:Hp)(Q:VK):Prop
 |mk (mu:List cN) (S:Sto) (ds:List D) (d:D) (S':Sto) (hr:dt K H mu ds vs) (hs:Sim K H mu S) (hm:f ds S=some (d,S')) (hc:qT K mu H d S' Q)
abbrev ME(X:Cx)(e:Expr)(m:FE):Prop:=PE X e (tM X.K m)
abbrev MT(X:Cx)(e:Expr)(m:FT):Prop:=PT X e (xX X.K m)
abbrev MW(X:Cx)(e:Expr)(m:FT):Prop:=PW X e (xX X.K m)
abbrev MA(X:Cx)(es:List Expr)(m:FA):Prop:=PA X es (K6 X.K m)
abbrev MS(X:Cx)(st:cY)(m:FS):Prop:=PS X st (uW X.K m)
abbrev xh(X:Cx)(st:List cY)(m:FS):Prop:=tq X st (uW X.K m)
section
variable{X:Cx}{e:Expr}{es:List Expr}{st:cY}{sts:List cY}
theorem em{t t':TE}(h:PE X e t)(i:∀ σ H Q,t' σ H Q->t σ H Q):PE X e t':=λag s σ H Q I q=>h ag s σ H Q I (i σ H Q q)
theorem pS{t t':TT}(h:PT X e t)(i:∀ σ H Q,t' σ H Q->t σ H Q):PT X e t':=λag s σ H Q I q=>h ag s σ H Q I (i σ H Q q)
theorem yp{t t':TT}(h:PW X e t)(i:∀ σ H Q,t' σ H Q->t σ H Q):PW X e t':=λa ag s σ H Q I q=>h a ag s σ H Q I (i σ H Q q)
theorem yK{t t':TA}(h:PA X es t)(i:∀ σ H Q,t' σ H Q->t σ H Q):PA X es t':=λpos ag s σ H Q I q=>h pos ag s σ H Q I (i σ H Q q)
theorem il{t t':TS}(h:PS X st t)(i:∀E σ H,t' E σ H->t E σ H):PS X st t':=λag s σ H E I q=>h ag s σ H E I (i E σ H q)
theorem pT{t t':TS}(h:tq X sts t)(i:∀E σ H,t' E σ H->t E σ H):tq X sts t':=λag s σ H E I q=>h ag s σ H E I (i E σ H q)
end
noncomputable def mV (i:Nat):FE:=λr S=>match r[i]? with
 |some (some d)=>some (d,S)
 |_=>none
noncomputable def mC (d:D):FE:=λ_ S=>some (d,S)
section
variable{X:Cx}{pos:Pos}
theorem Gd (i:Nat){x:Str}(hN:X.N[i]?=Z x)(hv:Vis X.env.scope x)(hd:(x == ("__debug__":Str))=J:=by decide)(hcd:(x == ("__classdict__":Str))=J:=by decide):ME X (.Name x pos) (mV i):=
 em (Fk hN hv hd hcd) <| by
  rintro σ H Q ⟨r,mu,S,d,j,g,f,a,hc⟩;unfold mV at a;split at a
  ·rename_i h e;cases a;obtain⟨v,b,c⟩:=g.val i _ e;exact⟨v,b,hc v H mu (.refl _ _) c f⟩
  ·cases a
theorem zh{e:Expr}{v:V}(d:D)(h:PE X e (tC v))(hr:∀H mu,eA X.K H mu d v):ME X e (mC d):=
 em h <| by
  rintro σ H Q ⟨r,mu,S,c,f,g,a,b,hc⟩;cases b;exact hc v H mu (.refl _ _) (hr H mu) a
theorem Gm{i:Int}{j}:ME X (.Constant (.int i) j pos) (mC (.int i)):=zh _ Fu λ_ _=>.int i
theorem IL{b:Bool}{j}:ME X (.Constant (.bool b) j pos) (mC (.bl b)):=zh _ Iq λ_ _=>.bl b
theorem Gj{j}:ME X (.Constant .none j pos) (mC .non):=zh _ Fs λ_ _=>.non
theorem Gf{x:Str}{j}:ME X (.Constant (.str x) j pos) (mC (.str x)):=zh _ Fn λ_ _=>.str x
end
def da:FA:=λ_ S=>Z ([],S)
noncomputable def c9 (m:FE)(n:FA):FA:=λr S=>(m r S).bind λp=>(n r p.2).bind λq=>some (p.1::q.1,q.2)
section
variable{X:Cx}{pos:Pos}{e:Expr}{es:List Expr}{m:FE}{n:FA}
theorem Gp:MA X [] da:=yK lA <| by
 rintro σ H Q ⟨r,mu,S,ds,d,c,b,a,hc⟩;cases a;exact hc [] H mu (.refl _ _) .nil b
theorem Cr(h:ME X e m)(ht:MA X es n)(hs:cS (e::es) X.env=(J,eval e X.env)::cS es X.env:=by rfl):MA X (e::es) (c9 m n):=
 yK (iR h ht hs) <| by
  rintro σ H Q ⟨r,mu,S,ds,s,g,hs,a,hc⟩;unfold c9 at a;obtain⟨⟨d,f⟩,k,a⟩:=oB1.mp a;obtain⟨⟨b,q⟩,p,a⟩:=oB1.mp a;cases a;refine⟨r,mu,S,d,f,g,hs,k,λv H1 mu1 i l o=>?_⟩;refine⟨r,mu1,f,b,_,g.ext i,o,p,λvs H2 c x2 r2 j=>?_⟩;exact hc _ H2 c (i.trans x2) (.cons (l.ext x2) r2) j
end
noncomputable def m2 (f:FN)(a b:FE):FE:=λr S=>(a r S).bind λp=>(b r p.2).bind λq=>f [p.1,q.1] q.2
noncomputable def m1 (f:FN)(a:FE):FE:=λr S=>(a r S).bind λp=>f [p.1] p.2
noncomputable def mN (f:FN)(a:FA):FE:=λr S=>(a r S).bind λp=>f p.1 p.2
abbrev r2(K:Fg1)(f:FN):R2:=λx y H Q=>rN K f [x,y] H Q
section
variable{X:Cx}{K:Fg1}{f:FN}{a b:FE}{σ:L2.St}{H:Hp}{Q:VK}
theorem vt(h:tM K (m2 f a b) σ H Q):HP (r2 K f) (tM K a) (tM K b) σ H Q:=by
 obtain⟨r,mu,S,d,z,k,s,c,hc⟩:=h;obtain⟨⟨i,l⟩,y,c⟩:=oB1.mp c;obtain⟨⟨j,m⟩,q,c⟩:=oB1.mp c;refine⟨r,mu,S,i,l,k,s,y,λv H1 mu1 n t A=>?_⟩;refine⟨r,mu1,l,j,m,k.ext n,A,q,λu H2 e x2 r2 o=>?_⟩;exact⟨e,m,[i,j],d,z,.cons (t.ext x2) (.cons r2 .nil),o,c,λv x g B p w=>hc v x g ((n.trans x2).trans B) p w⟩
theorem IM(h:tM K (m1 f a) σ H Q):K5 (λx H Q=>rN K f [x] H Q) (tM K a) σ H Q:=by
 obtain⟨r,mu,S,d,m,p,o,c,hc⟩:=h;obtain⟨⟨e,g⟩,i,c⟩:=oB1.mp c;refine⟨r,mu,S,e,g,p,o,i,λv H1 mu1 k j n=>?_⟩;exact⟨mu1,g,[e],d,m,.cons j .nil,n,c,λv t b q l s=>hc v t b (k.trans q) l s⟩
theorem zl{a:FA}(h:tM K (mN f a) σ H Q):K6 K a σ H λvs H1=>rN K f vs H1 Q:=by
 obtain⟨r,mu,S,d,m,p,o,c,hc⟩:=h;obtain⟨⟨e,g⟩,i,c⟩:=oB1.mp c;refine⟨r,mu,S,e,g,p,o,i,λv H1 mu1 k j n=>?_⟩;exact⟨mu1,g,e,d,m,j,n,c,λv t b q l s=>hc v t b (k.trans q) l s⟩
theorem II{op:Operator}{x y:Expr}{pos:Pos}(ho:fJ X (binaryOp op) (r2 X.K f))(hx:ME X x a)(hy:ME X y b):ME X (.BinOp x op y pos) (m2 f a b):=em (Im ho hx hy) λ_ _ _=>vt
theorem IH{op:UnaryOp}{x:Expr}{pos:Pos}(ho:HC X (unaryOp op) (λx H Q=>rN X.K f [x] H Q))(hx:ME X x a):ME X (.UnaryOp op x pos) (m1 f a):=em (Il ho hx) λ_ _ _=>IM
theorem Gn{op:CmpOp}{x y:Expr}{pos:Pos}(ho:fJ X (compareOp op) (r2 X.K f))(hx:ME X x a)(hy:ME X y b)(hm:behindInMarks op y=J):ME X (.Compare x [op] [y] pos) (m2 f a b):=em (BX ho hx hy hm) λ_ _ _=>vt
theorem IJ{x y:Expr}{pos:Pos}(ho:Ed X (r2 X.K f))(hx:ME X x a)(hy:ME X y b)(hs:mY y):ME X (.Subscript x y pos) (m2 f a b):=em (Io ho hx hy hs) λ_ _ _=>vt
theorem zg {x:Str}{p pos:Pos}{e:Expr}{es:List Expr}{id:String}{a:FA}(hc:eH X (.builtin id) (rN X.K f))(hg:Gl X x)(hm:X.mg x=none)(hv:bootBuiltins x=some (.builtin id))(ha:MA X (e::es) a)(hn:x≠"__name__":=by decide)(hdb:(x == ("__debug__":Str))=false:=by decide)
  (he:cS (e::es) X.env=(J,eval e X.env)::cS es X.env:=by rfl) (hpl:(backTo pos (cS es X.env)).any (·.1)=J:=by rfl):ME X (.Call (.Name x p) (e::es) [] pos) (mN f a):=
 em (kX hc hg hm hv ha hn hdb he hpl) λ_ _ _=>zl
theorem wF {x:Str}{p pos:Pos}{e:Expr}{es:List Expr}{T:String}{a:FA}(hc:eH X (.type T) (rN X.K f))(hg:Gl X x)(hm:X.mg x=none)(hv:bootBuiltins x=some (.type T))(ha:MA X (e::es) a)(hn:x≠"__name__":=by decide)(hdb:(x == ("__debug__":Str))=false:=by decide)
  (he:cS (e::es) X.env=(J,eval e X.env)::cS es X.env:=by rfl) (hpl:(backTo pos (cS es X.env)).any (·.1)=J:=by rfl):ME X (.Call (.Name x p) (e::es) [] pos) (mN f a):=
 em (lz hc hg hm hv ha hn hdb he hpl) λ_ _ _=>zl
end
noncomputable def mB (m:FE):FT:=λr S=>(m r S).bind λp=>match p.1 with
 | .bl b=>some (b,p.2)
 |_=>none
theorem DU{K:Fg1}{m:FE}{σ:L2.St}{H:Hp}{Q:Bool->Hp->Prop}(h:xX K (mB m) σ H Q):tB (tM K m) σ H Q:=by
 obtain⟨r,mu,S,b,n,i,g,a,hc⟩:=h;obtain⟨⟨c,l⟩,d,a⟩:=oB1.mp a;cases c with
 |bl k=>
  cases a;refine⟨r,mu,S,_,_,i,g,d,λv H1 mu1 j e f=>?_⟩;cases e;exact⟨_,O,hc H1 mu1 j f⟩
 |_=>cases a
def zp(a b:FT):FT:=λr S=>(a r S).bind λp=>if p.1=M then b r p.2 else Z (J,p.2)
def iV(a b:FT):FT:=λr S=>(a r S).bind λp=>if p.1=M then Z (M,p.2)else b r p.2
def ev(a:FT):FT:=λr S=>(a r S).bind λp=>Z (!p.1,p.2)
def eY(a b:FE):FE:=λr S=>(a r S).bind λp=>match p.1 with
 | .bl c=>if c=M then b r p.2 else Z (.bl J,p.2)
 |_=>Y
def LR(a b:FE):FE:=λr S=>(a r S).bind λp=>match p.1 with
 | .bl c=>if c=M then Z (.bl M,p.2)else b r p.2
 |_=>Y
def r4(a:FE):FE:=λr S=>(a r S).bind λp=>match p.1 with
 | .bl c=>Z (.bl (!c),p.2)
 |_=>Y
def JL(c:FT)(a b:FE):FE:=λr S=>(c r S).bind λp=>if p.1=M then a r p.2 else b r p.2
section
variable{X:Cx}{x y c:Expr}{rest:List Expr}{pos:Pos}{a b:FT}{f g:FE}
theorem F2{op:CmpOp}{f:FN}{a b:FE}(ho:fJ X (compareOp op) (r2 X.K f))(hx:ME X x a)(hy:ME X y b)(hm:behindInMarks op y=J):MT X (.Compare x [op] [y] pos) (mB (m2 f a b)):=
 pS (BH ho hx hy hm) fun σ H Q h=>by
  obtain⟨r,mu,S,d,e,j,i,hm,hc⟩:=DU h;exact vt ⟨r,mu,S,d,e,j,i,hm,λv H' mu' k c g=>hc v H' mu' k c g⟩
theorem Cc(ha:MT X x a):MW X (.BoolOp .And [x] pos) a:=BD ha
theorem FZ(ha:MT X x a):MW X (.BoolOp .Or [x] pos) a:=E6 ha
theorem F0(ha:MT X x a)(hb:MW X (.BoolOp .And (y::rest) pos) b):MW X (.BoolOp .And (x::y::rest) pos) (zp a b):=
 yp (E7 ha hb) <| by
  rintro σ H Q ⟨r,mu,S,k,l,h,m,c,hc⟩;obtain⟨⟨b1,f⟩,j,c⟩:=oB1.mp c;refine⟨r,mu,S,b1,f,h,m,j,λH1 mu1 e g=>?_⟩;cases b1 with
  |true=>exact⟨r,mu1,f,k,l,h.ext e,g,c,λH2 d x2 i=>hc H2 d (e.trans x2) i⟩
  |false=>cases c;exact hc H1 mu1 e g
theorem IE(ha:MT X x a)(hb:MW X (.BoolOp .Or (y::rest) pos) b):MW X (.BoolOp .Or (x::y::rest) pos) (iV a b):=
 yp (Ig ha hb) <| by
  rintro σ H Q ⟨r,mu,S,k,l,h,m,c,hc⟩;obtain⟨⟨b1,f⟩,j,c⟩:=oB1.mp c;refine⟨r,mu,S,b1,f,h,m,j,λH1 mu1 e g=>?_⟩;cases b1 with
  |false=>exact⟨r,mu1,f,k,l,h.ext e,g,c,λH2 d x2 i=>hc H2 d (e.trans x2) i⟩
  |true=>cases c;exact hc H1 mu1 e g
theorem Kz(h:MW X x a):MT X x a:=PW.pt h
theorem F1(ha:MT X x a):MT X (.UnaryOp .Not x pos) (ev a):=
 pS (E9 ha) <| by
  rintro σ H Q ⟨r,mu,S,k,i,g,f,b,hc⟩;obtain⟨⟨b1,c⟩,d,b⟩:=oB1.mp b;cases b;exact⟨r,mu,S,b1,c,g,f,d,λH1 mu1 h e=>hc H1 mu1 h e⟩
theorem Gh{op}(h:ME X x f):ME X (.BoolOp op [x] pos) f:=Fp h
theorem Go(ha:ME X x f)(hb:ME X (.BoolOp .And (y::rest) pos) g):ME X (.BoolOp .And (x::y::rest) pos) (eY f g):=
 em (Fv ha hb) <| by
  rintro σ H Q ⟨r,mu,S,k,o,i,p,a,hc⟩;obtain⟨⟨d,e⟩,m,a⟩:=oB1.mp a;refine⟨r,mu,S,d,e,i,p,m,λv H1 mu1 c n h=>?_⟩;cases d with
  |bl b1=>
   cases n;refine⟨b1,O,?_⟩;cases b1 with
   |true=>exact⟨r,mu1,e,k,o,i.ext c,h,a,λj H2 b x2 r2 l=>hc j H2 b (c.trans x2) r2 l⟩
   |false=>cases a;exact hc _ H1 mu1 c (.bl J) h
  |_=>cases a
theorem Gi(ha:ME X x f):ME X (.UnaryOp .Not x pos) (r4 f):=
 em (Fq ha) <| by
  rintro σ H Q ⟨r,mu,S,k,l,i,h,a,hc⟩;obtain⟨⟨b,c⟩,d,a⟩:=oB1.mp a;refine⟨r,mu,S,b,c,i,h,d,λv H1 mu1 j e g=>?_⟩;cases b with
  |bl b1=>
   cases e;cases a;exact⟨b1,O,hc _ H1 mu1 j (.bl _) g⟩
  |_=>cases a
theorem IK(hc:MT X c a)(hx:ME X x f)(hy:ME X y g):ME X (.IfExp c x y pos) (JL a f g):=
 em (yG hc hx hy) <| by
  rintro σ H Q ⟨r,mu,S,k,m,l,p,d,hc⟩;obtain⟨⟨b1,j⟩,o,d⟩:=oB1.mp d;refine⟨r,mu,S,b1,j,l,p,o,λH1 mu1 e n=>?_⟩;cases b1 with
  |true=>exact⟨r,mu1,j,k,m,l.ext e,n,d,λh H2 b x2 r2 i=>hc h H2 b (e.trans x2) r2 i⟩
  |false=>exact⟨r,mu1,j,k,m,l.ext e,n,d,λh H2 b x2 r2 i=>hc h H2 b (e.trans x2) r2 i⟩
end
def me(f g:FN)(a b c:FE):FE:=λr S=>(a r S).bind λp=>(b r p.2).bind λq=>(f [p.1,q.1] q.2).bind λt=>match t.1 with
 | .bl k=>if k=M then(c r t.2).bind λz=>g [q.1,z.1] z.2 else Z (.bl J,t.2)
 |_=>Y
section
variable{X:Cx}{x y z:Expr}{pos:Pos}{f g:FN}{a b c:FE}{op op':CmpOp}
theorem zo{K:Fg1}{σ:L2.St}{H:Hp}{Q:VK}(h:tM K (me f g a b c) σ H Q):tP (r2 K f) (r2 K g) (tM K a) (tM K b) (tM K c) σ H Q:=by
 obtain⟨r,mu,S,d,U,p,F,e,hc⟩:=h;obtain⟨⟨w,y⟩,ar,e⟩:=oB1.mp e;obtain⟨⟨n,z⟩,D,e⟩:=oB1.mp e;obtain⟨⟨A,u⟩,ao,e⟩:=oB1.mp e;refine⟨r,mu,S,w,y,p,F,ar,λv1 H1 mu1 j G V=>?_⟩;refine⟨r,mu1,y,n,z,p.ext j,V,D,λaq H2 o x2 r2 B=>?_⟩;refine⟨o,z,[w,n],A,u,.cons (G.ext x2) (.cons r2 .nil),B,ao,λv3 L i l C x=>?_⟩;cases A with
 |bl k=>
  cases C;refine⟨k,O,?_⟩;cases k with
  |false=>cases e;exact hc _ L i ((j.trans x2).trans l) (.bl J) x
  |true=>
   obtain⟨⟨v,t⟩,W,e⟩:=oB1.mp e;refine⟨r,i,u,v,t,p.ext ((j.trans x2).trans l),x,W,λX wq m s am T=>?_⟩;exact⟨m,t,[n,v],d,U,.cons ((r2.ext l).ext s) (.cons am .nil),T,e,λP R q E N I=>hc P R q ((((j.trans x2).trans l).trans s).trans E) N I⟩
 |_=>cases e
theorem zf(ho:fJ X (compareOp op) (r2 X.K f))(ho':fJ X (compareOp op') (r2 X.K g))(hx:ME X x a)(hy:ME X y b)(hz:ME X z c)(hm:lastMarks [op,op'] [y,z]=false:=by with_unfolding_all rfl):
  ME X (.Compare x [op,op'] [y,z] pos) (me f g a b c):=em (yJ ho ho' hx hy hz hm) λ_ _ _=>zo
theorem y2(ho:fJ X (compareOp op) (r2 X.K f))(ho':fJ X (compareOp op') (r2 X.K g))(hx:ME X x a)(hy:ME X y b)(hz:ME X z c)(hm:lastMarks [op,op'] [y,z]=false:=by with_unfolding_all rfl):
  MT X (.Compare x [op,op'] [y,z] pos) (mB (me f g a b c)):=
 pS (yu ho ho' hx hy hz hm) fun σ H Q h=>by
  obtain⟨r,mu,S,d,i,l,k,hm,hc⟩:=DU h;exact zo ⟨r,mu,S,d,i,l,k,hm,λv H' mu' m e j=>hc v H' mu' m e j⟩
end
mutual
def D.und(n:Nat):D->Bool
 | .tup xs=>D.unds n xs
 | .rol xs=>D.unds n xs
 | .ref k=>decide (k<n)
 | .non=>M
 | .bl _=>M
 | .int _=>M
 | .str _=>M
 | .fn _=>M
def D.unds(n:Nat):List D->Bool
 |[]=>M
 |d::ds=>D.und n d&&D.unds n ds
end
def D.sames(a b:List D):Bool:=@decide (a=b) (Classical.propDecidable _)
theorem D.sames_eq{a b:List D}(h:D.sames a b=M):a=b:=@of_decide_eq_true _ (Classical.propDecidable _) h
theorem D.sames_refl(a:List D):D.sames a a=M:=@decide_eq_true _ (Classical.propDecidable _) O
section
variable{K:Fg1}{H:Hp}{mu mu':List cN}
theorem eA.cut{n:Nat}(h:∀ k,k<n->mu[k]? = mu'[k]?):∀ {d:D} {v:V},eA K H mu d v->d.und n=true->eA K H mu' d v:=fun c=>c.rec (motive_1:=fun d v _=>d.und n=true->eA K H mu' d v) (motive_2:=fun ds vs _=>D.unds n ds=true->dt K H mu' ds vs)
  (λ_=>.non) (λb _=>.bl b) (λi _=>.int i) (λx _=>.str x) (λq _ ih e=>.tup q (ih (by rw[D.und]at e;exact e))) (λq _ ih e=>.rol q (ih (by rw[D.und]at e;exact e)))
  (λq e=>.ref (by rw[D.und]at e;rw[<- h _ (of_decide_eq_true e)];exact q)) (λq _=>.fn q) (λ_=>.nil) (λ_ _ a b e=>by rw[D.unds,bA1]at e;exact .cons (a e.1) (b e.2))
theorem dt.cut{n:Nat}(h:∀k,k<n->mu[k]?=mu'[k]?):∀{ds:List D} {vs:List V},dt K H mu ds vs->D.unds n ds=M->dt K H mu' ds vs:=λa=>a.ind (P:=λds vs _=>D.unds n ds=M->dt K H mu' ds vs) (λ_=>.nil) λr _ b e=>by rw[D.unds,bA1]at e;exact .cons (eA.cut h r e.1) (b e.2)
end
def Ob.und(n:Nat):Ob->Bool
 | .lst xs=>D.unds n xs
 | .dct kvs=>D.unds n (kvs.map (·.2))
 | .dcT kvs=>D.unds n (kvs.map (·.2))
 | .iset _=>M
 | .dcF kvs=>D.unds n (kvs.map (·.2))
 | .tst _=>M
theorem KR.cut{κ:Type}{K:Fg1}{H:Hp}{mu mu':List cN}{n:Nat}(h:∀k,k<n->mu[k]?=mu'[k]?):∀{ks:List (κ×D)} {ws:List (κ×V)},KR K H mu ks ws->D.unds n (ks.map (·.2))=M->KR K H mu' ks ws:=by
 intro ks ws a e
 induction a with
 |nil=>exact .nil
 |cons r t ih=>
  rw[mP1,D.unds,bA1]at e;exact .cons ⟨r.1,r.2.cut h e.1⟩ (ih e.2)
mutual
theorem xU(n:Nat):∀k:TK,(om k).und n=M
 | .non=>rfl
 | .int _=>rfl
 | .tup xs=>by rw[om,D.und];exact uU n xs
theorem uU(n:Nat):∀ks:List TK,D.unds n (mz ks)=M
 |[]=>rfl
 |x::xs=>by rw[mz,D.unds,xU n x,uU n xs];rfl
end
theorem KT.cut{K:Fg1}{H:Hp}{mu mu':List cN}{n:Nat}(h:∀k,k<n->mu[k]?=mu'[k]?):∀{ks:List (TK×D)} {ws:List (TK×cN×cK)},KT K H mu ks ws->D.unds n (ks.map (·.2))=M->KT K H mu' ks ws:=by
 intro ks ws a e
 induction a with
 |nil=>exact .nil
 |cons r t ih=>
  rw[mP1,D.unds,bA1]at e;obtain⟨z,d,k,v,b,r⟩:=r;exact .cons ⟨z,d,k.cut h (xU n _),v,b,r.cut h e.1⟩ (ih e.2)
theorem vj(n:Nat):∀ks:List TK,D.unds n ((ks.map λk=>(k,D.non)).map (·.2))=M
 |[]=>rfl
 |_::ks=>by rw[mP1,mP1,D.unds,vj n ks];rfl
theorem ot.cut{K:Fg1}{H:Hp}{mu mu':List cN}{n:Nat}{a:cN}(h:∀k,k<n->mu[k]?=mu'[k]?):∀{o:Ob},ot K H mu a o->o.und n=M->ot K H mu' a o
 | .lst _,⟨vs,e,r⟩,b=>⟨vs,e,r.cut h b⟩
 | .dct _,⟨ws,e,r⟩,b=>⟨ws,e,KR.cut h r b⟩
 | .dcT _,⟨ws,e,r,l⟩,b=>⟨ws,e,KT.cut h r b,l⟩
 | .iset _,q,_=>q
 | .dcF _,⟨ws,e,r,l⟩,b=>⟨ws,e,KT.cut h r b,l⟩
 | .tst ks,⟨ws,e,r⟩,_=>⟨ws,e,KT.cut h r (vj n ks)⟩
def gc(n:Nat)(p:D×Sto):D×Sto:=if p.1.und n&&(p.2.take n).all (Ob.und n)then(p.1,p.2.take n)else p
mutual
def D.sh(n:Nat):D->D
 | .tup xs=>.tup (D.shs n xs)
 | .rol xs=>.rol (D.shs n xs)
 | .ref k=>.ref (n+k)
 | .fn x=>.fn x
 | .non=>.non
 | .bl b=>.bl b
 | .int i=>.int i
 | .str x=>.str x
def D.shs(n:Nat):List D->List D
 |[]=>[]
 |d::ds=>D.sh n d::D.shs n ds
end
def Ob.sh(n:Nat):Ob->Ob
 | .lst xs=>.lst (D.shs n xs)
 | .dct kvs=>.dct (kvs.map λp=>(p.1,p.2.sh n))
 | .dcT kvs=>.dcT (kvs.map λp=>(p.1,p.2.sh n))
 | .iset xs=>.iset xs
 | .dcF kvs=>.dcF (kvs.map λp=>(p.1,p.2.sh n))
 | .tst ks=>.tst ks
theorem eA.sh{K:Fg1}{H:Hp}{mu mu':List cN}:∀ {d:D} {v:V},eA K H mu' d v->eA K H (mu++mu') (d.sh mu.length) v:=fun c=>c.rec (motive_1:=fun d v _=>eA K H (mu++mu') (d.sh mu.length) v) (motive_2:=fun ds vs _=>dt K H (mu++mu') (D.shs mu.length ds) vs)
  .non .bl .int .str (λh _ ih=>.tup h ih) (λh _ ih=>.rol h ih) (λh=>.ref (by rw[gR1 (Nat.le_add_right _ _),Nat.add_sub_cancel_left];exact h)) (λh=>.fn h) .nil (λ_ _ a b=>.cons a b)
theorem dt.sh{K:Fg1}{H:Hp}{mu mu':List cN}:∀{ds:List D} {vs:List V},dt K H mu' ds vs->dt K H (mu++mu') (D.shs mu.length ds) vs:=λh=>h.ind (P:=λds vs _=>dt K H (mu++mu') (D.shs mu.length ds) vs) .nil λr _ ih=>.cons (eA.sh r) ih
theorem KR.sh{κ:Type}{K:Fg1}{H:Hp}{mu mu':List cN}:∀{ks:List (κ×D)} {ws:List (κ×V)},KR K H mu' ks ws->KR K H (mu++mu') (ks.map λp=>(p.1,p.2.sh mu.length)) ws:=by
 intro ks ws h
 induction h with
 |nil=>exact .nil
 |cons r t ih=>exact .cons ⟨r.1,r.2.sh⟩ ih
mutual
theorem DF(n:Nat):∀k:TK,(om k).sh n=om k
 | .non=>rfl
 | .int _=>rfl
 | .tup xs=>by rw[om,D.sh,xS n xs]
theorem xS(n:Nat):∀ks:List TK,D.shs n (mz ks)=mz ks
 |[]=>rfl
 |x::xs=>by rw[mz,D.shs,DF n x,xS n xs]
end
theorem KT.sh{K:Fg1}{H:Hp}{mu mu':List cN}:∀{ks:List (TK×D)} {ws:List (TK×cN×cK)},KT K H mu' ks ws->KT K H (mu++mu') (ks.map λp=>(p.1,p.2.sh mu.length)) ws:=by
 intro ks ws h
 induction h with
 |nil=>exact .nil
 |cons r t ih=>
  obtain⟨z,d,k,v,a,r⟩:=r;exact .cons ⟨z,d,by have:=k.sh (mu:=mu);rw[DF]at this;exact this,v,a,r.sh⟩ ih
theorem ot.sh{K:Fg1}{H:Hp}{mu mu':List cN}{a:cN}:∀{o:Ob},ot K H mu' a o->ot K H (mu++mu') a (o.sh mu.length)
 | .lst _,⟨vs,e,r⟩=>⟨vs,e,r.sh⟩
 | .dct _,⟨ws,e,r⟩=>⟨ws,e,KR.sh r⟩
 | .dcT _,⟨ws,e,r,l⟩=>⟨ws,e,KT.sh r,l⟩
 | .iset _,q=>q
 | .dcF _,⟨ws,e,r,l⟩=>⟨ws,e,KT.sh r,l⟩
 | .tst ks,⟨ws,e,r⟩=>⟨ws,e,by have:=KT.sh (mu:=mu) r;rw[bu]at this;exact this⟩
theorem eA.mor{K:Fg1}{H:Hp}{mu:List cN}(mu':List cN):∀{d:D} {v:V},eA K H mu d v->eA K H (mu++mu') d v:=λh=>h.exv ⟨bv _ _,λ_ _ h=>h,λ_ _ _ h=>h⟩
theorem dt.mor{K:Fg1}{H:Hp}{mu:List cN}(mu':List cN):∀{ds:List D} {vs:List V},dt K H mu ds vs->dt K H (mu++mu') ds vs:=λh=>h.exv ⟨bv _ _,λ_ _ h=>h,λ_ _ _ h=>h⟩
theorem KR.mor{κ:Type}{K:Fg1}{H:Hp}{mu:List cN}(mu':List cN){ks:List (κ×D)}{ws:List (κ×V)}(h:KR K H mu ks ws):KR K H (mu++mu') ks ws:=Paired.mapP h λ_ _ z=>⟨z.1,z.2.mor mu'⟩
theorem ot.mor{K:Fg1}{H:Hp}{mu:List cN}{a:cN}(mu':List cN):∀{o:Ob},ot K H mu a o->ot K H (mu++mu') a o
 | .lst _,⟨vs,e,r⟩=>⟨vs,e,r.mor mu'⟩
 | .dct _,⟨ws,e,r⟩=>⟨ws,e,KR.mor mu' r⟩
 | .dcT _,⟨ws,e,r,l⟩=>⟨ws,e,Paired.mapP r λ_ _ ⟨z,d,k,v,b,r⟩=>⟨z,d,k.mor mu',v,b,r.mor mu'⟩,l⟩
 | .iset _,q=>q
 | .dcF _,⟨ws,e,r,l⟩=>⟨ws,e,Paired.mapP r λ_ _ ⟨z,d,k,v,b,r⟩=>⟨z,d,k.mor mu',v,b,r.mor mu'⟩,l⟩
 | .tst _,⟨ws,e,r⟩=>⟨ws,e,Paired.mapP r λ_ _ ⟨z,d,k,v,b,r⟩=>⟨z,d,k.mor mu',v,b,r.mor mu'⟩⟩
def pp(f:FN):FN:=λds S=>if D.unds 0 ds=M then(f ds []).map λp=>if p.1.und 0=M then(p.1,S)else(p.1.sh S.length,S++p.2.map (Ob.sh S.length))else(f ds S).map (gc S.length)
theorem ot.keep{K:Fg1}{H H':Hp}{mu:List cN}{a:cN}(e:Ext mu mu H H')(h:∀o,H a=Z o->H' a=Z o):∀{o:Ob},ot K H mu a o->ot K H' mu a o
 | .lst _,⟨vs,q,r⟩=>⟨vs,h _ q,r.ext e⟩
 | .dct _,⟨ws,q,r⟩=>⟨ws,h _ q,KR.ext e r⟩
 | .dcT _,⟨ws,q,r,l⟩=>⟨ws,h _ q,KT.ext e r,l⟩
 | .iset _,q=>⟨h _ q.1,q.2⟩
 | .dcF _,⟨ws,⟨o,u,c,b⟩,r,l⟩=>⟨ws,⟨o,u,h _ c,b⟩,KT.ext e r,l⟩
 | .tst _,⟨ws,q,r⟩=>⟨ws,h _ q,KT.ext e r⟩
theorem Az{K:Fg1}{f:FN}{vs:List V}{H:Hp}{Q:VK}(h:rN K (pp f) vs H Q):rN K f vs H Q:=by
 obtain⟨mu,S,ds,d,L,C,c,g,hc⟩:=h;unfold pp at g;split at g
 ·rename_i j;obtain⟨⟨u,p⟩,B,g⟩:=oM1.mp g;refine⟨[],[],ds,u,p,C.cut (n:=0) (λk i=>absurd i (bw _)) j,.nil,B,λv H' mu' x r s=>?_⟩;have w:Ext mu mu H H':=⟨bp,λa o e _=>x.old a o e (by simp),x.tup,x.frz,λ_ z=>.inl z⟩;dsimp only at g;split at g
  ·rename_i am;cases g;refine hc v H' mu w (r.cut (n:=0) (λk i=>absurd i (bw _)) am) ⟨c.len,c.nd,λn o a h1 h2=>?_⟩;exact(c.ob n o a h1 h2).keep w λo e=>x.old a o e (by simp)
  ·cases g;have E:∀ a∈mu',H a=none:=fun a A=>(x.new a A).resolve_left (by simp);have x2:Ext mu (mu++mu') H H':=⟨bv _ _,fun a o e _=>x.old a o e (by simp),x.tup,x.frz,fun a z=>by
    rcases aE.mp z with z|z
    ·exact .inl z
    ·exact .inr (E a z)⟩
   refine hc v H' (mu++mu') x2 (by rw[<- c.len];exact r.sh) ⟨by rw[lA1,lA1,lM1,c.len,s.len],?_,λn o a h1 h2=>?_⟩
   ·refine bx.mpr ⟨c.nd,s.nd,λa A b j z=>?_⟩;subst z;obtain⟨o,e⟩:=c.here A;rw[E a j]at e;cases e
   ·by_cases l:n<S.length
    ·rw[gL1 l]at h1;rw[gL1 (by rw[c.len];exact l)]at h2;exact((c.ob n o a h1 h2).keep w λo e=>x.old a o e (by simp)).mor mu'
    ·have m:=Nat.le_of_not_lt l;rw[gR1 m]at h1;rw[gR1 (by rw[c.len];exact m)]at h2;rw[gP1]at h1;obtain⟨I,F,G⟩:=oM1.mp h1;subst G;have q:=s.ob (n-S.length) I a F (by rw[c.len]at h2;exact h2);rw[<- c.len];exact q.sh
 ·obtain⟨⟨u,p⟩,B,g⟩:=oM1.mp g;refine⟨mu,S,ds,u,p,C,c,B,λv H' mu' x r s=>?_⟩;unfold gc at g;split at g
  ·rename_i j;cases g;rw [bA1] at j;have i:∀ k,k<S.length->mu'[k]? = mu[k]?:=fun k i=>by
    obtain⟨t,rfl⟩:=x.pre;rw[gL1 (by rw[c.len];exact i)]
   refine hc v H' mu x.back (r.cut i j.1) ⟨?_,c.nd,λn o a h1 h2=>?_⟩
   ·have:=s.len;have D:=x.pre.length_le;rw[aO,<- s.len];rw[c.len]at D ⊢;exact(Nat.min_eq_left D).symm
   ·have l:n<S.length:=by rw[<- c.len];exact(gE1.mp h2).1
    have y:p[n]?=Z o:=by rw[aQ l]at h1;exact h1
    refine(s.ob n o a y ((i n l).trans h2)).cut i ?_;exact bA.mp j.2 o (gM1 h1)
  ·cases g;exact hc v H' mu' x r s
def spM(K:Fg1)(n:Nat)(f:FN):Sp:=λvs H Q _=>vs.length=n/\rN K f vs H Q
section
variable{X:Cx}{k n:Nat}{f:cN}{fd:cX}{ps:List Str}{x:Str}{p pos:Pos}{e:Expr}{es:List Expr}{m:FN}{a:FA}
noncomputable def db (n:Nat)(f:FN):FN:=λds S=>if ds.length=n then pp f ds S else none
theorem Cq (F:lT X.prog X.w X.K X.mg X.base sZ k f fd ps (spM X.K n m))(hr:ga k X.A)(hg:Gl X x)(hm:X.mg x=some (.ref f))(hk:wK1 X.K (.ref f)=true)(hb:jN X.K fd ps [])
  (ha:MA X (e::es) a) (hdb:(x == ("__debug__":Str))=J:=by decide) (he:cS (e::es) X.env=(J,eval e X.env)::cS es X.env:=by rfl) (hpl:(backTo pos (cS es X.env)).any (·.1)=J:=by rfl):
  ME X (.Call (.Name x p) (e::es) [] pos) (mN (db n m) a):=
 em (BY (E:=E0) F hr hg hm hk hb .nil Ir ha hdb he hpl) fun σ H Q h=>by
  obtain⟨r,mu,S,ds,o,he,v,hm,hc⟩:=zl h;refine⟨r,mu,S,ds,o,he,v,hm,λvs H' mu' l i t=>?_⟩;have q:=hc vs H' mu' l i t;show spM X.K n m (vs++[]) H' Q E0;rw[aK];obtain⟨d,g,c,j,w,h1,h2,b,u⟩:=q;unfold db at b;split at b
  ·rename_i s;exact⟨by rw[<- h1.length];exact s,Az ⟨d,g,c,j,w,h1,h2,b,u⟩⟩
  ·cases b
end
def hB:FS:=λr S=>Z (.nx,r,S)
noncomputable def dq (a b:FS):FS:=λr S=>(a r S).bind λp=>match p.1 with
 | .nx=>b p.2.1 p.2.2
 |f=>some (f,p.2.1,p.2.2)
noncomputable def dJ (m:FE):FS:=λr S=>(m r S).bind λp=>some (.rt p.1,r,p.2)
def K9:FS:=λr S=>Z (.rt .non,r,S)
noncomputable def iF (m:FE):FS:=λr S=>(m r S).bind λp=>some (.nx,r,p.2)
noncomputable def eg (c:FT)(a b:FS):FS:=λr S=>(c r S).bind λp=>if p.1=true then a r p.2 else b r p.2
section
variable{X:Cx}{pos:Pos}{e c:Expr}{st:cY}{rest as bs:List cY}{a b:FS}{m:FE}{t:FT}
theorem Cf:xh X [] hB:=pT BK <| by
 rintro E σ H ⟨r,mu,S,f,d,e,c,a,b,hc⟩;cases b;exact hc σ H mu (.refl _ _) c a
theorem y6(h1:MS X st a)(h2:xh X rest b):xh X (st::rest) (dq a b):=pT (yv h1 h2) <| by
 rintro E σ H ⟨r,mu,S,f,p,q,t,s,g,hc⟩;obtain⟨⟨l,m,k⟩,n,g⟩:=oB1.mp g;refine⟨r,mu,S,l,m,k,t,s,n,?_⟩;cases l with
 |nx=>
  intro o H1 mu1 h j i;refine⟨m,mu1,k,f,p,q,j,i,g,?_⟩;cases f with
  |nx=>exact λe H2 c x2=>hc e H2 c (h.trans x2)
  |bk=>exact λe H2 c x2=>hc e H2 c (h.trans x2)
  |ct=>exact λe H2 c x2=>hc e H2 c (h.trans x2)
  |rt d=>exact λv H2 c x2=>hc v H2 c (h.trans x2)
 |bk=>cases g;exact hc
 |ct=>cases g;exact hc
 |rt d=>cases g;exact hc
theorem Ce(h1:MS X st a):xh X [st] a:=BJ h1
theorem Cg(h:ME X e m)(hs:swapsWith e Y pos.line X.env=pure J:=by rfl):MS X (.Expr e pos) (iF m):=il (BM h hs) <| by
 rintro E σ H ⟨r,mu,S,f,j,l,b,hs,a,hc⟩;obtain⟨⟨d,i⟩,c,a⟩:=oB1.mp a;cases a;exact⟨r,mu,S,d,_,b,hs,c,λv H' mu' x k g=>hc σ H' mu' x (b.ext x) g⟩
theorem F4(h:ME X e m):MS X (.Return (Z e) pos) (dJ m):=il (Fb h) <| by
 rintro E σ H ⟨r,mu,S,f,j,k,g,c,a,hc⟩;obtain⟨⟨d,i⟩,b,a⟩:=oB1.mp a;cases a;exact⟨r,mu,S,d,_,g,c,b,hc⟩
theorem IF(hc:MT X c t)(ha:xh X as a)(hb:xh X bs b):MS X (.If c as bs pos) (eg t a b):=il (Ii hc ha hb) <| by
 rintro E σ H ⟨r,mu,S,f,l,m,o,s,h,hc⟩;obtain⟨⟨k,j⟩,p,h⟩:=oB1.mp h;refine⟨r,mu,S,k,j,o,s,p,λH1 mu1 i q=>?_⟩;have n:∀c:FS,c r j=Z (f,l,m)->uW X.K c E σ H1:=λc h=>by
  refine⟨r,mu1,j,f,l,m,o.ext i,q,h,?_⟩;cases f with
  |nx=>exact λg H2 e x2=>hc g H2 e (i.trans x2)
  |bk=>exact λg H2 e x2=>hc g H2 e (i.trans x2)
  |ct=>exact λg H2 e x2=>hc g H2 e (i.trans x2)
  |rt d=>exact λv H2 e x2=>hc v H2 e (i.trans x2)
 cases k with
 |true=>exact n a h
 |false=>exact n b h
end
abbrev FG:=D->Ev->Sto->Option (Ev×Sto)
abbrev AZ:=List D->Ev->Sto->Option (Ev×Sto)
inductive EE (K:Fg1)(g:FG)(v:V)(σ:L2.St)(H:Hp)(Q:L2.St->Hp->Prop):Prop
 |mk (r:Ev) (mu:List cN) (S:Sto) (d:D) (r':Ev) (S':Sto) (he:fx K H mu r σ) (hs:Sim K H mu S) (hr:eA K H mu d v) (hm:g d r S=some (r',S')) (hc:∀ σ' H' mu',Ext mu mu' H H'->fx K H' mu' r' σ'->Sim K H' mu' S'->Q σ' H')
inductive J9 (K:Fg1)(g:AZ)(vs:List V)(σ:L2.St)(H:Hp)(Q:L2.St->Hp->Prop):Prop
 |mk (r:Ev) (mu:List cN) (S:Sto) (ds:List D) (r':Ev) (S':Sto) (he:fx K H mu r σ) (hs:Sim K H mu S) (hr:dt K H mu ds vs) (hm:g ds r S=some (r',S')) (hc:∀ σ' H' mu',Ext mu mu' H H'->fx K H' mu' r' σ'->Sim K H' mu' S'->Q σ' H')
abbrev MG(X:Cx)(e:Expr)(g:FG):Prop:=PG X e (EE X.K g)
abbrev Jv(X:Cx)(es:List Expr)(g:AZ):Prop:=Hu X es (J9 X.K g)
noncomputable def gN (i:Nat):FG:=λd r S=>some (r.set i (some d),S)
def mh:AZ:=λds r S=>match ds with
 |[]=>Z (r,S)
 |_=>Y
noncomputable def gn (g:FG)(gs:AZ):AZ:=λds r S=>match ds with
 |d::ds=>(g d r S).bind λp=>gs ds p.1 p.2
 |[]=>none
noncomputable def gT (n:Nat)(gs:AZ):FG:=λd r S=>match d with
 | .tup ds=>if ds.length=n then gs ds r S else none
 |_=>none
theorem fx.set{K:Fg1}{H:Hp}{mu:List cN}{r:Ev}{σ:L2.St}{i:Nat}{d:D}{v:V}(h:fx K H mu r σ)(q:eA K H mu d v):fx K H mu (r.set i (Z d)) (σ.set i (Z v)):=by
 refine⟨by rw[aT,aT];exact h.len,λj k e=>?_⟩;by_cases a:i=j
 ·subst a;have b:i<r.length:=by
   have:=(gE1.mp e).1
   rwa [aT]at this
  rw[aG b]at e;cases e;exact⟨v,aG (by rw[<- h.len];exact b),q⟩
 ·rw[gS1 a]at e;obtain⟨f,c,g⟩:=h.val j k e;exact⟨f,by rw[gS1 a];exact c,g⟩
section
variable{X:Cx}{pos:Pos}
theorem tX{e:Expr}{t t':TG}(h:PG X e t)(i:∀v σ H Q,t' v σ H Q->t v σ H Q):PG X e t':=λag s σ H v u Q I r q=>h ag s σ H v u Q I r (i v σ H Q q)
theorem u7{e:List Expr}{t t':Ec}(h:Hu X e t)(i:∀v σ H Q,t' v σ H Q->t v σ H Q):Hu X e t':=λag s σ H v u Q I r q=>h ag s σ H v u Q I r (i v σ H Q q)
theorem Co(i:Nat){x:Str}(hN:X.N.Nodup)(hi:X.N[i]?=Z x)(hx:uL X.env.scope x)(hf:X.fn x=M\/X.env.scope.names.lookup x=Z .local:=by first|exact .inl rfl|exact .inr rfl|assumption):MG X (.Name x pos) (gN i):=
 tX (u8 hN hi hx hf) <| by
  rintro v σ H Q ⟨r,mu,S,d,f,g,e,b,a,c,hc⟩;cases c;exact hc _ H mu (.refl _ _) (e.set a) b
theorem Cn:Jv X [] mh:=u7 BU <| by
 rintro vs σ H Q ⟨r,mu,S,ds,e,f,d,c,b,a,hc⟩;unfold mh at a;split at a
 ·cases a;cases b;exact⟨O,hc σ H mu (.refl _ _) d c⟩
 ·cases a
theorem zb{e:Expr}{es:List Expr}{g:FG}{i:AZ}(h1:MG X e g)(h2:Jv X es i)(hs:(assignEach (e::es) X.env).map (·.2)=assign e X.env::(assignEach es X.env).map (·.2):=by rfl):Jv X (e::es) (gn g i):=
 u7 (yE h1 h2 hs) <| by
  rintro vs σ H Q ⟨r,mu,S,ds,m,o,s,hs,n,a,hc⟩;unfold gn at a;split at a
  ·obtain⟨⟨h,f⟩,k,a⟩:=oB1.mp a;cases n with
   |cons q t=>
    exact⟨_,_,O,r,mu,S,_,h,f,s,hs,q,k,λl H1 mu1 j d p=>⟨h,mu1,f,_,m,o,d,p,t.ext j,a,λb H2 c x2=>hc b H2 c (j.trans x2)⟩⟩
  ·cases a
theorem Gb{es:List Expr}{k:Nat}{b:AZ}{n:Nat}(hc:X.calm=M)(h:Jv X es b)(hn:(assignEach es X.env).length=n:=by rfl)(hst:(assignEach es X.env).findIdx? (·.1)=Y:=by rfl):MG X (.Tuple es k pos) (gT n b):=
 tX (Fi hc h hn hst) <| by
  rintro v σ H Q ⟨r,mu,S,d,c,f,j,i,e,a,hc⟩;cases d with
  |tup ds=>
   rw[gT]at a;split at a
   ·rename_i g;cases e with
    |tup q t=>exact⟨_,_,O,q,by rw[<- t.length];exact g,r,mu,S,ds,c,f,j,i,t,a,hc⟩
   ·cases a
  |_=>cases a
inductive rU (K:Fg1)(f:FN)(o i v:V)(H:Hp)(Q:Hp->Prop):Prop
 |mk (mu:List cN) (S:Sto) (ds:List D) (d:D) (S':Sto) (hr:dt K H mu ds [o,i,v]) (hs:Sim K H mu S) (hm:f ds S=some (d,S')) (hc:∀H' mu',Ext mu mu' H H'->Sim K H' mu' S'->Q H')
def gS(f:FN)(a b:FE):FG:=λd r S=>(a r S).bind λp=>(b r p.2).bind λq=>(f [p.1,q.1,d] q.2).bind λt=>Z (r,t.2)
theorem Gc{o i:Expr}{a b:FE}{f:FN}(ho:ME X o a)(hi:ME X i b)(hs:uK X (rU X.K f))(ha:∀v,assign (.Subscript o i pos) X.env v=(do
   let ov<-holding [v] (eval o X.env)
   let iv<-holding [v,ov] (eval i X.env)
   standAt pos
   holding [v,ov,iv] (setItem ov iv v)
   release [v,ov,iv] []):=by intro _;rfl):MG X (.Subscript o i pos) (gS f a b):=
 tX (Fj ho hi hs ha) <| by
  rintro v σ H Q ⟨r,mu,S,d,D,F,h,hs,u,c,hc⟩;obtain⟨⟨k,m⟩,z,c⟩:=oB1.mp c;obtain⟨⟨l,n⟩,s,c⟩:=oB1.mp c;obtain⟨⟨A,C⟩,y,c⟩:=oB1.mp c;cases c;refine⟨r,mu,S,k,m,h,hs,z,λG H1 mu1 e t B=>?_⟩;refine⟨r,mu1,m,l,n,h.ext e,B,s,λE H2 g x2 r2 q=>?_⟩;exact⟨g,n,[k,l,d],A,_,.cons (t.ext x2) (.cons r2 (.cons ((u.ext e).ext x2) .nil)),q,y,λx j p w=>hc σ x j ((e.trans x2).trans p) (((h.ext e).ext x2).ext p) w⟩
noncomputable def dY (m:FE)(g:FG):FS:=λr S=>(m r S).bind λp=>(g p.1 r p.2).bind λq=>some (.nx,q.1,q.2)
theorem ql{K:Fg1}{m:FE}{g:FG}{E:jn}{σ:L2.St}{H:Hp}(h:uW K (dY m g) E σ H):x0 (tM K m) (EE K g) E σ H:=by
 obtain⟨r,mu,S,f,s,t,i,p,a,hc⟩:=h;obtain⟨⟨d,e⟩,k,a⟩:=oB1.mp a;obtain⟨⟨r2,q⟩,o,a⟩:=oB1.mp a;cases a;refine⟨r,mu,S,d,e,i,p,k,λu H1 mu1 j l n=>?_⟩;exact⟨r,mu1,e,d,_,_,i.ext j,n,l,o,λb H2 c x2=>hc b H2 c (j.trans x2)⟩
theorem F7{tg e:Expr}{m:FE}{g:FG}(he:ME X e m)(hg:MG X tg g)(hs:swapsWithSole [tg] e pos.line X.env=pure J:=by rfl)(hw:swappedStores [tg] e X.env=pure Y:=by rfl)(h1:(assignEach [tg] X.env).map (·.2)=[assign tg X.env]:=by rfl):MS X (.Assign [tg] e pos) (dY m g):=il (Ff he hg hs hw h1) λ_ _ _=>ql
theorem F3(i:Nat){x:Str}{e:Expr}{m:FE}{pos':Pos}(hN:X.N.Nodup)(hi:X.N[i]? = some x)(hx:uL X.env.scope x)(he:ME X e m)(hs:swapsWith e (some (.Name x pos')) pos.line X.env=pure false:=by rfl)(hf:X.fn x=true\/X.env.scope.names.lookup x=some .local:=by first | exact .inl rfl | exact .inr rfl | assumption):
  MS X (.Assign [.Name x pos'] e pos) (dY m (gN i)):=il (Fa hN hi hx he hs hf) λE σ H h=>by
 obtain⟨r,mu,S,d,j,h1,h2,p,l⟩:=ql h;refine⟨r,mu,S,d,j,h1,h2,p,λv H' mu' g f k=>?_⟩;obtain⟨r2,a,s,t,u,w,n,b,q,c,o⟩:=l v H' mu' g f k;cases c;exact o _ H' a (.refl _ _) (n.set q) b
def Cu(i:Nat)(f:FN)(m:FE):FS:=λr S=>match r[i]? with
 |some (Z d)=>(m r S).bind λp=>(f [d,p.1] p.2).bind λq=>Z (.nx,r.set i (Z q.1),q.2)
 |_=>Y
theorem F6(i:Nat){x:Str}{e:Expr}{m:FE}{op:Operator}{f:FN}{pos':Pos}(hN:X.N.Nodup)(hi:X.N[i]? = some x)(hx:uL X.env.scope x)(he:ME X e m)(ho:JT X op (r2 X.K f))(hf:X.fn x=true\/X.env.scope.names.lookup x=some .local:=by first | exact .inl rfl | exact .inr rfl | assumption):
  MS X (.AugAssign (.Name x pos') op e pos) (Cu i f m):=il (Fe hN hi hx he ho hf) <| by
 rintro E σ H ⟨r,mu,S,z,A,C,he,n,a,hc⟩;unfold Cu at a;split at a
 ·rename_i d e;obtain⟨⟨g,h⟩,w,a⟩:=oB1.mp a;obtain⟨⟨o,B⟩,l,a⟩:=oB1.mp a;cases a;obtain⟨v,t,u⟩:=he.val i d e;refine⟨v,t,r,mu,S,g,h,he,n,w,λD H1 mu1 c p y=>?_⟩;exact⟨mu1,h,[d,g],o,_,.cons (u.ext c) (.cons p .nil),y,l,λF s b j k q=>hc _ s b (c.trans j) (((he.ext c).ext j).set k) q⟩
 ·cases a
end
noncomputable def wg (c:FT)(b:FS):Nat->FS
 |0=>λ_ _=>none
 | n+1=>fun r S=>(c r S).bind fun p=>if p.1=true then (b r p.2).bind fun q=>match q.1 with
   | .nx=>wg c b n q.2.1 q.2.2
   | .ct=>wg c b n q.2.1 q.2.2
   | .bk=>some (.nx,q.2.1,q.2.2)
   | .rt d=>some (.rt d,q.2.1,q.2.2)
  else some (.nx,r,p.2)
theorem Em{K:Fg1}{c:FT}{b:FS}{n:Nat}{E:jn}{σ:L2.St}{H:Hp}(h:uW K (wg c b n) E σ H):xV (xX K c) (uW K b) E σ H:=by
 refine⟨λm a H'=>uW K (wg c b m) E a H',⟨n,h⟩,λm s H1 q=>?_⟩;obtain⟨r,mu,S,f,z,B,t,D,i,hc⟩:=q;cases m with
 |zero=>cases i
 |succ m=>
  obtain⟨⟨k,A⟩,G,i⟩:=oB1.mp i;refine⟨r,mu,S,k,A,t,D,G,λH2 e x2 u=>?_⟩;cases k with
  |false=>
   cases i;exact hc s H2 e x2 (t.ext x2) u
  |true=>
   obtain⟨⟨C,o,p⟩,F,i⟩:=oB1.mp i;have w:∀{a H' mu'},Ext e mu' H2 H'->fx K H' mu' o a->Sim K H' mu' p->wg c b m o p=Z (f,z,B)->uW K (wg c b m) E a H':=λ{a H' mu'} x g l i=>by
    refine⟨o,mu',p,f,z,B,g,l,i,?_⟩;cases f with
    |nx=>exact λj H2 e y=>hc j H2 e ((x2.trans x).trans y)
    |bk=>exact λj H2 e y=>hc j H2 e ((x2.trans x).trans y)
    |ct=>exact λj H2 e y=>hc j H2 e ((x2.trans x).trans y)
    |rt d=>exact λv H2 e y=>hc v H2 e ((x2.trans x).trans y)
   refine⟨λa H'=>uW K (wg c b m) E a H',λa H' q=>⟨m,bB _,q⟩,r,e,A,C,o,p,t.ext x2,u,F,?_⟩;cases C with
   |nx=>exact λa H' mu' x g l=>w x g l i
   |ct=>exact λa H' mu' x g l=>w x g l i
   |bk=>cases i;exact λa H' mu' x g l=>hc a H' mu' (x2.trans x) g l
   |rt d=>cases i;exact λv H' mu' x o l=>hc v H' mu' (x2.trans x) o l
theorem y9{X:Cx}{pos:Pos}(n:Nat){c:Expr}{a:List cY}{t:FT}{b:FS}(hp:PassesOwn (model X.prog X.w) X.A X.env X.xe)(hc:MT X c t)(hb:xh X a b):MS X (.While c a [] pos) (wg t b n):=
 il (yw hp hc hb) λ_ _ _=>Em
structure AY where
 items:List D
 chk:List (Nat×List D)
noncomputable def q9 (S:Sto):List (Nat×List D)->Bool
 |[]=>true
 | (n,xs)::c=>(match S[n]? with
   |some (.lst ys)=>D.sames ys xs
   |_=>false)&&q9 S c
def K0(K:Fg1)(j:It)(am:AY)(mu:List cN)(H:Hp):Prop:=∀i H1 mu1 S1,rb mu mu1 H H1->Sim K H1 mu1 S1->q9 S1 am.chk=M ->
 (∀d,am.items[i]?=Z d->j.go i H1 /\ ∀x H2,j.yld i H1 x H2->Ext mu1 mu1 H1 H2/\Sim K H2 mu1 S1/\eA K H2 mu1 d x)/\(am.items.length<=i->j.stop i H1)
abbrev FI:=Ev->Sto->Option (AY×Sto)
inductive HS (K:Fg1)(m:FI)(σ:L2.St)(H:Hp)(R:It->Hp->Prop):Prop
 |mk (r:Ev) (mu:List cN) (S:Sto) (am:AY) (S':Sto) (he:fx K H mu r σ) (hs:Sim K H mu S) (hm:m r S=some (am,S')) (hc:∀j H' mu',Ext mu mu' H H'->K0 K j am mu' H'->Sim K H' mu' S'->R j H')
abbrev MI(X:Cx)(tg iter:Expr)(m:FI):Prop:=PI X tg iter (HS X.K m)
theorem pU{X:Cx}{tg e:Expr}{t t':TI}(h:PI X tg e t)(i:∀ σ H R,t' σ H R->t σ H R):PI X tg e t':=λag s σ H R I q=>h ag s σ H R I (i σ H R q)
theorem Ik{X:Cx}{tg e:Expr}{t t':TI}(h:PI X tg e t)(h':PI X tg e t'):PI X tg e (fun σ H R=>t σ H R\/t' σ H R):=λag s σ H R I q=>q.elim (h ag s σ H R I) (h' ag s σ H R I)
noncomputable def jd (c:List (Nat×List D))(g:FG)(b:FS):List D->FS
 |[]=>λr S=>if q9 S c=true then some (.nx,r,S)else none
 | d::ds=>fun r S=>if q9 S c=true then (g d r S).bind fun p=>(b p.1 p.2).bind fun q=>match q.1 with
   | .nx=>jd c g b ds q.2.1 q.2.2
   | .ct=>jd c g b ds q.2.1 q.2.2
   | .bk=>some (.nx,q.2.1,q.2.2)
   | .rt v=>some (.rt v,q.2.1,q.2.2)
  else none
noncomputable def gJ (m:FI)(g:FG)(b:FS):FS:=λr S=>(m r S).bind λp=>jd p.1.chk g b p.1.items r p.2
theorem mi{α:Type}{l:List α}{i:Nat}{d:α}{ds:List α}(h:l.drop i=d::ds):l[i]?=Z d/\l.drop (i+1)=ds:=by
 have h1:l[i]?=Z d:=by
  have:=congrArg (·[0]?) h;simpa using this
 refine⟨h1,?_⟩;rw[<- List.drop_drop,h];rfl
inductive KX (K:Fg1)(mu1:List cN)(H1:Hp)(c:List (Nat×List D))(g:FG)(b:FS)(f:Fl)(r':Ev)(S':Sto)(L:List D)(σ':L2.St)(H':Hp):Prop
 |mk (r2:Ev) (mu2:List cN) (S2:Sto):Ext mu1 mu2 H1 H'->fx K H' mu2 r2 σ'->Sim K H' mu2 S2->jd c g b L r2 S2=some (f,r',S')->KX K mu1 H1 c g b f r' S' L σ' H'
theorem Ct{K:Fg1}{m:FI}{g:FG}{b:FS}{E:jn}{σ:L2.St}{H:Hp}(h:uW K (gJ m g b) E σ H):HU (HS K m) (EE K g) (uW K b) E σ H:=by
 obtain⟨r,mu,S,f,ar,T,P,X,C,hc⟩:=h;obtain⟨⟨am,R⟩,e1,C⟩:=oB1.mp C;refine⟨r,mu,S,am,R,P,X,e1,λj H1 mu1 z ao s1=>?_⟩;refine⟨λi k q H'=>k=(am.items.drop i).length/\KX K mu1 H1 am.chk g b f ar T (am.items.drop i) q H',⟨_,O,r,mu1,R,.refl _ _,P.ext z,s1,C⟩,?_⟩;rintro i k F H2 ⟨rfl,r2,l,S2,x2,t,A,a⟩;cases hl:am.items.drop i with
 |nil=>
  left;rw[hl]at a;rw[jd]at a;dsimp only at a;split at a
  ·rename_i ok;cases a;refine⟨(ao i H2 l _ x2.w A ok).2 (List.drop_eq_nil_iff.mp hl),?_⟩;exact hc F H2 l (z.trans x2) t A
  ·cases a
 |cons d ds=>
  right;rw[hl]at a;obtain⟨hi,U⟩:=mi hl;rw[jd]at a;dsimp only at a;split at a
  ·rename_i ok;obtain⟨⟨L,N⟩,e3,a⟩:=oB1.mp a;obtain⟨⟨Q,G,B⟩,e4,a⟩:=oB1.mp a;obtain⟨W,V⟩:=(ao i H2 l _ x2.w A ok).1 d hi;refine⟨W,KX K mu1 H1 am.chk g b f ar T ds,?_,λx H3 y=>?_⟩
   ·intro q H' h5;exact⟨ds.length,bB _,(congrArg List.length U).symm,U.symm ▸ h5⟩
   ·obtain⟨u,wq,q3⟩:=V x H3 y;refine⟨r2,l,S2,d,L,N,t.ext u,wq,q3,e3,λaq H4 D w I s4=>?_⟩;refine⟨L,D,N,Q,G,B,I,s4,e4,?_⟩;cases Q with
    |nx=>exact λo s c n e p=>⟨G,c,B,(x2.trans u).trans (w.trans n),e,p,a⟩
    |ct=>exact λo s c n e p=>⟨G,c,B,(x2.trans u).trans (w.trans n),e,p,a⟩
    |bk=>cases a;exact λo s c n e p=>hc o s c ((z.trans x2).trans (u.trans (w.trans n))) e p
    |rt v=>cases a;exact λv5 s c n r5 p=>hc v5 s c ((z.trans x2).trans (u.trans (w.trans n))) r5 p
  ·cases a
theorem F5{X:Cx}{pos:Pos}{tg iter:Expr}{a:List cY}{m:FI}{g:FG}{b:FS}(hp:PassesOwn (model X.prog X.w) X.A X.env X.xe)(hc:X.calm=M)(hi:MI X tg iter m)(hg:MG X tg g)(hb:xh X a b)(hs:∀x,foldedSetIterable iter X.env x=pure x:=by intro _;rfl):MS X (.For tg iter a [] pos) (gJ m g b):=il (Fd hp hc hi hg hb hs) λ_ _ _=>Ct
def ju(n:Nat)(ds:List D):Ev:=ds.map Z++aM (n-ds.length) Y
noncomputable def gz (n:Nat)(b:FS):FN:=λds S=>(b (ju n ds) S).bind λp=>match p.1 with
 | .rt d=>some (d,p.2.2)
 | .nx=>some (.non,p.2.2)
 |_=>none
theorem wm{K:Fg1}{H:Hp}{mu:List cN}{ds:List D}{vs:List V}(N:List Str)(h:dt K H mu ds vs):fx K H mu (ju N.length ds) (L2.start N vs):=by
 refine⟨?_,λi d e=>?_⟩
 ·unfold ju L2.start;rw[lA1,lA1,lM1,lM1,lR1,lR1,h.length]
 ·unfold ju at e;unfold L2.start;by_cases hi:i<ds.length
  ·rw[gL1 (by rw[lM1];exact hi),gP1]at e;obtain⟨f,c,b⟩:=oM1.mp e;cases b;obtain⟨v,a,r⟩:=h.get c;refine⟨v,?_,r⟩;rw[gL1 (by rw[lM1,<- h.length];exact hi),gP1,a];rfl
  ·rw[gR1 (by rw[lM1];lia)]at e;have:=gM1 e;rw[List.mem_replicate]at this;cases this.2
theorem Jb{P:cO}{w:cQ}{K:Fg1}{mg:Str->Option cK}{base:cW}{x c:Str}{st:cY}{f:cN}{fd:cX}{N ps:List Str}{k:Nat}{b:FS}(F:wa K x c st f fd)(S:gC N ps (dE st))(i:∀(e:cK) (A:cP) (a:List Env) (s:cM) (H:Hp) (E:XK),ga k (A.deeper (envOfC c (dE st) s.heap.objs.size f e)) ->
   xh (mJ sZ P w K mg base N c (dE st) f e A a s H E).nox (fh st) b):lT P w K mg base sZ (k+1) f fd ps (spM K ps.length (gz N.length b)):=by
 refine wa.ok F S (λvs H Q E h=>h.1) λe A a s H vs Q E r j=>⟨_,i e A a s H E r,?_⟩;obtain⟨_,mu,St,ds,d,t,h1,h2,g,m⟩:=j;unfold gz at g;obtain⟨⟨l,q,o⟩,p,g⟩:=oB1.mp g;refine⟨_,mu,St,l,q,o,wm N h1,h2,p,?_⟩;cases l with
 |nx=>cases g;exact λn H' mu' x u s=>m .non H' mu' x .non s
 |rt d=>cases g;exact m
 |bk=>cases g
 |ct=>cases g
def jI(cells:List (Str×cN)):List (Str×NameKind)->List (Str×cN)->Option (List (Str×cN))
 |[],acc=>Z acc
 |(n,k)::r,acc=>if k == .free then(cells.lookup n).bind λc=>jI cells r ((n,c)::acc)else jI cells r acc
theorem uD{env:Env}(f:Str×NameKind->List (Str×cN)->Sem (ForInStep (List (Str×cN))))(hf:∀n k g,f (n,k) g=if k == .free then(do let c<-cellOf env n;pure (.yield ((n,c)::g)))else pure (.yield g)):
  ∀(a:List (Str×NameKind)) (acc b:List (Str×cN)),jI env.cells a acc=Z b->forIn a acc f=(pure b:Sem (List (Str×cN)))
 |[],acc,b,h=>by cases h;rfl
 |(n,k)::r,acc,b,h=>by
  rw[List.forIn_cons,hf];unfold jI at h;split at h
  ·rename_i d;rw[ak d];obtain⟨c,e,h⟩:=oB1.mp h;have:cellOf env n=pure c:=by unfold cellOf;rw[e]
   rw[this,pure_bind,pure_bind];exact uD f hf r _ b h
  ·rename_i d;rw[aj d,pure_bind];exact uD f hf r _ b h
theorem As{scope:cZ}{env:Env}{cl:List (Str×cN)}(h:jI env.cells scope.names []=Z cl):closureFor scope env=pure cl:=by
 simp only[closureFor];rw[uD (env:=env) _ (λn k a=>by cases hk:k == NameKind.free<;>simp[hk]) scope.names [] cl h];rfl
theorem uC{a:List (Str×cN)}:∀{b:List (Str×NameKind)} {acc d:List (Str×cN)},jI a b acc=Z d->(∀x c,acc.lookup x=Z c->a.lookup x=Z c) -> ∀x c,d.lookup x=Z c->a.lookup x=Z c
 |[],acc,d,h,ha=>by cases h;exact ha
 |(n,k)::r,acc,d,h,ha=>by
  unfold jI at h;split at h
  ·obtain⟨c,e,h⟩:=oB1.mp h;refine uC h λx f q=>?_;rw[bC]at q;split at q
   ·rename_i g;cases q;rw[beq_iff_eq.mp g];exact e
   ·exact ha x f q
  ·exact uC h ha
theorem mW{b:List (Str×cN)}{x:Str}:∀{a:List (Str×NameKind)} {acc d:List (Str×cN)},jI b a acc=Z d->(a.lookup x=Z .free\/(acc.lookup x).isSome=M)->(d.lookup x).isSome=M
 |[],acc,d,h,ha=>by
  cases h;rcases ha with q|q
  ·cases q
  ·exact q
 |(n,k)::r,acc,d,h,ha=>by
  unfold jI at h;split at h
  ·obtain⟨c,e,h⟩:=oB1.mp h;refine mW h ?_;rcases ha with q|q
   ·rw[bC]at q;split at q
    ·rename_i g;right;rw[bC,g];rfl
    ·exact .inl q
   ·right;rw[bC];split
    ·rfl
    ·exact q
  ·rename_i f;refine mW h ?_;rcases ha with q|q
   ·rw[bC]at q;split at q
    ·cases q;exact absurd O f
    ·exact .inl q
   ·exact .inr q
theorem gB{x:Str}{c:cN}:∀{a:List (Str×NameKind)} {n:Nat} {acc:List (Str×cN)},(cellsFrom n a acc).lookup x=Z c->(n<=c/\(x,c)∈cellsFrom n a [])\/acc.lookup x=Z c
 |[],_,_,h=>.inr h
 |(y,k)::r,n,acc,h=>by
  unfold cellsFrom at h ⊢;split at h
  ·rename_i b;rw [if_pos b];have app:∀ (a:List (Str×NameKind)) (m:Nat) (acc:List (Str×cN)),cellsFrom m a acc=cellsFrom m a []++acc:=by
    intro a
    induction a with
    |nil=>intro m acc;rfl
    |cons p r ih=>
     obtain⟨z,q⟩:=p;intro m acc;unfold cellsFrom;split
     ·rw[ih _ ((z,m)::acc),ih _ [(z,m)],aW];rfl
     ·exact ih m acc
   rcases gB h with⟨h1,h2⟩|h1
   ·refine .inl ⟨by lia,?_⟩;rw[app];exact aF _ h2
   ·rw[bC]at h1;split at h1
    ·rename_i d;cases h1;refine .inl ⟨nR1 _,?_⟩;rw[app,beq_iff_eq.mp d];exact mA1 _ mS1
    ·exact .inr h1
  ·rename_i b;rw[aj b];exact gB h
theorem oF{x:Str}{c:cN}{n:Nat}{acc:List (Str×cN)}{a:List (Str×NameKind)}(hx:a.lookup x=Z .cell)(h:(cellsFrom n a acc).lookup x=Z c):n<=c:=by
 have app:∀(a:List (Str×NameKind)) (m:Nat) (acc:List (Str×cN)),cellsFrom m a acc=cellsFrom m a []++acc:=by
  intro a
  induction a with
  |nil=>intro m acc;rfl
  |cons p r ih=>
   obtain⟨z,q⟩:=p;intro m acc;unfold cellsFrom;split
   ·rw[ih _ ((z,m)::acc),ih _ [(z,m)],aW];rfl
   ·exact ih m acc
 rw[app,List.lookup_append]at h;have q:=PySem.W.cellsFrom_some a n [] (.inl hx);obtain⟨b,e⟩:=aN.mp q;rw[e]at h;cases h;rcases gB e with⟨h1,_⟩|h1
 ·exact h1
 ·cases h1
theorem kh {ao:Model}{A:cP}{E:cK->cM->Prop}{s:cM}{scope:cZ}{globals:cN}{c:List (Str×cN)}{qual:Str}{func:Option cN}{code:cK}{env:Env}{b:cN}{Q:Env->cM->Prop}
  (d:Q {scope,locals:=s.heap.objs.size,globals,cells:=cellsFrom (s.heap.objs.size+1) scope.names c,qual,func,code:=env.code,frame:=env.frame,builtins:=env.builtins}
   {s with heap:=pushCells (s.heap.push {cls:=.type "dict",data:=.dict #[]}) scope.names}):
  cU ao A (newFunctionEnv scope globals c [] qual func code (Z env) b) Q E s:=by
 simp only[newFunctionEnv,Option.isSome_some,if_true];refine wB1 (wpAny_alloc ?_);refine wB1 (wpAny_layCells _ (λname a cells=>by cases hkc:a == NameKind.cell<;>simp[hkc]) _ _ _ _ ?_);rw[show({s with heap:=s.heap.push {cls:=.type "dict",data:=.dict #[]}}:cM).heap.objs.size=s.heap.objs.size+1 from hZ1 ..];refine wB1 ?_;rw[List.forIn_nil];exact wP1 (wP1 d)
def cxC(X:Cx)(scope:cZ)(cl:List (Str×cN))(T:List Str)(keep:List Nat)(s:cM)(H:Hp)(fp:List cN):Cx where
 prog:=X.prog
 w:=X.w
 K:=X.K
 mg:=X.mg
 base:=X.base
 A:=X.A
 N:=T++keep.map λi=>X.N.getD i (Str.ofString "")
 s₀:=s
 H₀:=H
 env:=compEnvC scope (cellsFrom (s.heap.objs.size+1) scope.names cl) s.heap.objs.size X.env
 outer:=X.stack
 stack:=X.stack
 ex:=fp
 fn:=λx=>scope.names.lookup x == Z .cell
 calm:=X.calm
 pn:=[]
 xe:=λ_ _=>False
def qp(k:Nat)(keep:List Nat)(σ:L2.St):L2.St:=aM k Y++keep.map λi=>(σ[i]?).join
theorem jC{env:Env}{x:Str}:∀ {a:List (Str×NameKind)},
  (a.map λ(n,k)=>if(k == NameKind.free&&env.scope.kind == .function&&env.kindOf n == Z .cell)then(n,NameKind.cell)else(n,k)).lookup x =
   (a.lookup x).map λk=>if(k == NameKind.free&&env.scope.kind == .function&&env.kindOf x == Z .cell)then NameKind.cell else k
 |[]=>rfl
 |(n,k)::r=>by
  show List.lookup x ((if(k == NameKind.free&&env.scope.kind == .function&&env.kindOf n == Z .cell)=M then(n,NameKind.cell)else(n,k))::_)=_;cases hx:x == n with
  |true=>
   have e:=beq_iff_eq.mp hx;subst e;by_cases hc:(k == NameKind.free&&env.scope.kind == .function&&env.kindOf x == Z .cell)=M
   ·rw[ak hc,bC,hx,bC,hx];simp only[oP1,ak hc]
   ·rw[aj hc,bC,hx,bC,hx];simp only[oP1,aj hc]
  |false=>
   have ih:=@jC env x r;by_cases hc:(k == NameKind.free&&env.scope.kind == .function&&env.kindOf n == Z .cell)=M
   ·rw[ak hc,bC,hx,bC,hx];exact ih
   ·rw[aj hc,bC,hx,bC,hx];exact ih
structure HD (X:Cx)(scope:cZ)(T:List Str)(keep:List Nat):Prop where
 kind:scope.kind = .function
 names:∀x∈scope.names,x.2 = .local->scope.names.lookup x.1=some .local
 free:∀i∈keep,∃x,X.N[i]?=some x/\scope.names.lookup x=some .free/\(X.env.kindOf x=some .cell\/X.env.kindOf x=some .free)/\(x,NameKind.cell)∉scope.names
theorem sn{X:Cx}{ag:List (cN×Obj)}{σ:L2.St}{H:Hp}{s:cM}{scope:cZ}{t:List (Str×cN)}{T:List Str}{keep:List Nat}{D:List cN}(I:Inv X ag σ H s)(C:HD X scope T keep)(A:jI X.env.cells scope.names []=some t)(hf:∀b∈D,kF X ag H b)(L:∀b∈D,∃o,s.heap.get? b=some o):
  Inv (cxC X scope t T keep s H D) [] (qp T.length keep σ) H {s with heap:=pushCells (s.heap.push {cls:=.type "dict",data:=.dict #[]}) scope.names}:=by
 have kept:∀b o,s.heap.get? b=Z o->(pushCells (s.heap.push {cls:=.type "dict",data:=.dict #[]}) scope.names).get? b=Z o:=λb o e=>pushCells_keeps _ _ b o (hP1 _ e);have B:=cellsFrom_ok scope.names (s.heap.push {cls:=.type "dict",data:=.dict #[]}) (s.heap.objs.size+1) [] ⟨λ_ _ U=>(nomatch U),List.Pairwise.nil⟩ (by rw[hZ1];exact nR1 _);rw[hZ1]at B;have G:=uC A (λx c q=>by cases q)
 -- a cell of the block: its own or an elder one
 have d:∀x c,(cellsFrom (s.heap.objs.size+1) scope.names t).lookup x=Z c->(s.heap.objs.size+1<=c/\(x,c)∈cellsFrom (s.heap.objs.size+1) scope.names [])\/X.env.cells.lookup x=Z c:=λx c h=>by
  rcases gB h with h1|h1
  ·exact .inl h1
  ·exact .inr (G x c h1)
 have g:∀x c,X.env.cells.lookup x=Z c->c<s.heap.objs.size:=λx c e=>by
  obtain⟨v,z⟩:=I.cell x c e;exact z.lt
 have w:∀b∈D,b<s.heap.objs.size:=λb l=>by
  obtain⟨o,e⟩:=L b l;exact hL1 e
 have fst:∀b∈D,b∉frs X.stack:=λb l z=>by
  rcases aD.mp (I.stkSub b z)with q|q
  ·exact(hf b l).2.1 q
  ·exact(hf b l).2.2.1 q
 have kindOf:∀x,(cxC X scope t T keep s H D).env.kindOf x=(scope.names.lookup x).map λk=>if(k == NameKind.free&&X.env.scope.kind == .function&&X.env.kindOf x == Z .cell)then NameKind.cell else k:=λx=>jC
 refine⟨⟨I.ok.mod,C.kind,I.ok.glob,I.ok.blt,nR1 _,λx y c h1 h2=>?_,λx E=>?_,λx c h1 h2=>?_,I.ok.hd,I.ok.frames,.inl O,λb l=>⟨nN1 (w b l),λx c h z=>?_⟩,λb o e=>I.bs b o e,aB I.ok.bsz I.sz,λb o e l=>?_,fst,I.stack,I.stkFree⟩,
  rfl,I.bare,Un.kept kept,⟨λ_=>Y,(Heap.Ns.new s.heap (.type "dict")).keeps (pushCells_keeps _ _),λi x v h1 h2 h3=>?_⟩,λx c h=>?_,I.hok.fresh (nR1 _),λx c h=>?_,λp wq=>absurd (show p∈([]:List (cN×Obj))from wq) (by simp),I.hok.kept kept,?_⟩
 ·rcases d x c h1 with⟨a1,a2⟩|a1<;>rcases d y c h2 with⟨b1,b2⟩|b1
  ·exact name_of_addr B.apart a2 b2
  ·exact absurd (bD (bE a1) (g y c b1)) (ay _)
  ·exact absurd (bD (bE b1) (g x c a1)) (ay _)
  ·exact I.ok.inj x y c a1 b1
 ·have ao:scope.names.lookup x=some .cell\/scope.names.lookup x=some .free:=by
   rw[kindOf x]at E;cases e:scope.names.lookup x with
   |none=>rw[e]at E;rcases E with z|z<;>cases z
   |some k=>
    rw[e]at E;simp only[oP1]at E;cases k<;>simp_all
  have:((cellsFrom (s.heap.objs.size+1) scope.names t).lookup x).isSome=M:=by
   rcases ao with z|z
   ·exact PySem.W.cellsFrom_some _ _ _ (.inl z)
   ·exact PySem.W.cellsFrom_some _ _ _ (.inr (mW A (.inl z)))
  exact aN.mp this
 ·have f:scope.names.lookup x=Z .cell:=by simpa[cxC]using h1
  have:=oF f h2;exact aB (bF _) this
 ·subst z;rcases d x c h with⟨a1,_⟩|a1
  ·exact absurd (bD (bE a1) (w c l)) (ay _)
  ·exact(hf c l).2.2.2.2.1 x c a1 O
 ·rcases(hf b l).2.2.2.1 with z|z
  ·exact I.ok.noex b o e z
  ·exact absurd (nL1 (hL1 e) (aB I.ok.bsz z)) (ay _)
 ·-- a name of the block that has a value:one of the outer text's
  have hi:T.length<=i:=by
   refine Nat.le_of_not_lt λhi=>?_;unfold qp at h2;rw[gL1 (by rw[lR1];exact hi),aP]at h2;split at h2<;>cases h2
  unfold qp at h2;rw[gR1 (by rw[lR1];exact hi),lR1,gP1]at h2;obtain⟨j,P,h2⟩:=oM1.mp h2;have f:X.N.getD j (Str.ofString "")=x:=by
   have f:(T++keep.map λi=>X.N.getD i (Str.ofString ""))[i]?=Z x:=h1;rw[gR1 hi,gP1,P]at f;exact Option.some.inj f
  obtain⟨y,Q,R,N,ny⟩:=C.free j (gM1 P);have F:y=x:=by rw[<- f,bG,Q];rfl
  subst F;have am:σ[j]?=Z (Z v):=by
   cases e:σ[j]? with
   |none=>rw[e]at h2;cases h2
   |some o=>rw[e]at h2;cases h2;rfl
  obtain⟨m,hn,S⟩:=I.loc;obtain⟨u,W,lu⟩:=S j y v Q am (by
   rcases N with z|z
   ·exact .inr (.inl z)
   ·exact .inr (.inr z))
  refine⟨u,W,?_⟩;rcases lu with⟨z,_⟩|⟨_,c,ec,aq⟩
  ·rcases N with q|q<;>(rw[z]at q;cases q)
  ·right;refine⟨?_,c,?_,aq.keeps kept⟩
   ·rw[kindOf,R];simp only[oP1];split
    ·exact .inl O
    ·exact .inr O
   ·obtain⟨c',V⟩:=aN.mp (PySem.W.cellsFrom_some scope.names (s.heap.objs.size+1) t (.inr (mW A (.inl R))):((cellsFrom (s.heap.objs.size+1) scope.names t).lookup y).isSome=M);have ar:(cellsFrom (s.heap.objs.size+1) scope.names t).lookup y=Z c':=V;rcases d y c' ar with⟨a1,a2⟩|a1
    ·-- an own cell of that name:its kind would be cell
     exfalso;have:∀(names:List (Str×NameKind)) (n:Nat),(y,c')∈cellsFrom n names []->(y,NameKind.cell)∈names:=by
      have app:∀(names:List (Str×NameKind)) (m:Nat) (acc:List (Str×cN)),cellsFrom m names acc=cellsFrom m names []++acc:=by
       intro names
       induction names with
       |nil=>intro m acc;rfl
       |cons p r ih=>
        obtain⟨z,q⟩:=p;intro m acc;unfold cellsFrom;split
        ·rw[ih _ ((z,m)::acc),ih _ [(z,m)],aW];rfl
        ·exact ih m acc
      intro names
      induction names with
      |nil=>intro n h;cases h
      |cons p r ih=>
       obtain⟨z,q⟩:=p;intro n h;unfold cellsFrom at h;split at h
       ·rename_i hq;rw[app]at h;rcases aE.mp h with h|h
        ·exact mC1 _ (ih _ h)
        ·have:(y,c')=(z,n):=by simpa using h
         cases this;have K:q=NameKind.cell:=by simpa using hq
         subst K;exact mS1
       ·exact mC1 _ (ih _ h)
     exact ny (this _ _ a2)
    ·rw[ec]at a1;cases a1;exact ar
 ·rcases d x c h with⟨a1,a2⟩|a1
  ·exact⟨_,(B.empty x c a2).1⟩
  ·obtain⟨v,z⟩:=I.cell x c a1;exact⟨v,z.keeps kept⟩
 ·rcases d x c h with⟨a1,a2⟩|a1
  ·exact I.hok.fresh (bE a1)
  ·exact I.freeC x c a1
 ·show(qp T.length keep σ).length=(T++keep.map λi=>X.N.getD i (Str.ofString "")).length;unfold qp;rw[lA1,lA1,lR1,lM1,lM1]
def kJ(p:Pos)(tg:Expr)(ifs:List Expr)(it:cK)(env:Env)(emit:Sem Unit)(c:Code):Sem PySem.Fin:=do
 standAt p
 match<-pyNext it with
 |none=>pure (.done .next)
 |some v=>
  letOwnedTupleGo tg it v
  assign tg env v
  let mut ok:=M
  for c in ifs do
   if ok then ok<-isTrue c env (eval c env)
  if ok then emit
  again c
def nS(elt:Expr)(acc:cK)(env:Env):Sem Unit:=do let _<-call (.builtin "list.append") [acc,<- eval elt env]
def ph(e:Expr)(iter:Expr)(acc:cK)(env:Env):Sem Unit:=do
 let x<-eval iter env
 standAt iter.pos
 let x<-foldedSetIterable iter env x
 let _<-runOwn (.compStart e 1 (<- holding [x] (pyIter x)) acc env) env
theorem xO(elt tg iter:Expr)(ifs:List Expr)(scope:cZ)(pos:Pos)(it acc:cK)(env:Env):
  compTurn (.ListComp elt [⟨tg,iter,ifs,0⟩] scope pos) 0 it acc env=kJ iter.pos tg ifs it env (nS elt acc env) (.compLoop (.ListComp elt [⟨tg,iter,ifs,0⟩] scope pos) 0 it acc env):=by rfl
def DE(p:Pos)(tg:Expr)(ifs:List Expr)(it:cK)(env:Env)(e iter:Expr)(acc:cK)(c:Code):Sem PySem.Fin:=do
 standAt p
 match<-pyNext it with
 |none=>pure (.done .next)
 |some v=>
  letOwnedTupleGo tg it v
  assign tg env v
  let mut ok:=M
  for c in ifs do
   if ok then ok<-isTrue c env (eval c env)
  if ok then
   let x<-eval iter env
   standAt iter.pos
   let x<-foldedSetIterable iter env x
   let _<-runOwn (.compStart e 1 (<- holding [x] (pyIter x)) acc env) env
  again c
theorem Bj(p:Pos)(tg:Expr)(ifs:List Expr)(it:cK)(env:Env)(e iter:Expr)(acc:cK)(c:Code):DE p tg ifs it env e iter acc c=kJ p tg ifs it env (ph e iter acc env) c:=by
 unfold DE kJ ph;simp only[bind_assoc,pure_bind]
theorem Ew(elt tg iter tg2 iter2:Expr)(ifs ifs2:List Expr)(scope:cZ)(pos:Pos)(it acc:cK)(env:Env):
  compTurn (.ListComp elt [⟨tg,iter,ifs,0⟩,⟨tg2,iter2,ifs2,0⟩] scope pos) 0 it acc env =
   kJ iter.pos tg ifs it env (ph (.ListComp elt [⟨tg,iter,ifs,0⟩,⟨tg2,iter2,ifs2,0⟩] scope pos) iter2 acc env) (.compLoop (.ListComp elt [⟨tg,iter,ifs,0⟩,⟨tg2,iter2,ifs2,0⟩] scope pos) 0 it acc env):=by
 rw[<- Bj];rfl
theorem Eu(elt tg iter tg2 iter2:Expr)(ifs ifs2:List Expr)(scope:cZ)(pos:Pos)(it acc:cK)(env:Env):
  compTurn (.ListComp elt [⟨tg,iter,ifs,0⟩,⟨tg2,iter2,ifs2,0⟩] scope pos) 1 it acc env =
   kJ iter2.pos tg2 ifs2 it env (nS elt acc env) (.compLoop (.ListComp elt [⟨tg,iter,ifs,0⟩,⟨tg2,iter2,ifs2,0⟩] scope pos) 1 it acc env):=by rfl
def ol(X:Cx)(ifs:List Expr)(t:TT):Prop:=
 ∀(ag:List (cN×Obj)) (s:cM) (σ:L2.St) (H:Hp) (Q:Bool->Hp->Prop),Inv X ag σ H s->t σ H Q ->
  cU (model X.prog X.w) X.A (forIn ifs M λc r=>if r=M then do let ok<-isTrue c X.env (eval c X.env);pure (ForInStep.yield ok)else pure (ForInStep.yield r)) (TP X ag σ Q) X.xe s
theorem yB{X:Cx}:ol X [] (fun σ H Q=>Q M H):=λag s σ H Q I h=>wpAny_tests_nil ⟨H,I,h⟩
theorem yA{X:Cx}{c:Expr}{t:TT}(h:PT X c t):ol X [c] t:=λag s σ H Q I q=>wpAny_tests_one (h ag s σ H Q I q)
def PU(X:Cx)(m:Sem Unit)(t:TS):Prop:=
 ∀(ag:List (cN×Obj)) (s:cM) (σ:L2.St) (H:Hp) (E:jn),Inv X ag σ H s->t E σ H->cU (model X.prog X.w) X.A m (λ_ s'=>∃ σ' H',Inv X ag σ' H' s'/\E.nx σ' H') X.xe s
theorem lP{X:Cx}(hx:X.xe=fun _ _=>False)(hc:X.calm=true){elt:Expr}{c:List Comprehension}{scope:cZ}{pos p:Pos}{d:Nat}{tg:Expr}{ifs:List Expr}{acc:cK}{emit:Sem Unit}{am:It}{z:List cN}{it:cN}{P:Nat->cW->Prop}{g:TG}{ti:TT}{tb:TS}(eq:compTurn (.ListComp elt c scope pos) d (.ref it) acc X.env=kJ p tg ifs (.ref it) X.env emit (.compLoop (.ListComp elt c scope pos) d (.ref it) acc X.env))(T:xg X.prog X.w X.K tg am z it P)(hg:PG X tg g)(hi:ol X ifs ti)(he:PU X emit tb){ag:List (cN×Obj)}{s:cM}{σ:L2.St}{H:Hp}{D:jn}(I:Inv X ag σ H s)(st:P 0 s.heap)(aq:∀b∈z,kF X ag H b)(h:∃W:Nat->Nat->L2.St->Hp->Prop,(∃m,W 0 m σ H) /\ ∀i m σ H,W i m σ H ->
   (am.stop i H/\D.nx σ H)\/(am.go i H /\ ∃N:L2.St->Hp->Prop,(∀a H',N a H' -> ∃ar,ar<m/\W (i+1) ar a H') /\ ∀x H',am.yld i H x H'->g x σ H' λw H2=>ti w H2 λb y=>if b=M then tb {D with nx:=N} w y else N w y)):
  cV (model X.prog X.w) X.A (.compLoop (.ListComp elt c scope pos) d (.ref it) acc X.env) (λr s'=>match r with | .ok _=>∃a H',Inv X ag a H' s'/\D.nx a H' | .error _=>False) s:=by
 obtain⟨W,⟨m0,w0⟩,F⟩:=h;have j:∀{H':Hp},(∀b∈z,H' b=Y) -> ∀b∈z,kF X ag H' b:=λhn b l=>⟨hn b l,(aq b l).2⟩;refine codeAny_loop O (λn s'=>∃i a H',Inv X ag a H' s'/\P i s'.heap/\(∀b∈z,H' b=Y)/\W i n a H') ?_ m0 ⟨0,σ,H,I,st,λb l=>(aq b l).1,w0⟩;rintro n U ⟨i,k,y,I3,G,ao,w3⟩;show cU _ _ ((compTurn (.ListComp elt c scope pos) d (.ref it) acc X.env).onRaise (λx=>do noteFrame x X.env;theTreesLotGoes x)) _ _ U;refine wpAny_noted ?_;rw[eq];have B:∀{α:Type} {m:Sem α} {Q:α->cM->Prop} {s:cM} {E:cK->cM->Prop},cU (model X.prog X.w) X.A m Q X.xe s->cU (model X.prog X.w) X.A m Q E s:=λh=>by
  rw[hx]at h;exact wpAny_mono h (λ_ _ q=>q) λ_ _ q=>q.elim
 unfold kJ;refine wB1 (wpAny_standAt (wB1 ?_));rcases F i n k y w3 with⟨K,qn⟩|⟨go,N,hN,step⟩
 ·refine B (eN (T.done X O O O hc i ag U k y X.xe I3 (j ao) G K) λr s4 ⟨S,I4⟩=>?_);subst S;exact wP1 ⟨k,y,I4,qn⟩
 ·refine B (eN (T.item X rfl rfl rfl hc i ag U k y X.xe I3 (j ao) G go) fun r s4 ⟨u,S,h4⟩=>?_);subst S;refine wB1 (B (eN h4 fun _ wq ⟨x,H5,I5,r5,y5,t,V⟩=>?_));have R:=I5.pinned (j V) (T.obj _ _ t);refine wB1 (B (eN (hg _ wq k H5 x u _ R r5 (step x H5 y5)) fun _ s6 ⟨L,H6,I6,q6⟩=>?_));refine wB1 (B (eN (hi _ s6 L H6 _ I6 q6) fun ok C ⟨v,A,q7⟩=>?_));have again':∀ {f:L2.St} {v:Hp} {C:cM},Inv X (ag++nk z wq.heap) f v C->N f v -> ∃ m,m<n /\ ∃ i a H',Inv X ag a H' C/\P i C.heap/\(∀ b∈z,H' b=none)/\W i m a H':=fun {f v C} A n7=>by
   obtain⟨ar,hm,w7⟩:=hN f v n7;refine⟨ar,hm,i+1,f,v,A.unpinned,T.keep _ _ _ t λb l o e=>(A.pin (b,o) (mA1 _ (mA1 _ (iU l e)))).1,λb l=>?_,w7⟩;obtain⟨o,e,d⟩:=T.obj _ _ t b l;exact(A.pin (b,o) (mA1 _ (mA1 _ (iU l e)))).2.1
  cases ok with
  |false=>exact wP1 ⟨O,again' A q7⟩
  |true=>exact wB1 (B (eN (he _ C L v _ A q7) λ_ s8 ⟨σ8,H8,I8,q8⟩=>wP1 ⟨O,again' I8 q8⟩))
def rl(p:cN)(te:TE):TS:=λD σ H=>te σ H λx H1=>∃xs,H1 p=Z (.lst xs)/\xs.length<cT/\D.nx σ (upd H1 p (.lst (xs++[x])))
theorem pR{X:Cx}{elt:Expr}{te:TE}(h:PE X elt te)(p:cN):PU X (nS elt (.ref p) X.env) (rl p te):=by
 intro ag s σ H E I q;unfold nS;refine wB1 (eN (h ag s σ H _ I q) λu e ⟨x,H1,g,c,xs,b,f,i⟩=>?_);refine wB1 (eN (oS ag e σ H1 (.ref p) [x] (.ref p) [u] (λ_ H'=>E.nx σ H') g O (.cons c .nil) ⟨p,xs,x,O,O,b,f,i⟩) λ_ j ⟨_,H2,d,_,a⟩=>?_);exact wP1 ⟨σ,H2,d,a⟩
def xY(am:It)(g:TG)(ti:TT)(tb:TS):TS:=λD σ H=>∃W:Nat->Nat->L2.St->Hp->Prop,(∃m,W 0 m σ H) /\ ∀i m σ H,W i m σ H ->
 (am.stop i H/\D.nx σ H)\/(am.go i H /\ ∃N:L2.St->Hp->Prop,(∀ σ' H',N σ' H' -> ∃m',m'<m/\W (i+1) m' σ' H') /\ ∀x H',am.yld i H x H'->g x σ H' fun σ2 H2=>ti σ2 H2 λb H3=>if b=M then tb {D with nx:=N} σ2 H3 else N σ2 H3)
def xW(wi:TI)(g:TG)(ti:TT)(tb:TS):TS:=λD σ H=>wi σ H λam H1=>xY am g ti tb D σ H1
theorem sI{prog:cO}{w:cQ}{A:cP}{R:Result->cM->Prop}{s:cM}{elt tg iter tg2 iter2:Expr}{ifs ifs2:List Expr}{scope:cZ}{pos:Pos}{it acc:cK}{env:Env}(b:cV (model prog w) A (.compLoop (.ListComp elt [⟨tg,iter,ifs,0⟩,⟨tg2,iter2,ifs2,0⟩] scope pos) 1 it acc env) R s)(h:cU (model prog w) A (pyIter it) (fun a s'=>cV (model prog w) A (.compLoop (.ListComp elt [⟨tg,iter,ifs,0⟩,⟨tg2,iter2,ifs2,0⟩] scope pos) 1 a acc env) R s')
   (notedBy (model prog w) A env λx s'=>R (.error x) s') s):
  cV (model prog w) A (.compStart (.ListComp elt [⟨tg,iter,ifs,0⟩,⟨tg2,iter2,ifs2,0⟩] scope pos) 1 it acc env) R s:=by
 refine codeAny_of_tree ?_;show cU _ _ ((compStart (.ListComp elt [⟨tg,iter,ifs,0⟩,⟨tg2,iter2,ifs2,0⟩] scope pos) 1 it acc env).onRaise (λx=>do noteFrame x env;standAt theWindowsPlace)) _ _ s;refine wpAny_notedAt ?_;unfold compStart;show cU _ _ (ask >>= _) _ _ s;refine wB1 (wpAny_askSetting (wpAny_ite ?_));split
 ·first
   |exact wB1 (wP1 (wP1 (And.intro rfl b)))
   |exact wP1 (And.intro rfl b)
 ·first
   |exact wB1 (wpAny_rule (wB1 (wpAny_standAt (wB1 (wpAny_mono h (λa s' h'=>wP1 (And.intro O h')) λ_ _ x=>x)))))
   |(refine wB1 (wpAny_rule ?_);show cU _ _ (standAt iter2.pos >>= _) _ _ s;exact wB1 (wpAny_standAt (wB1 (wpAny_mono h (λa s' h'=>wP1 (And.intro O h')) λ_ _ x=>x))))
theorem BG{X:Cx}(hx:X.xe=fun _ _=>False)(hc:X.calm=true){elt tg iter tg2 iter2:Expr}{ifs ifs2:List Expr}{scope:cZ}{pos:Pos}{acc:cK}{d:TI}{g:TG}{j:TT}{tb:TS}(hi:PI X tg2 iter2 d)(hg:PG X tg2 g)(hf:ol X ifs2 j)(he:PU X (nS elt acc X.env) tb)(hs:∀x,foldedSetIterable iter2 X.env x=pure x:=by intro _;rfl):
  PU X (ph (.ListComp elt [⟨tg,iter,ifs,0⟩,⟨tg2,iter2,ifs2,0⟩] scope pos) iter2 acc X.env) (xW d g j tb):=by
 intro ag s σ H E I q;unfold ph;refine wB1 (eN (hi ag s σ H _ I q) λv u h1=>?_);refine wB1 (wpAny_standAt (wB1 (wpAny_of_eq (hs v) (wB1 (wpAny_holding (eN h1 λp k h2=>?_))))));obtain⟨it,y,w,am,H2,rfl,n,T,b,m,l⟩:=h2;have a:=lP hx hc (Eu elt tg iter tg2 iter2 ifs ifs2 scope pos (.ref it) acc X.env) T hg hf he n b m l;refine wB1 (wpAny_runOwn (h:=Y) ?_);refine codeAny_mono (sI a (T.self X.A 0 k _ _ b a)) λr s' i=>?_;cases r with
 |error e=>exact i.elim
 |ok f=>
  obtain⟨c,H',o,t⟩:=i;exact wP1 ⟨c,H',o,t⟩
theorem Un.sameBut{fs ex:List cN}{H H':Hp}{h h1 h2:cW}{c:cN}(u:Un fs ex H H' h h1)(hs:Heap.SameBut c h1 h2)(hc:h.get? c=Y):Un fs ex H H' h h2:=by
 have ne:∀{b o},h.get? b=Z o->b≠c:=λe z=>by rw[z,hc]at e;cases e
 refine⟨λb o e n d a=>(hs.2 b (ne e)).trans (u.keep b o e n d a),λb o e n d a=>?_,u.free,λb o e a=>?_,u.tups,u.frzs,u.tbls⟩
 ·obtain⟨sl,q⟩:=u.slot b o e n d a;exact⟨sl,(hs.2 b (ne e)).trans q⟩
 ·obtain⟨o',q⟩:=u.there b o e a;exact⟨o',(hs.2 b (ne e)).trans q⟩
def xZ(k:Nat)(keep:List Nat)(wi:TI)(g:TG)(ti:TT)(tb:cN->TS):TE:=fun σ H Q=>wi σ H λam H1=>∀p,H1 p=Y ->
 xY am g ti (tb p) {nx:=λ_ H'=>Q (.ref p) H',rt:=λ_ _=>False} (qp k keep σ) (upd H1 p (.lst []))
theorem u9{X:Cx}(hc:X.calm=true){elt tg iter:Expr}{ifs:List Expr}{rest:List Comprehension}{scope:cZ}{pos:Pos}{T:List Str}{keep:List Nat}{l:List (Str×cN)}{L:TI}{g:TG}{N:TT}{tb:cN->TS}{emit:cK->Env->Sem Unit}(eq:∀it k i,compTurn (.ListComp elt (⟨tg,iter,ifs,0⟩::rest) scope pos) 0 it k i=kJ iter.pos tg ifs it i (emit k i) (.compLoop (.ListComp elt (⟨tg,iter,ifs,0⟩::rest) scope pos) 0 it k i))(C:HD X scope T keep)(w:jI X.env.cells scope.names []=some l)(hi:PI X tg iter L)(hb:∀s H d p,PG (cxC X scope l T keep s H d) tg g/\ol (cxC X scope l T keep s H d) ifs N/\PU (cxC X scope l T keep s H d) (emit (.ref p) (cxC X scope l T keep s H d).env) (tb p))(hs:∀x,foldedSetIterable iter X.env x=pure x:=by intro _;rfl):
  PE X (.ListComp elt (⟨tg,iter,ifs,0⟩::rest) scope pos) (xZ T.length keep L g N tb):=by
 intro ag s σ H Q I h;rw[eval_ListComp];refine wpAny_comprehension_free (use:=Y) O hs (As w) C.kind C.names ?_;refine eN (hi ag s σ H _ I h) λv s1 h1=>eN h1 λU a h2=>?_;obtain⟨it,d,tn,am,H2,rfl,E,TT,u,F,P⟩:=h2;refine wO1 ?_;have ao:Inv X ag σ (upd H2 a.heap.objs.size (.lst [])) {a with heap:=a.heap.push {cls:=.type "list",data:=.seq ([]:List cK).toArray}}:=E.lnew (t':=a.toks) .nil (bj _);have old:∀b∈d,∃o,a.heap.get? b=Z o:=λb hb=>by
  obtain⟨o,e,_⟩:=TT.obj 0 a.heap u b hb;exact⟨o,e⟩
 have D:∀b∈d,b≠a.heap.objs.size:=λb hb z=>by
  obtain⟨o,e⟩:=old b hb;have:=hL1 e;rw[z]at this;exact ay _ this
 have A:∀b∈d,kF X ag (upd H2 a.heap.objs.size (.lst [])) b:=λb hb=>⟨by rw[dG (D b hb)];exact(F b hb).1,(F b hb).2⟩;have o3:∀b∈d,∃o,({a with heap:=a.heap.push {cls:=.type "list",data:=.seq ([]:List cK).toArray}}:cM).heap.get? b=Z o:=λb hb=>by
  obtain⟨o,e⟩:=old b hb;exact⟨o,hP1 _ e⟩
 have B:=sn ao C w A o3;obtain⟨hg,hf,V⟩:=hb {a with heap:=a.heap.push {cls:=.type "list",data:=.seq ([]:List cK).toArray}} (upd H2 a.heap.objs.size (.lst [])) d a.heap.objs.size;refine kh ?_;have aq:∀b∈d,kF (cxC X scope l T keep {a with heap:=a.heap.push {cls:=.type "list",data:=.seq ([]:List cK).toArray}} (upd H2 a.heap.objs.size (.lst [])) d) [] (upd H2 a.heap.objs.size (.lst [])) b:=λb hb=>
  ⟨(A b hb).1,(B.ok.exf b hb).1,B.ok.exfs b hb,.inl hb,(B.ok.exf b hb).2,λp wq=>absurd (show p∈([]:List (cN×Obj))from wq) (by simp)⟩
 have y:tn 0 (pushCells ((a.heap.push {cls:=.type "list",data:=.seq ([]:List cK).toArray}).push {cls:=.type "dict",data:=.dict #[]}) scope.names):=
  TT.keep 0 a.heap _ u λb hb o e=>pushCells_keeps scope.names _ b o (hP1 _ (hP1 _ e))
 have j:=lP (X:=cxC X scope l T keep {a with heap:=a.heap.push {cls:=.type "list",data:=.seq ([]:List cK).toArray}} (upd H2 a.heap.objs.size (.lst [])) d) O hc (eq (.ref it) (.ref a.heap.objs.size) _) TT hg hf V B y aq
  (P a.heap.objs.size (E.hok.fresh (nR1 _)))
 refine codeAny_mono (codeAny_compStart_list j (TT.self X.A 0 _ _ _ y j)) λr s' G=>?_;cases r with
 |error e=>exact G.elim
 |ok f=>
  obtain⟨ar,H',n,W⟩:=G;obtain⟨m,R,_⟩:=id n.loc;refine⟨m,R,λh' t=>⟨.ref a.heap.objs.size,H',?_,O,W⟩⟩;refine ao.call' (s':={s' with heap:=h'}) (ch:=d) n.os (Un.sameBut n.base t (Heap.get?_none_of_le (nR1 _))) (λb S e=>?_) n.bare λb hb=>(A b hb).2.2.2 |> λz=>⟨z.1,(A b hb).2.1,z.2.1,z.2.2⟩
  refine(n.hok b S e).stay (λc w' hc q=>(t.2 c ?_).trans q) (λ_ q=>q) λ_ _ q=>q;rintro rfl;have K:=n.free;rcases hc with rfl|hc
  ·exact nomatch K.symm.trans e
  ·exact nomatch K.symm.trans hc
section
variable{K:Fg1}{H:Hp}{mu:List cN}{S:Sto}{p:cN}{u:HO}{o:Ob}{n:Nat}
theorem Rd.ne{a:cN}{x:HO}(h:H p=Y)(q:Rd H a x):a≠p:=by
 rintro rfl;rcases q with q|⟨_,q⟩<;>(rw[h]at q;cases q)
theorem Ext.fresh(hp:H p=Y):Ext mu mu H (upd H p u) where
 pre:=bp
 old:=λa o h _=>by rw[dG (d0 h hp)];exact h
 tup:=λa xs h=>by
  have ne:=Rd.ne hp h;rcases h with h|⟨b,h⟩
  ·exact .inl (by rw[dG ne];exact h)
  ·exact .inr ⟨b,by rw[dG ne];exact h⟩
 frz:=λa o x h=>by rw[dG (d0 h hp)];exact h
 new:=λ_ h=>.inl h
theorem Ext.new_(hp:H p=Y):Ext mu (mu++[p]) H (upd H p u) where
 pre:=bv _ _
 old:=(Ext.fresh (mu:=mu) hp).old
 tup:=(Ext.fresh (mu:=mu) hp).tup
 frz:=(Ext.fresh (mu:=mu) hp).frz
 new:=λa h=>by
  rcases aE.mp h with h|h
  ·exact .inl h
  ·have:a=p:=by simpa using h
   subst this;exact .inr hp
theorem Sim.fresh(s:Sim K H mu S)(hp:H p=Y):Sim K (upd H p u) mu S:=
 ⟨s.len,s.nd,λk o a h1 h2=>(s.ob k o a h1 h2).keep (Ext.fresh hp) λb e=>by rw[dG (d0 e hp)];exact e⟩
theorem Sim.notin(s:Sim K H mu S)(hp:H p=Y):p∉mu:=λh=>by
 obtain⟨o,e⟩:=s.here h;rw[hp]at e;cases e
theorem ot.more{a:cN}{mu':List cN}{H':Hp}(e:Ext mu mu' H H')(h:∀o,H a=Z o->H' a=Z o):∀{o:Ob},ot K H mu a o->ot K H' mu' a o
 | .lst _,⟨vs,q,r⟩=>⟨vs,h _ q,r.ext e⟩
 | .dct _,⟨ws,q,r⟩=>⟨ws,h _ q,KR.ext e r⟩
 | .dcT _,⟨ws,q,r,l⟩=>⟨ws,h _ q,KT.ext e r,l⟩
 | .iset _,q=>⟨h _ q.1,q.2⟩
 | .dcF _,⟨ws,⟨o,u,c,b⟩,r,l⟩=>⟨ws,⟨o,u,h _ c,b⟩,KT.ext e r,l⟩
 | .tst _,⟨ws,q,r⟩=>⟨ws,h _ q,KT.ext e r⟩
theorem Sim.new(s:Sim K H mu S)(hp:H p=Y)(ho:ot K (upd H p u) (mu++[p]) p o):Sim K (upd H p u) (mu++[p]) (S++[o]):=by
 refine⟨by rw[lA1,lA1,s.len];rfl,?_,λk o' a h1 h2=>?_⟩
 ·rw[bx];refine⟨s.nd,by simp,λa f b g e=>?_⟩;have:b=p:=by simpa using g
  subst this;subst e;exact s.notin hp f
 ·by_cases d:k<S.length
  ·rw[gL1 d]at h1;rw[gL1 (by rw[s.len];exact d)]at h2;exact(s.ob k o' a h1 h2).more (Ext.new_ hp) λh e=>by rw[dG (d0 e hp)];exact e
  ·have c:k=S.length:=by
    have:=(gE1.mp h1).1;rw[lA1]at this;simp at this;lia
   subst c;rw[gR1 (nR1 _)]at h1;rw[<- s.len,gR1 (nR1 _)]at h2;simp at h1 h2;subst h1;subst h2;exact ho
theorem Ext.put{x:HO}(hp:H p=Z x)(hm:Hy (Z x))(b:p∈mu):Ext mu mu H (upd H p u) where
 pre:=bp
 old:=λa o h n=>by rw[dG (λe=>n (by rw[e];exact b))];exact h
 tup:=λa xs h=>by
  have ne:a≠p:=by
   rintro rfl;rcases h with h|⟨_,h⟩<;>(rw[hp]at h;cases h;exact hm)
  rcases h with h|⟨c,h⟩
  ·exact .inl (by rw[dG ne];exact h)
  ·exact .inr ⟨c,by rw[dG ne];exact h⟩
 frz:=λa o y h=>by
  rw[dG (λe=>?_)]
  ·exact h
  ·subst e;rw[hp]at h;cases h;exact hm
 new:=λ_ h=>.inl h
theorem Sim.put(s:Sim K H mu S){x:HO}(hn:mu[n]?=Z p)(hp:H p=Z x)(hm:Hy (Z x))(ho:ot K (upd H p u) mu p o):Sim K (upd H p u) mu (S.set n o):=by
 refine⟨by rw[aT];exact s.len,s.nd,λk o' a h1 h2=>?_⟩;by_cases b:n=k
 ·subst b;have d:n<S.length:=by
   have:=(gE1.mp h1).1
   rwa [aT]at this
  rw[aG d]at h1;cases h1;rw[hn]at h2;cases h2;exact ho
 ·rw [gS1 b] at h1;have ne:a≠p:=fun e=>by
   subst e;obtain⟨g,c⟩:=gE1.mp hn;obtain⟨i,f⟩:=gE1.mp h2;exact b ((List.getElem_inj s.nd).mp (c.trans f.symm))
  exact(s.ob k o' a h1 h2).keep (Ext.put hp hm (gM1 hn)) λh e=>by rw[dG ne];exact e
theorem Sim.lst(s:Sim K H mu S){ds:List D}{a:cN}(h:S[n]?=Z (.lst ds))(hn:mu[n]?=Z a):∃vs,H a=Z (.lst vs)/\dt K H mu ds vs:=s.ob n _ a h hn
theorem Sim.dcT(s:Sim K H mu S){ks:List (TK×D)}{a:cN}(h:S[n]?=Z (.dcT ks))(hn:mu[n]?=Z a):∃ws,H a=Z (.ext (i1 a ws))/\KT K H mu ks ws/\ws.length<=cT:=s.ob n _ a h hn
theorem Sim.dct(s:Sim K H mu S){ks:List (Key×D)}{a:cN}(h:S[n]?=Z (.dct ks))(hn:mu[n]?=Z a):∃ws,H a=Z (.dK ws)/\KR K H mu ks ws:=s.ob n _ a h hn
theorem Sim.newL(s:Sim K H mu S){ds:List D}{vs:List V}(r:dt K H mu ds vs)(hp:H p=Y):Sim K (upd H p (.lst vs)) (mu++[p]) (S++[.lst ds]):=s.new hp ⟨vs,d5,r.ext (Ext.new_ hp)⟩
theorem Sim.putL(s:Sim K H mu S){ds:List D}{vs ws:List V}(r:dt K H mu ds vs)(hn:mu[n]?=Z p)(hp:H p=Z (.lst ws)):Sim K (upd H p (.lst vs)) mu (S.set n (.lst ds)):=
 s.put hn hp trivial ⟨vs,d5,r.ext (Ext.put hp trivial (gM1 hn))⟩
end
theorem gY{mu:List cN}{S:Sto}(h:mu.length=S.length)(p:cN):(mu++[p])[S.length]?=Z p:=by
 rw[<- h,gR1 (nR1 _)];simp
noncomputable def d2 (a:FA):FE:=λr S=>(a r S).bind λp=>if p.1.length<=cT then some (.tup p.1,p.2)else none
noncomputable def eW (a:FA):FE:=λr S=>(a r S).bind λp=>if p.1.length<=cT then some (.ref p.2.length,p.2++[.lst p.1])else none
section
variable{X:Cx}{es:List Expr}{pos:Pos}{a:FA}
theorem Ge{x1}(h:MA X es a):ME X (.Tuple es x1 pos) (d2 a):=em (Fm h) <| by
 rintro σ H Q ⟨r,mu,S,d,m,k,j,b,hc⟩;obtain⟨⟨ds,l⟩,f,b⟩:=oB1.mp b;dsimp only at b;split at b
 ·rename_i g;cases b;refine⟨r,mu,S,ds,_,k,j,f,λvs H1 mu1 x1 e i=>⟨by rw[<- e.length];exact g,λp c=>?_⟩⟩;exact hc _ _ mu1 (x1.trans (Ext.fresh c)) (.tup (jW.of d5) (e.ext (Ext.fresh c))) (i.fresh c)
 ·cases b
theorem Gk(h:MA X es a):ME X (.List es pos) (eW a):=em (Ft h) <| by
 rintro σ H Q ⟨r,mu,S,d,n,k,j,b,hc⟩;obtain⟨⟨ds,m⟩,g,b⟩:=oB1.mp b;dsimp only at b;split at b
 ·rename_i i;cases b;refine⟨r,mu,S,ds,_,k,j,g,λvs H1 mu1 l c f=>⟨by rw[<- c.length];exact i,λp e=>?_⟩⟩;exact hc _ _ (mu1++[p]) (l.trans (Ext.new_ e)) (.ref (gY f.len p)) (f.newL c e)
 ·cases b
end
def wP(k:Nat)(keep:List Nat)(r:Ev):Ev:=aM k Y++keep.map λi=>(r[i]?).join
def eO:FT:=λ_ S=>Z (M,S)
theorem IW{K:Fg1}{H:Hp}{mu:List cN}{r:Ev}{σ:L2.St}(k:Nat)(keep:List Nat)(h:fx K H mu r σ):fx K H mu (wP k keep r) (qp k keep σ):=by
 refine⟨by unfold wP qp;rw[lA1,lA1,lM1,lM1,lR1,lR1],λi d e=>?_⟩;unfold wP at e;unfold qp;by_cases hi:i<k
 ·rw[gL1 (by rw[lR1];exact hi),aP]at e;split at e<;>cases e
 ·rw [gR1 (by rw [lR1];lia),lR1,gP1] at e;rw [gR1 (by rw [lR1];lia),lR1,gP1];obtain ⟨j,b,e⟩:=oM1.mp e;rw [b];have c:r[j]? = some (some d):=by
   cases q:r[j]? with
   |none=>rw[q]at e;cases e
   |some o=>rw[q]at e;cases e;rfl
  obtain⟨v,a,f⟩:=h.val j d c;exact⟨v,by rw[oP1,a];rfl,f⟩
section
variable{X:Cx}
theorem yC{ifs:List Expr}{t t':L2.TT}(h:ol X ifs t)(i:∀ σ H Q,t' σ H Q->t σ H Q):ol X ifs t':=λag s σ H Q I q=>h ag s σ H Q I (i σ H Q q)
theorem Ck:ol X [] (xX X.K eO):=yC yB fun σ H Q ⟨r,mu,S,b,e,d,c,a,hc⟩=>by cases a;exact hc H mu (.refl _ _) c
theorem Cj{c:Expr}{t:FT}(h:MT X c t):ol X [c] (xX X.K t):=yA h
end
open PySem.AutoSeq1 (wpAny_loadPart')
def SIt(b:Bool)(h:cW)(it a:cN)(i:Nat):Prop:=match b with
 |true=>h.IsListIter it a i
 |false=>h.IsTupleIter it a i
def SCo(b:Bool)(h:cW)(a:cN)(xs:Array cK):Prop:=match b with
 |true=>h.IsList a xs
 |false=>h.IsTuple a xs
theorem SIt.to{b:Bool}{h h':cW}{it a:cN}{i:Nat}(x:SIt b h it a i)(k:∀o,h.get? it=Z o->h'.get? it=Z o):SIt b h' it a i:=by
 cases b<;>(obtain⟨o,e,r⟩:=x;exact⟨o,k o e,r⟩)
theorem SIt.rec_{b:Bool}{h:cW}{it a:cN}{i:Nat}(x:SIt b h it a i):∃o,h.get? it=Z o /\ ∀v,o.data ≠ .cell v:=by
 cases b<;>(obtain⟨o,e,c,d⟩:=x;exact⟨o,e,λv z=>by rw[d]at z;cases z⟩)
theorem SCo.to{b:Bool}{h h':cW}{a:cN}{xs:Array cK}(x:SCo b h a xs)(k:∀o,h.get? a=Z o->h'.get? a=Z o):SCo b h' a xs:=by
 cases b<;>(obtain⟨o,e,r⟩:=x;exact⟨o,k o e,r⟩)
def hW(b:Bool)(a:cN):Obj:=match b with
 |true=>{cls:=.type "list_iterator",data:=.fields #[.ref a,.int 0 0]}
 |false=>{cls:=.type "tuple_iterator",data:=.fields #[.ref a,.int 0 0]}
section
variable{prog:cO}{w:cQ}{A:cP}{E:cK->cM->Prop}{s:cM}
theorem Bv{b:Bool}{h:cW}{it a:cN}(e:h.get? it=Z (hW b a)):SIt b h it a 0:=by
 cases b<;>exact⟨_,e,O,O⟩
theorem kN{b:Bool}{a:cN}{xs:Array cK}{Q:cK->cM->Prop}(x:SCo b s.heap a xs)(h:Q (.ref s.heap.objs.size) {s with heap:=s.heap.push (hW b a)}):cU (model prog w) A (pyIter (.ref a)) Q E s:=by
 cases b
 ·exact wpAny_pyIter_tuple x h
 ·exact wpAny_pyIter_list x h
theorem yT{it l:cN}{i:Nat}{xs:Array cK}{x:cK}{Q:cK->cM->Prop}(e:s.heap.IsTupleIter it l i)(tl:s.heap.IsTuple l xs)(hx:xs[i]? = Z x)(f:∀h',h'.IsTupleIter it l (i+1)->Heap.SameBut it s.heap h'->Q x {s with heap:=h'}):cU (model prog w) A (Builtin.SmallTypes.nextOf (.ref it)) Q E s:=by
 obtain⟨o,b,hc,a⟩:=id e;obtain⟨h,d,_,g,c⟩:=tl;unfold Builtin.SmallTypes.nextOf;refine wB1 (wpAny_callSpecial?_slot (name:=Str.ofString "__next__") e.typeIs F.slot_tuple_iterator_next (wE1 F.slot_tuple_iterator_next e.typeIs F.entry_tuple_iterator_next ?_ (F.args_tuple_iterator_next_1 _)));show cU _ _ (field (.ref it) 0 >>= _) _ _ s;refine wB1 (wpAny_field b a (x:=.ref l) O ?_);show cU _ _ (if(Value.ref l == Value.none)=M then _ else _) _ _ s;rw[aj (show¬ ((Value.ref l == Value.none)=M)from aI)];show cU _ _ (field (.ref it) 1 >>= _) _ _ s;refine wB1 (wpAny_field b a (x:=.int i 0) O ?_);show cU _ _ (seqItems? (.ref l) >>= _) _ _ s;refine wB1 (wpAny_seqItems d c ?_);simp only[Int.toNat_natCast,hx];refine wB1 (wpAny_setField b a (by simp) (wP1 ⟨x,O,wP1 (f _ ⟨_,hW1 _ b (Obj.isFreed_of_fields (Obj.data_mapFields a _)),(Obj.cls_mapFields ..).trans hc,by rw[Obj.data_mapFields a];simp[rawInt]⟩ (Heap.SameBut.update ..))⟩))
theorem qc {it l:cN}{i:Nat}{xs:Array cK}{Q:cK->cM->Prop}(h:A.handled=none)(g:s.heap.IsTupleIter it l i)(tl:s.heap.IsTuple l xs)(hx:xs[i]? = none)
  (j:∀h' e,Heap.ExtBut it s.heap h'->(∃o,h'.get? e=Z o/\o.cls = .type "StopIteration")->E (.ref e) {s with heap:=h'}):cU (model prog w) A (Builtin.SmallTypes.nextOf (.ref it)) Q E s:=by
 obtain⟨o,f,hc,d⟩:=id g;obtain⟨n,c,_,k,b⟩:=tl;unfold Builtin.SmallTypes.nextOf;refine wB1 (wpAny_callSpecial?_slot (name:=Str.ofString "__next__") g.typeIs F.slot_tuple_iterator_next (wE1 F.slot_tuple_iterator_next g.typeIs F.entry_tuple_iterator_next ?_ (F.args_tuple_iterator_next_1 _)));show cU _ _ (field (.ref it) 0 >>= _) _ _ s;refine wB1 (wpAny_field f d (x:=.ref l) O ?_);show cU _ _ (if(Value.ref l == Value.none)=M then _ else _) _ _ s;rw[aj (show¬ ((Value.ref l == Value.none)=M)from aI)];show cU _ _ (field (.ref it) 1 >>= _) _ _ s;refine wB1 (wpAny_field f d (x:=.int i 0) O ?_);show cU _ _ (seqItems? (.ref l) >>= _) _ _ s;refine wB1 (wpAny_seqItems c b ?_);simp only[Int.toNat_natCast,hx];refine wB1 (wpAny_rule (wB1 (wpAny_setField f d (by simp) ?_)));show cU _ _ (newExc (.type "StopIteration") [] >>= _) _ _ _;refine wB1 ?_;simp only[newExc,newTuple];refine wB1 (wO1 ?_ (by size_fits));refine wB1 (m:=firstArgMember _ _) (wpAny_of_eq (a:=Value.none) (by first|rfl|(simp only[firstArgMember];rfl)) ?_);refine wO1 ?_ (by size_fits);simp only[raiseNew];refine wB1 (wpAny_handled ?_)
 first|rw[show A.in1.handled=Y from h] | rw[h]
 refine wB1 (wP1 (wpAny_throw ?_));exact j _ _ (((Heap.SameBut.update ..).extBut.push _).push _) ⟨_,hS1 _ O,O⟩
theorem yU{b:Bool}{it l:cN}{i:Nat}{xs:Array cK}{x:cK}{Q:cK->cM->Prop}(a:SIt b s.heap it l i)(tl:SCo b s.heap l xs)(hx:xs[i]? = Z x)(c:∀h',SIt b h' it l (i+1)->Heap.SameBut it s.heap h'->Q x {s with heap:=h'}):cU (model prog w) A (Builtin.SmallTypes.nextOf (.ref it)) Q E s:=by
 cases b
 ·exact yT a tl hx c
 ·exact wpAny_nextOf_list_item a tl hx c
theorem qg {b:Bool}{it l:cN}{i:Nat}{xs:Array cK}{Q:cK->cM->Prop}(c:A.handled=none)(a:SIt b s.heap it l i)(tl:SCo b s.heap l xs)(hx:xs[i]? = none)
  (d:∀h' e,Heap.ExtBut it s.heap h'->(∃o,h'.get? e=Z o/\o.cls = .type "StopIteration")->E (.ref e) {s with heap:=h'}):cU (model prog w) A (Builtin.SmallTypes.nextOf (.ref it)) Q E s:=by
 cases b
 ·exact qc c a tl hx d
 ·exact wpAny_nextOf_list_end c a tl hx d
theorem Ac{b:Bool}(l:cN)(xs:Array cK):
  Meets (Builtin.«enumerate.__new__» ⟨[.type "enumerate",.ref l],[]⟩) (λ_ R s=>SCo b s.heap l xs /\
   R (.ok (.ret (.ref (s.heap.push (hW b l)).objs.size))) {s with heap:=(s.heap.push (hW b l)).push {cls:=.type "enumerate",data:=.fields #[.none,.bool J,.ref s.heap.objs.size,rawInt 0,.none,.none]}}):=
 .of_wp λprog w A R s h=>by
  obtain⟨j,g,d,tk,m⟩:=s;obtain⟨k,h⟩:=h;have f:=sub_enumerate
  have i:SCo b (Shared.heap ⟨j,g,d,tk,m⟩) l xs:=k;obtain⟨n,a⟩:∃o,j.get? l=some o:=by cases b<;>(obtain⟨o,e,_⟩:=k;exact⟨o,e⟩)
  wp_walk using wpAny_loadPart' a
  refine wpAny_stack_any λst=>wP1 ?_;split
  ·rename_i c _ _ _ _ _;cases(c == Value.type "enumerate")<;>(wp_walk using wpAny_loadPart' a,kN i;exact⟨_,O,h⟩)
  ·wp_walk using wpAny_loadPart' a,kN i
   exact⟨_,O,h⟩
theorem wX{b:Bool}{l:cN}{xs:Array cK}{Q:cK->cM->Prop}(f:SCo b s.heap l xs)(h:∀h',IsEnum h' (s.heap.objs.size+1) s.heap.objs.size 0 .none->SIt b h' s.heap.objs.size l 0->h'.objs.size=s.heap.objs.size+2->(∀b o,s.heap.get? b=some o->h'.get? b=some o)->Q (.ref (s.heap.objs.size+1)) {s with heap:=h'}):
  cU (model prog w) A (call (.type "enumerate") [.ref l]) Q E s:=by
 refine callType_new F.called_enumerate (by decide) (F.typeCall_enumerate_1 _) (F.newCall_enumerate_1 _) (λd=>F.args_object_init_2 d _) F.entry_enumerate_new (Ac (b:=b) l xs) ⟨f,?_⟩;have a:(s.heap.push (hW b l)).objs.size=s.heap.objs.size+1:=hZ1 ..
 show _/\_;rw[a];have e:IsEnum ((s.heap.push (hW b l)).push {cls:=.type "enumerate",data:=.fields #[.none,.bool J,.ref s.heap.objs.size,rawInt 0,.none,.none]}) (s.heap.objs.size+1) s.heap.objs.size 0 .none:=by
  have q:=hS1 (s.heap.push (hW b l)) (o:={cls:=.type "enumerate",data:=.fields #[.none,.bool J,.ref s.heap.objs.size,rawInt 0,.none,.none]}) O;rw[a]at q;exact q
 have hi:(s.heap.push (hW b l)).get? s.heap.objs.size=Z (hW b l):=hS1 _ (by cases b<;>rfl);refine⟨⟨_,e,O⟩,h _ e (Bv (hP1 _ hi)) (by rw[hZ1,a]) λc o x=>hP1 _ (hP1 _ x)⟩
theorem wW {b:Bool}{e it l:cN}{i:Nat}{xs:Array cK}{x old:cK}{Q:Option cK->cM->Prop}(he:IsEnum s.heap e it i old)(U:SIt b s.heap it l i)(tl:SCo b s.heap l xs)(hx:xs[i]? = some x)(k:e≠it)
  (T:∀h',IsEnumOut h' e it ((i:Int)+1) x s.heap.objs.size->SIt b h' it l (i+1)->h'.get? s.heap.objs.size=Z {cls:=.type "tuple",data:=.seq #[.int i s.toks,x]}->h'.objs.size=s.heap.objs.size+1 ->
   (∀b o,b≠e->b≠it->s.heap.get? b=Z o->h'.get? b=Z o)->Q (Z (.ref s.heap.objs.size)) {s with heap:=h',toks:=s.toks+1}):cU (model prog w) A (pyNext (.ref e)) Q E s:=by
 have S:s.TypeIs (.ref e) "enumerate":=⟨_,he,O⟩;unfold pyNext;refine wB1 (wpAny_attempt (wpAny_callSpecial?_slot (name:=Str.ofString "__next__") S F.slot_enumerate_next (wE1 F.slot_enumerate_next S F.entry_enumerate_next ?_ (F.args_enumerate_next_1 _))));obtain⟨n,g,d,tk,t⟩:=s;show cU _ _ (field (.ref e) 2 >>= _) _ _ _;refine wB1 (wpAny_field he O (x:=.ref it) O ?_);refine wB1 (yU U tl hx λh1 H G=>?_);replace G:Heap.SameBut it n h1:=G;have j:IsEnum h1 e it i old:=(G.2 e k).trans he;show cU _ _ (field (.ref e) 3 >>= _) _ _ ⟨h1,g,d,tk,t⟩;refine wB1 (wpAny_field j O (x:=rawInt i) O ?_);show cU _ _ (field (.ref e) 4 >>= _) _ _ ⟨h1,g,d,tk,t⟩;refine wB1 (wpAny_field j O (x:=.none) O ?_);show cU _ _ (mkInt i >>= _) _ _ ⟨h1,g,d,tk,t⟩;refine wB1 (wpAny_mkInt ?_);show cU _ _ (setField (.ref e) 3 (rawInt ((i:Int)+1)) >>= _) _ _ ⟨h1,g,d,tk+1,t⟩;refine wB1 (wS1 j (by simp) λh2 p C=>?_);replace C:Heap.SameBut e h1 h2:=C;replace p:IsEnum h2 e it ((i:Int)+1) old:=p;show cU _ _ (setField (.ref e) 4 .none >>= _) _ _ ⟨h2,g,d,tk+1,t⟩;refine wB1 (wS1 p (by simp) λh3 m D=>?_);replace D:Heap.SameBut e h2 h3:=D;replace m:IsEnum h3 e it ((i:Int)+1) old:=m;show cU _ _ (newTuple [.int i tk,x] >>= _) _ _ ⟨h3,g,d,tk+1,t⟩;refine wB1 (wpAny_newTuple ?_);have r:IsEnum (h3.push {cls:=.type "tuple",data:=.seq #[.int i tk,x]}) e it ((i:Int)+1) old:=hP1 _ m;generalize f:h3.push {cls:=.type "tuple",data:=.seq #[.int i tk,x]}=h4 at r;have h:h3.objs.size=n.objs.size:=by rw[D.1,C.1,G.1]
 have P:e<n.objs.size:=hL1 he;have L:h4.get? n.objs.size=Z {cls:=.type "tuple",data:=.seq #[.int i tk,x]}:=by rw[<- f,<- h];exact hS1 _ O
 have R:h4.objs.size=n.objs.size+1:=by rw[<- f,hZ1,h]
 have ao:∀b o,b≠e->b≠it->n.get? b=Z o->h4.get? b=Z o:=λb o a y N=>by
  rw[<- f];exact hP1 _ (D.extBut b o a (C.extBut b o a (G.extBut b o y N)))
 have ar:SIt b h4 it l (i+1):=H.to λo q=>by rw[<- f];exact hP1 _ (D.extBut _ _ (Ne.symm k) (C.extBut _ _ (Ne.symm k) q))
 show cU _ _ (Builtin.SmallTypes.ownedTupleIsFree (.ref e) >>= _) _ _ ⟨h4,g,d,tk+1,t⟩;rw[h];clear f m D p C j G H h h3 h2 h1;refine wB1 ?_;unfold Builtin.SmallTypes.ownedTupleIsFree;refine wB1 (wpAny_field r O (x:=.none) O (wP1 ?_));simp only[if_true];refine wB1 (wpAny_rule ?_);refine wB1 (wpAny_field r O (x:=old) O ?_);refine wB1 (wS1 r (by simp) λh5 u I=>?_);replace I:Heap.SameBut e h4 h5:=I;replace u:IsEnum h5 e it ((i:Int)+1) x:=u;show cU _ _ (Builtin.SmallTypes.ownedTupleHandOut (.ref e) (.ref n.objs.size) >>= _) _ _ ⟨h5,g,d,tk+1,t⟩;refine wB1 ?_;unfold Builtin.SmallTypes.ownedTupleHandOut;refine wB1 (wS1 u (by simp) λh6 v K=>?_);replace K:Heap.SameBut e h5 h6:=K;replace v:IsEnumOut h6 e it ((i:Int)+1) x n.objs.size:=v;refine wS1 v (by simp) λh7 B am=>?_;replace am:Heap.SameBut e h6 h7:=am;replace B:IsEnumOut h7 e it ((i:Int)+1) x n.objs.size:=B;have up:∀c o,c≠e->h4.get? c=Z o->h7.get? c=Z o:=λc o z q=>am.extBut _ _ z (K.extBut _ _ z (I.extBut _ _ z q));refine wB1 (wpAny_letGo (wP1 ⟨_,O,wP1 (T h7 B (ar.to λo q=>up _ o (Ne.symm k) q) (up _ _ (nG1 P) L) (by rw[am.1,K.1,I.1,R]) λc o a y N=>up c o a (ao c o a y N))⟩))
theorem Ad{b:Bool}{e it l:cN}{i:Nat}{xs:Array cK}{old:cK}{Q:Option cK->cM->Prop}(g:A.handled=Y)(he:IsEnum s.heap e it i old)(j:SIt b s.heap it l i)(tl:SCo b s.heap l xs)(hx:xs[i]? = Y)(f:∀h',Heap.ExtBut it s.heap h'->Q Y {s with heap:=h'}):cU (model prog w) A (pyNext (.ref e)) Q E s:=by
 have d:s.TypeIs (.ref e) "enumerate":=⟨_,he,O⟩;unfold pyNext;refine wB1 (wpAny_attempt (wpAny_callSpecial?_slot (name:=Str.ofString "__next__") d F.slot_enumerate_next (wE1 F.slot_enumerate_next d F.entry_enumerate_next ?_ (F.args_enumerate_next_1 _))));show cU _ _ (field (.ref e) 2 >>= _) _ _ _;refine wB1 (wpAny_field he O (x:=.ref it) O ?_);refine wB1 (qg g j tl hx λh' x a c=>?_);obtain⟨o,h,hc⟩:=c;refine wB1 (wpAny_isInstance (T:="StopIteration") (b:=M) ⟨o,h,hc⟩ isSubtype_stop ?_);exact wP1 (f _ a)
theorem pe{e it:cN}{i:Int}{old:cK}{Q:cK->cM->Prop}(he:IsEnum s.heap e it i old)(h:Q (.ref e) s):cU (model prog w) A (pyIter (.ref e)) Q E s:=by
 have a:s.TypeIs (.ref e) "enumerate":=⟨_,he,O⟩;refine wpAny_pyIter_slot a F.slot_enumerate_iter (wE1 F.slot_enumerate_iter a F.entry_enumerate_iter ?_ (F.args_enumerate_iter_1 _));show cU _ _ (ret (.ref e)) _ _ s;exact wP1 ⟨_,O,"enumerate",_,a,F.slot_enumerate_next.lookup,h⟩
end
open PySem.AutoSeq1 (wpAny_loadPart')
section
variable{prog:cO}{w:cQ}{A:cP}{E:cK->cM->Prop}{s:cM}{b1 b2:Bool}
end
def A2(K:Fg1)(b:Bool)(H:Hp)(a:cN)(xs:List V):Prop:=match b with
 |true=>lp K H a xs
 |false=>jW K H a xs
section
variable{X:Cx}{ag:List (cN×Obj)}{σ:L2.St}{H:Hp}{s:cM}
theorem eZ{b:Bool}{a:cN}{xs:List V}(I:Inv X ag σ H s)(h:A2 X.K b H a xs):∃c:List cK,dU xs c/\SCo b s.heap a c.toArray/\xs.length<=cT:=by
 cases b
 ·obtain⟨c,r,p,z⟩:=I.tuple h;exact⟨c,r,p,z⟩
 ·obtain⟨c,r,p,z⟩:=I.list h;exact⟨c,r,p.isList,z⟩
theorem u3{b:Bool}{a:cN}{xs ys:List V}(I:Inv X ag σ H s)(h:A2 X.K b H a xs)(h':A2 X.K b H a ys):xs=ys:=by
 cases b
 ·exact I.tuple_inj h h'
 ·exact I.list_inj h h'
theorem zE(I:Inv X ag σ H s){fp:List cN}(hf:∀ b∈fp,kF X ag H b){h':cW}{p:cN}{xs:List V}{its:List cK}{t':Nat}(hp:s.heap.objs.size<=p)(d:∀ b o,b∉fp->s.heap.get? b=Z o->h'.get? b=Z o)(l:IsTup h' p its.toArray)(i:dU xs its)(hz:xs.length<=cT):Inv X ag σ (upd H p (.tup xs)) {s with heap:=h',toks:=t'}:=by
 have f:H p=Y:=I.hok.fresh hp;have g:∀{b o},s.heap.get? b=Z o->b≠p:=λe=>nN1 (nL1 (hL1 e) hp);have h:∀{b u},H b=Z u->b∉fp:=λe z=>by rw[(hf _ z).1]at e;cases e
 refine I.step (g':=s.gens) (d':=s.drawn) (ch:=fp) (λb a=>⟨(hf b a).2.2.2.1,(hf b a).2.1,(hf b a).2.2.2.2.1,(hf b a).2.2.2.2.2⟩) (λb o _ _ hc e _=>d b o hc e) (λb o _ _ hc e _=>⟨o.slots,d b o hc e⟩) (λb o _ e n=>?_)
  (λb o hc e=>⟨o,d b o hc e⟩) (λb ys e=>?_) (λb o u e=>?_) (λb ps e=>⟨#[],?_⟩) (λm k=>?_) (λb u e=>?_) I.bare
 ·rw[dG (g e)];exact n
 ·rw[dG (d0 e f)];exact e
 ·rw[dG (d0 e f)];exact e
 ·rw[dG (d0 e f),e];simp
 ·obtain⟨o,es,ep,j,r⟩:=k;exact⟨o,es,ep,d _ o (λz=>(hf _ z).2.1 O) j,r⟩
 ·by_cases a:b=p
  ·subst a;rw[d5]at e;cases e;exact⟨hz,its,i,l⟩
  ·rw[dG a]at e;refine(I.hok b u e).stay (λc v hc q=>d c v ?_ q) (λc q=>by rw[dG (d0 q f)];exact q) λc ys q=>by rw[dG (d0 q f)];exact q
   rcases hc with z|z
   ·rw[z];exact h e
   ·exact h z
theorem uq(I:Inv X ag σ H s){fp:List cN}(hf:∀b∈fp,kF X ag H b){h':cW}{t':Nat}(a:∀b o,b∉fp->s.heap.get? b=Z o->h'.get? b=Z o):Inv X ag σ H {s with heap:=h',toks:=t'}:=by
 have f:∀{b u},H b=Z u->b∉fp:=λe z=>by rw[(hf _ z).1]at e;cases e
 refine I.step (g':=s.gens) (d':=s.drawn) (ch:=fp) (λb d=>⟨(hf b d).2.2.2.1,(hf b d).2.1,(hf b d).2.2.2.2.1,(hf b d).2.2.2.2.2⟩) (λb o _ _ hc e _=>a b o hc e) (λb o _ _ hc e _=>⟨o.slots,a b o hc e⟩) (λb o _ e n=>n)
  (λb o hc e=>⟨o,a b o hc e⟩) (λb ys e=>e) (λb o u e=>e) (λb ps e=>⟨#[],by rw[e];simp⟩) (λm h=>?_) (λb u e=>?_) I.bare
 ·obtain⟨o,es,ep,g,r⟩:=h;exact⟨o,es,ep,a _ o (λz=>(hf _ z).2.1 O) g,r⟩
 ·refine(I.hok b u e).stay (λc v hc q=>a c v ?_ q) (λc q=>q) λc ys q=>q;rcases hc with z|z
  ·rw[z];exact f e
  ·exact f z
end
theorem xM:(2:Nat)<=cT:=by decide
def Lk(K:Fg1)(b:Bool)(a:cN):It:=
 ⟨λi H=>∃xs x,A2 K b H a xs/\xs[i]?=Z x,λi H x H'=>∃p v,H p=Y/\x = .ref p/\H'=upd H p (.tup [.int i,v]) /\ ∀xs,A2 K b H a xs->xs[i]?=Z v,λi H=>∃xs,A2 K b H a xs/\xs.length<=i⟩
theorem wk{P:cO}{w:cQ}{K:Fg1}{elts:List Expr}{k:Nat}{pos:Pos}(b:Bool)(a e it:cN)(ne:e≠it):xg P w K (.Tuple elts k pos) (Lk K b a) [e,it] e (λi h=>(∃old,IsEnum h e it (i:Nat) old)/\SIt b h it a i) where
 mem:=by simp
 obj:=by
  rintro i h ⟨⟨old,st⟩,y⟩ c hc;rcases aD.mp hc with z|z
  ·subst z;exact⟨_,st,λv q=>by cases q⟩
  ·have z':c=it:=by simpa using z
   subst z';exact y.rec_
 keep:=λi h h' ⟨⟨old,st⟩,y⟩ R=>⟨⟨old,R e (by simp) _ st⟩,y.to λo q=>R it (by simp) o q⟩
 item:=by
  intro X C F B hc i ag s σ H E I g st N;subst C F B;obtain⟨⟨old,f⟩,m⟩:=st;obtain⟨xs,x,j,p⟩:=N;obtain⟨n,D,A,V⟩:=eZ I j;obtain⟨u,hu,aq⟩:=D.get p;refine wW f m A (x:=u) (by simpa using hu) ne λh1 am t G hz1 ao=>?_;refine⟨.ref s.heap.objs.size,O,?_⟩;refine wpAny_letOwnedTupleGo_enum am λh2 L d=>?_;have ar:s.heap.objs.size≠e:=nG1 (hL1 f);have r:∀c o,c∉[e,it]->s.heap.get? c=Z o->h2.get? c=Z o:=λc o hc q=>by
   have l:c≠e:=λz=>hc (by simp[z]);have W:c≠it:=λz=>hc (by simp[z]);exact d.extBut _ _ l (ao c o l W q)
  have tp:IsTup h2 s.heap.objs.size [.int (i:Nat) s.toks,u].toArray:=⟨_,d.extBut _ _ ar G,O,_,O⟩;have S:=zE I g (t':=s.toks+1) (nR1 _) r tp (xs:=[.int i,x]) (.cons ⟨_,O⟩ (.cons aq .nil)) xM;have U:H s.heap.objs.size=Y:=I.hok.fresh (nR1 _);refine⟨.ref s.heap.objs.size,_,S,O,⟨_,x,U,O,O,λys hy=>by rw[u3 I hy j];exact p⟩,⟨⟨u,?_⟩,t.to λo q=>d.extBut _ _ (Ne.symm ne) q⟩,λc hc=>?_⟩
  ·have:((i+1:Nat):Int)=(i:Int)+1:=by push_cast;rfl
   rw[this];exact L
  ·have l:c≠s.heap.objs.size:=fun z=>by
    rcases aD.mp hc with q|q
    ·exact ar (z.symm.trans q)
    ·have wq:c=it:=by simpa using q
     obtain⟨o,Q,_⟩:=m.rec_;rw[<- wq,z]at Q;exact ay _ (hL1 Q)
   rw[dG l];exact(g c hc).1
 done:=by
  intro X C F B hc i ag s σ H E I g st N;subst C F B;obtain⟨⟨old,f⟩,m⟩:=st;obtain⟨xs,j,p⟩:=N;obtain⟨n,D,A,V⟩:=eZ I j;have hl:=D.length;refine Ad (I.ok.hd hc) f m A (by simp;lia) λh' T=>⟨O,uq I (t':=s.toks) g λc o hc q=>T c o (λz=>hc (by simp[z])) q⟩
 self:=λ_ _ _ _ _ ⟨⟨_,st⟩,_⟩ h=>pe st h
section
variable{X:Cx}{elts:List Expr}{k:Nat}{tpos:Pos}
def I1(K:Fg1)(ta:TA):TI:=fun σ H R=>ta σ H λvs H1=>∃a b,vs=[.ref a]/\(∃xs,A2 K b H1 a xs)/\R (Lk K b a) H1
theorem BS {a:Expr}{ta:TA}{p pos:Pos}(hg:Gl X "enumerate")(hm:X.mg "enumerate"=Y)(ha:PA X [a] ta)(hs:cS [a] X.env=[(J,eval a X.env)]:=by rfl):PI X (.Tuple elts k tpos) (.Call (.Name "enumerate" p) [a] [] pos) (I1 X.K ta):=by
 intro ag s σ H R I h;refine Call_ (lG I hg hm boot_enumerate (PyProof.Rows.callWith_type1 (eN (ha pos ag s σ H _ I h) λC f ⟨vs,H1,g,m,v⟩=>?_) hs O));obtain⟨c,b,e,⟨xs,w⟩,q⟩:=v;subst e;cases m with
 |cons r u=>
  cases u;cases r;obtain⟨o,D,y,B⟩:=eZ g w;refine wX y λh' i A t l=>pe i ?_;have n:Inv X ag σ H1 {f with heap:=h'}:=g.kept (t':=f.toks) l;refine⟨f.heap.objs.size+1,[f.heap.objs.size+1,f.heap.objs.size],_,_,H1,O,n,wk b c _ _ (Nat.succ_ne_self _),⟨⟨.none,i⟩,A⟩,λd x=>?_,q⟩;rcases aD.mp x with z|z
  ·subst z;exact g.fpOk (bF _) (g.hok.fresh (bF _))
  ·have j:d=f.heap.objs.size:=by simpa using z
   subst j;exact g.fpOk (nR1 _) (g.hok.fresh (nR1 _))
end
noncomputable def dn (S:Sto):D->Option (Bool×List D)
 | .tup xs=>some (false,xs)
 | .rol xs=>some (true,xs)
 | .ref n=>match S[n]? with
  |some (.lst xs)=>some (true,xs)
  |_=>none
 |_=>none
def li(S:Sto):D->List (Nat×List D)
 | .ref n=>match S[n]? with
  |some (.lst xs)=>[(n,xs)]
  |_=>[]
 |_=>[]
section
variable{K:Fg1}{H:Hp}{mu:List cN}{S:Sto}
theorem dA{d:D}{v:V}{b:Bool}{xs:List D}(r:eA K H mu d v)(s:Sim K H mu S)(h:dn S d=Z (b,xs)):∃a vs,v = .ref a/\A2 K b H a vs/\dt K H mu xs vs:=by
 cases d with
 |tup ys=>cases h;cases r with|tup q t=>exact⟨_,_,rfl,q,t⟩
 |rol ys=>cases h;cases r with|rol q t=>exact⟨_,_,rfl,q.sq,t⟩
 |ref n=>
  rw[dn]at h;split at h
  ·rename_i ys e;cases h;cases r with
   |ref q=>
    obtain⟨vs,f,c⟩:=s.lst e q;exact⟨_,vs,O,lp.of f,c⟩
  ·cases h
 |_=>cases h
theorem ly{d:D}{a:cN}{b:Bool}{xs:List D}(r:eA K H mu d (.ref a))(s:Sim K H mu S)(h:dn S d=some (b,xs)){H1:Hp}{mu1:List cN}{S1:Sto}(x:rb mu mu1 H H1)(g:Sim K H1 mu1 S1)(ok:q9 S1 (li S d)=true):
  ∃vs,A2 K b H1 a vs/\dt K H1 mu1 xs vs:=by
 have c:=r.exw x;have h1:dn S1 d=Z (b,xs):=by
  cases d with
  |ref n=>
   rw[dn]at h;split at h
   ·rename_i ys e;cases h;rw[li,e]at ok;dsimp only[q9]at ok;rw[bH]at ok;rw[dn];split at ok
    ·rename_i zs f
     first|rw[f,D.sames_eq ok] | rw[D.sames_eq ok]
    ·cases ok
   ·cases h
  |_=>exact h
 obtain⟨i,vs,e,q,t⟩:=dA c g h1;cases e;exact⟨vs,q,t⟩
end
noncomputable def gj (m:FE):FI:=λr S=>(m r S).bind λp=>(dn p.2 p.1).bind λq=>some (⟨q.2,li p.2 p.1⟩,p.2)
def Ae:Nat->List D->List D
 |_,[]=>[]
 |n,d::ds=>.tup [.int n,d]::Ae (n+1) ds
noncomputable def vE (m:FA):FI:=λr S=>(m r S).bind λp=>match p.1 with
 |[d]=>(dn p.2 d).bind λq=>some (⟨Ae 0 q.2,li p.2 d⟩,p.2)
 |_=>none
def iS(lo:Int):Nat->List D
 |0=>[]
 |n+1=>.int lo::iS (lo+1) n
noncomputable def pa (m:FA):FI:=λr S=>(m r S).bind λp=>match p.1 with
 |[.int j]=>if-(2^62)<=j/\j<2^62 then some (⟨iS 0 j.toNat,[]⟩,p.2)else none
 |_=>none
def IZ(m:FA):FI:=λr S=>(m r S).bind λp=>match p.1 with
 |[.int i,.int j]=>if-(2^62)<=i/\i<2^62 /\ -(2^62)<=j/\j<2^62 then Z (⟨iS i (j-i).toNat,[]⟩,p.2)else Y
 |_=>Y
theorem ig:∀(ds:List D) (n i:Nat),(Ae n ds)[i]?=(ds[i]?).map λd=>.tup [.int ((n+i:Nat):Int),d]
 |[],n,i=>by simp[Ae]
 |d::ds,n,0=>by simp[Ae]
 |d::ds,n,i+1=>by
  rw[Ae,gC1,ig ds (n+1) i,gC1];rw[show n+1+i=n+(i+1) by lia]
theorem ic:∀(ds:List D) (n:Nat),(Ae n ds).length=ds.length
 |[],_=>rfl
 |d::ds,n=>by rw[Ae,lC1,ic ds,lC1]
theorem nA:∀(n:Nat) (lo:Int) (i:Nat) (d:D),(iS lo n)[i]?=Z d->i<n/\d = .int (lo+i)
 |0,lo,i,d,h=>by simp[iS]at h
 |n+1,lo,0,d,h=>by simp[iS]at h;exact⟨Nat.succ_pos _,by rw[<- h];simp⟩
 |n+1,lo,i+1,d,h=>by
  rw[iS,gC1]at h;obtain⟨h1,h2⟩:=nA n (lo+1) i d h;refine⟨Nat.succ_lt_succ h1,?_⟩;rw[h2,show lo+1+(i:Int)=lo+((i+1:Nat):Int) by push_cast;lia]
theorem ej:∀(n:Nat) (lo:Int),(iS lo n).length=n
 |0,_=>rfl
 |n+1,lo=>by rw[iS,lC1,ej n]
section
variable{X:Cx}{tg:Expr}
theorem sm(K:Fg1)(lo:Int)(n:Nat)(mu:List cN)(H:Hp):K0 K (Jw lo n) ⟨iS lo n,[]⟩ mu H:=by
 intro i H1 mu1 e x s ok;refine⟨λd b=>?_,λh=>by rw[ej]at h;exact h⟩;obtain⟨h1,h2⟩:=nA n lo i d b;refine⟨h1,λy H2 ⟨c,a⟩=>?_⟩;subst c;subst a;subst h2;exact⟨.refl _ _,s,.int _⟩
theorem Ga{e:Expr}{m:FE}(h:ME X e m):MI X tg e (gj m):=pU (Ik (BR h) (Fh h)) <| by
 rintro σ H R ⟨r,mu,S,am,I,C,B,j,hc⟩;obtain⟨⟨d,G⟩,D,j⟩:=oB1.mp j;obtain⟨⟨b,xs⟩,o,j⟩:=oB1.mp j;cases j;cases b with
 |true=>
  left;refine⟨r,mu,S,d,_,C,B,D,λv H1 mu1 x k f=>?_⟩;obtain⟨a,vs,rfl,q,t⟩:=dA k f o;refine⟨a,O,⟨vs,q⟩,hc _ H1 mu1 x (λi H2 u F x2 g ok=>?_) f⟩;obtain⟨ws,c,n⟩:=ly k f o x2 g ok;refine⟨λd A=>?_,λp=>⟨ws,c,by rw[<- n.length];exact p⟩⟩;obtain⟨v,l,w⟩:=n.get A;refine⟨⟨ws,v,c,l⟩,λy E ⟨z,s⟩=>?_⟩;subst z;have:=s ws c;rw[l]at this;cases this;exact⟨.refl _ _,g,w⟩
 |false=>
  right;refine⟨r,mu,S,d,_,C,B,D,λv H1 mu1 x k f=>?_⟩;obtain⟨a,vs,rfl,q,t⟩:=dA k f o;refine⟨a,O,⟨vs,q⟩,hc _ H1 mu1 x (λi H2 u F x2 g ok=>?_) f⟩;obtain⟨ws,c,n⟩:=ly k f o x2 g ok;refine⟨λd A=>?_,λp=>⟨ws,c,by rw[<- n.length];exact p⟩⟩;obtain⟨v,l,w⟩:=n.get A;refine⟨⟨ws,v,c,l⟩,λy E ⟨z,s⟩=>?_⟩;subst z;have:=s ws c;rw[l]at this;cases this;exact⟨.refl _ _,g,w⟩
theorem rA{K:Fg1}{H:Hp}{mu:List cN}{d:D}{vs:List V}(r:dt K H mu [d] vs):∃v,vs=[v]/\eA K H mu d v:=by
 cases r with|cons r t=>cases t;exact⟨_,O,r⟩
theorem yh{K:Fg1}{H:Hp}{mu:List cN}{d e:D}{vs:List V}(r:dt K H mu [d,e] vs):∃v u,vs=[v,u]/\eA K H mu d v/\eA K H mu e u:=by
 cases r with|cons r t=>cases t with|cons q t=>cases t;exact⟨_,_,O,r,q⟩
theorem wD {a:Expr}{m:FA}{p pos:Pos}(hg:Gl X "range")(hm:X.mg "range"=Y)(ha:MA X [a] m)(hs:cS [a] X.env=[(J,eval a X.env)]:=by rfl):MI X tg (.Call (.Name "range" p) [a] [] pos) (pa m):=
 pU (ww hg hm ha hs) <| by
  rintro σ H R ⟨r,mu,S,am,k,g,hs,hm,hc⟩;obtain⟨⟨ds,i⟩,c,hm⟩:=oB1.mp hm;dsimp only at hm;split at hm
  ·rename_i j;split at hm
   ·rename_i b;cases hm;refine⟨r,mu,S,_,_,g,hs,c,λvs H1 mu1 h d f=>?_⟩;obtain⟨v,rfl,e⟩:=rA d;cases e;exact⟨j,O,b.1,b.2,hc _ H1 mu1 h (sm _ _ _ _ _) f⟩
   ·cases hm
  ·cases hm
theorem wC {a b:Expr}{m:FA}{p pos:Pos}(hg:Gl X "range")(hm:X.mg "range"=Y)(ha:MA X [a,b] m)(hs:cS [a,b] X.env=[(J,eval a X.env),(J,eval b X.env)]:=by rfl)(hs2:cS [b] X.env=[(J,eval b X.env)]:=by rfl):MI X tg (.Call (.Name "range" p) [a,b] [] pos) (IZ m):=
 pU (wv hg hm ha hs hs2) <| by
  rintro σ H R ⟨r,mu,S,am,o,k,hs,hm,hc⟩;obtain⟨⟨ds,n⟩,c,hm⟩:=oB1.mp hm;dsimp only at hm;split at hm
  ·rename_i i j;split at hm
   ·rename_i e;cases hm;refine⟨r,mu,S,_,_,k,hs,c,λvs H1 mu1 l d g=>?_⟩;obtain⟨v,u,rfl,f,h⟩:=yh d;cases f;cases h;exact⟨i,j,O,e,hc _ H1 mu1 l (sm _ _ _ _ _) g⟩
   ·cases hm
  ·cases hm
variable{elts:List Expr}{k:Nat}{tpos:Pos}
theorem Cm {a:Expr}{m:FA}{p pos:Pos}(hg:Gl X "enumerate")(hm:X.mg "enumerate"=Y)(ha:MA X [a] m)(hs:cS [a] X.env=[(J,eval a X.env)]:=by rfl):MI X (.Tuple elts k tpos) (.Call (.Name "enumerate" p) [a] [] pos) (vE m):=
 pU (BS hg hm ha hs) <| by
  rintro σ H R ⟨r,mu,S,am,N,C,hs,hm,hc⟩;obtain⟨⟨ds,K⟩,E,hm⟩:=oB1.mp hm;dsimp only at hm;split at hm
  ·rename_i d;obtain⟨⟨b,xs⟩,n,hm⟩:=oB1.mp hm;cases hm;refine⟨r,mu,S,_,_,C,hs,E,λvs H1 mu1 D z h=>?_⟩;obtain⟨v,rfl,s⟩:=rA z;obtain⟨a,vs,rfl,q,t⟩:=dA s h n;refine⟨a,b,O,⟨vs,q⟩,hc _ H1 mu1 D (λi H2 A L x2 j ok=>?_) h⟩;obtain⟨ws,e,u⟩:=ly s h n x2 j ok;refine⟨λd c=>?_,λl=>⟨ws,e,by rw[ic]at l;rw[<- u.length];exact l⟩⟩;rw[ig]at c;obtain⟨ao,B,c⟩:=oM1.mp c;obtain⟨v,o,g⟩:=u.get B;refine⟨⟨ws,v,e,o⟩,λy I ⟨p,G,f,F,x,w⟩=>?_⟩;have:=w ws e;rw[o]at this;cases this;subst F;subst x;subst c;rw[bI];exact⟨Ext.fresh f,j.fresh f,.tup (jW.of d5) (.cons (.int _) (.cons (g.ext (Ext.fresh f)) .nil))⟩
  ·cases hm
end
end Mi
namespace Mi
open PySem PySem.Spec PyProof.Rows L2 SeqAt
open AutoSeq1 (wpAny_loadPart')
open MeetsSeq
abbrev OD(e:Array DictEntry)(n:Nat)(dd:Option cN)(sl:Array (Option cK)):Obj:={cls:=.type "dict",dict:=dd,data:=.dict e n,slots:=sl}
section
variable{l:cN}{e:Array DictEntry}{n:Nat}{dd:Option cN}{sl:Array (Option cK)}
theorem Ak:Meets (Builtin.«dict.__eq__» ⟨[.ref l,.none],[]⟩) (λ_ R s=>s.heap.get? l=Z (OD e n dd sl)/\R (.ok (.ret .notImplemented)) s):=.of_wp λ_ _ _ _ s h=>by
 obtain⟨b,g,d,tk,c⟩:=s;obtain⟨a,h⟩:=h;have f:=F.sub_NoneType_dict;wp_walk using wpAny_loadPart' a;exact⟨_,O,h⟩
theorem D6(b:Bool):Meets (Builtin.«dict.__eq__» ⟨[.ref l,.bool b],[]⟩) (λ_ R s=>s.heap.get? l=Z (OD e n dd sl)/\R (.ok (.ret .notImplemented)) s):=.of_wp λ_ _ _ _ s h=>by
 obtain⟨c,g,d,tk,f⟩:=s;obtain⟨a,h⟩:=h;have i:=F.sub_bool_dict;wp_walk using wpAny_loadPart' a;exact⟨_,O,h⟩
theorem Al(b:Int)(u:Tok):Meets (Builtin.«dict.__eq__» ⟨[.ref l,.int b u],[]⟩) (λ_ R s=>s.heap.get? l=Z (OD e n dd sl)/\R (.ok (.ret .notImplemented)) s):=.of_wp λ_ _ _ _ s h=>by
 obtain⟨c,g,d,tk,f⟩:=s;obtain⟨a,h⟩:=h;have i:=F.sub_int_dict;wp_walk using wpAny_loadPart' a;exact⟨_,O,h⟩
theorem Aj(b:Str)(u:Tok):Meets (Builtin.«dict.__eq__» ⟨[.ref l,.str b u],[]⟩) (λ_ R s=>s.heap.get? l=Z (OD e n dd sl)/\R (.ok (.ret .notImplemented)) s):=.of_wp λ_ _ _ _ s h=>by
 obtain⟨c,g,d,tk,f⟩:=s;obtain⟨a,h⟩:=h;have i:=F.sub_str_dict;wp_walk using wpAny_loadPart' a;exact⟨_,O,h⟩
theorem vQ{a:cN}{its:Array cK}{k:Nat}{c:Option cN}{b:Array (Option cK)}:Meets (Builtin.«dict.__eq__» ⟨[.ref l,.ref a],[]⟩) (λ_ R s=>s.heap.get? l=Z (OD e n dd sl)/\s.heap.get? a=Z {cls:=.type "list",dict:=c,data:=.seq its k,slots:=b}/\R (.ok (.ret .notImplemented)) s):=.of_wp λ_ _ _ _ s h=>by
 obtain⟨j,g,d,tk,o⟩:=s;obtain⟨i,f,h⟩:=h;have m:=F.sub_list_dict;wp_walk using wpAny_loadPart' i,wpAny_loadPart' f;exact⟨_,O,h⟩
theorem Ai{a:cN}{its:Array cK}{k:Nat}{c:Option cN}{b:Array (Option cK)}:Meets (Builtin.«dict.__eq__» ⟨[.ref l,.ref a],[]⟩) (λ_ R s=>s.heap.get? l=Z (OD e n dd sl)/\s.heap.get? a=Z {cls:=.type "tuple",dict:=c,data:=.seq its k,slots:=b}/\R (.ok (.ret .notImplemented)) s):=.of_wp λ_ _ _ _ s h=>by
 obtain⟨j,g,d,tk,o⟩:=s;obtain⟨i,f,h⟩:=h;have m:=F.sub_tuple_dict;wp_walk using wpAny_loadPart' i,wpAny_loadPart' f;exact⟨_,O,h⟩
theorem DP(b:Bool):Meets (Builtin.«int.__eq__» ⟨[.bool b,.ref l],[]⟩) (λ_ R s=>s.heap.get? l=Z (OD e n dd sl)/\R (.ok (.ret .notImplemented)) s):=.of_wp λ_ _ _ _ s h=>by
 obtain⟨c,g,d,tk,f⟩:=s;obtain⟨a,h⟩:=h;wp_walk using wpAny_loadPart' a,wpAny_load a;exact⟨_,O,h⟩
theorem yo(b:Int)(u:Tok):Meets (Builtin.«int.__eq__» ⟨[.int b u,.ref l],[]⟩) (λ_ R s=>s.heap.get? l=Z (OD e n dd sl)/\R (.ok (.ret .notImplemented)) s):=.of_wp λ_ _ _ _ s h=>by
 obtain⟨c,g,d,tk,f⟩:=s;obtain⟨a,h⟩:=h;wp_walk using wpAny_loadPart' a,wpAny_load a;exact⟨_,O,h⟩
theorem yn(b:Str)(u:Tok):Meets (Builtin.«str.__eq__» ⟨[.str b u,.ref l],[]⟩) (λ_ R s=>s.heap.get? l=Z (OD e n dd sl)/\R (.ok (.ret .notImplemented)) s):=.of_wp λ_ _ _ _ s h=>by
 obtain⟨c,g,d,tk,f⟩:=s;obtain⟨a,h⟩:=h;wp_walk using wpAny_loadPart' a,wpAny_load a;exact⟨_,O,h⟩
theorem u6{a:cN}{its:Array cK}{k:Nat}{c:Option cN}{b:Array (Option cK)}:Meets (Builtin.«list.__eq__» ⟨[.ref a,.ref l],[]⟩) (λ_ R s=>s.heap.get? l=Z (OD e n dd sl)/\s.heap.get? a=Z {cls:=.type "list",dict:=c,data:=.seq its k,slots:=b}/\R (.ok (.ret .notImplemented)) s):=.of_wp λ_ _ _ _ s h=>by
 obtain⟨j,g,d,tk,o⟩:=s;obtain⟨i,f,h⟩:=h;have m:=F.sub_dict_list;wp_walk using wpAny_loadPart' i,wpAny_loadPart' f;exact⟨_,O,h⟩
theorem ym{a:cN}{its:Array cK}{k:Nat}{c:Option cN}{b:Array (Option cK)}:Meets (Builtin.«tuple.__eq__» ⟨[.ref a,.ref l],[]⟩) (λ_ R s=>s.heap.get? l=Z (OD e n dd sl)/\s.heap.get? a=Z {cls:=.type "tuple",dict:=c,data:=.seq its k,slots:=b}/\R (.ok (.ret .notImplemented)) s):=.of_wp λ_ _ _ _ s h=>by
 obtain⟨j,g,d,tk,o⟩:=s;obtain⟨i,f,h⟩:=h;have m:=F.sub_dict_tuple;wp_walk using wpAny_loadPart' i,wpAny_loadPart' f;exact⟨_,O,h⟩
end
abbrev Hw(A:cP)(s:cM)(v u:cK):Prop:=EqAt A s v u J/\EqAt A s u v J/\RcAt A s v u J/\RcAt A s u v J
section
variable{A:cP}{s:cM}{a:cN}{o:Obj}
theorem KI{u:cK}(hn:(Value.ref a == u)=J)(r:RcAt A s (.ref a) u J):EqAt A s (.ref a) u J:=λprog w E Q h=>by
 unfold eqBool;refine wpAny_holding (wpAny_ite_split (λz=>?_) λ_=>?_)
 ·rw[hn]at z;cases z
 ·exact wB1 (r prog w E _ (wpAny_truthy_bool h))
theorem KH{u:cK}(hn:(u == Value.ref a)=J)(r:RcAt A s u (.ref a) J):EqAt A s u (.ref a) J:=λprog w E Q h=>by
 unfold eqBool;refine wpAny_holding (wpAny_ite_split (λz=>?_) λ_=>?_)
 ·rw[hn]at z;cases z
 ·cases u<;>exact wB1 (r prog w E _ (wpAny_truthy_bool h))
theorem rT {v:V}{u:cK}(ho:s.heap.get? a=Z o)(hc:o.cls = .type "dict")(hd:∃e n,o.data = .dict e n)(r:dD v u)(f:je v=M)(c:A.units<cLine):Hw A s (.ref a) u:=by
 obtain⟨i,dd,g,sl⟩:=o;obtain⟨e,n,hd⟩:=hd;simp only at hc hd;subst hc hd;have two:∀{u:cK},((Value.ref a) == u)=J->(u == (Value.ref a))=J->RcAt A s (.ref a) u J->RcAt A s u (.ref a) J->Hw A s (.ref a) u:=λh1 h2 d r2=>⟨KI h1 d,KH h2 r2,d,r2⟩;cases v with
 |non=>
  cases r;refine two O O (λ_ _ _ _ h=>?_) λ_ _ _ _ h=>?_
  ·exact rc_eq_decline_or (k:=J) ⟨_,ho,O⟩ O (by decide) F.sub_NoneType_dict F.slot_dict_eq F.slot_NoneType_eq_refl (λ_ q=>call_meets F.slot_dict_eq ⟨_,ho,O⟩ F.entry_dict_eq (F.args_dict_eq_2 _ _) Ak ⟨ho,q⟩) (λ_ q=>call_gives F.slot_NoneType_eq_refl O F.entry_NoneType_eq (F.args_NoneType_eq_2 _ _) (NoneType___eq___none_ref_0 a) q) (λ_ q=>wpAny_of_eq (rfl:isSame (.ref a) .none=pure J) q) (.inr c) h
  ·exact rc_eq_decline_or (k:=J) O ⟨_,ho,O⟩ (by decide) F.sub_dict_NoneType F.slot_NoneType_eq F.slot_dict_eq_refl (λ_ q=>call_gives F.slot_NoneType_eq O F.entry_NoneType_eq (F.args_NoneType_eq_2 _ _) (NoneType___eq___none_ref_0 a) q) (λ_ q=>call_meets F.slot_dict_eq_refl ⟨_,ho,O⟩ F.entry_dict_eq (F.args_dict_eq_2 _ _) Ak ⟨ho,q⟩) (λ_ q=>wpAny_of_eq (rfl:isSame .none (.ref a)=pure J) q) (.inr c) h
 |bl b=>
  cases r;refine two O O (λ_ _ _ _ h=>?_) λ_ _ _ _ h=>?_
  ·exact rc_eq_decline_or (k:=J) ⟨_,ho,O⟩ O (by decide) F.sub_bool_dict F.slot_dict_eq F.slot_bool_eq_refl (λ_ q=>call_meets F.slot_dict_eq ⟨_,ho,O⟩ F.entry_dict_eq (F.args_dict_eq_2 _ _) (D6 b) ⟨ho,q⟩) (λ_ q=>call_meets F.slot_bool_eq_refl O F.entry_int_eq (F.args_int_eq_2 _ _) (DP b) ⟨ho,q⟩) (λ_ q=>wpAny_of_eq (rfl:isSame (.ref a) (.bool b)=pure J) q) (.inr c) h
  ·exact rc_eq_decline_or (k:=J) O ⟨_,ho,O⟩ (by decide) F.sub_dict_bool F.slot_bool_eq F.slot_dict_eq_refl (λ_ q=>call_meets F.slot_bool_eq O F.entry_int_eq (F.args_int_eq_2 _ _) (DP b) ⟨ho,q⟩) (λ_ q=>call_meets F.slot_dict_eq_refl ⟨_,ho,O⟩ F.entry_dict_eq (F.args_dict_eq_2 _ _) (D6 b) ⟨ho,q⟩) (λ_ q=>wpAny_of_eq (rfl:isSame (.bool b) (.ref a)=pure J) q) (.inr c) h
 |int b=>
  obtain⟨t,rfl⟩:=r;refine two O O (λ_ _ _ _ h=>?_) λ_ _ _ _ h=>?_
  ·exact rc_eq_decline_or (k:=J) ⟨_,ho,O⟩ (typeIs_int s b t) (by decide) F.sub_int_dict F.slot_dict_eq F.slot_int_eq_refl (λ_ q=>call_meets F.slot_dict_eq ⟨_,ho,O⟩ F.entry_dict_eq (F.args_dict_eq_2 _ _) (Al b t) ⟨ho,q⟩) (λ_ q=>call_meets F.slot_int_eq_refl (typeIs_int s b t) F.entry_int_eq (F.args_int_eq_2 _ _) (yo b t) ⟨ho,q⟩) (λ_ q=>wpAny_of_eq (rfl:isSame (.ref a) (.int b t)=pure J) q) (.inr c) h
  ·exact rc_eq_decline_or (k:=J) (typeIs_int s b t) ⟨_,ho,O⟩ (by decide) F.sub_dict_int F.slot_int_eq F.slot_dict_eq_refl (λ_ q=>call_meets F.slot_int_eq (typeIs_int s b t) F.entry_int_eq (F.args_int_eq_2 _ _) (yo b t) ⟨ho,q⟩) (λ_ q=>call_meets F.slot_dict_eq_refl ⟨_,ho,O⟩ F.entry_dict_eq (F.args_dict_eq_2 _ _) (Al b t) ⟨ho,q⟩) (λ_ q=>wpAny_of_eq (rfl:isSame (.int b t) (.ref a)=pure J) q) (.inr c) h
 |str b=>
  obtain⟨t,rfl⟩:=r;refine two O O (λ_ _ _ _ h=>?_) λ_ _ _ _ h=>?_
  ·exact rc_eq_decline_or (k:=J) ⟨_,ho,O⟩ (typeIs_str s b t) (by decide) F.sub_str_dict F.slot_dict_eq F.slot_str_eq_refl (λ_ q=>call_meets F.slot_dict_eq ⟨_,ho,O⟩ F.entry_dict_eq (F.args_dict_eq_2 _ _) (Aj b t) ⟨ho,q⟩) (λ_ q=>call_meets F.slot_str_eq_refl (typeIs_str s b t) F.entry_str_eq (F.args_str_eq_2 _ _) (yn b t) ⟨ho,q⟩) (λ_ q=>wpAny_of_eq (rfl:isSame (.ref a) (.str b t)=pure J) q) (.inr c) h
  ·exact rc_eq_decline_or (k:=J) (typeIs_str s b t) ⟨_,ho,O⟩ (by decide) F.sub_dict_str F.slot_str_eq F.slot_dict_eq_refl (λ_ q=>call_meets F.slot_str_eq (typeIs_str s b t) F.entry_str_eq (F.args_str_eq_2 _ _) (yn b t) ⟨ho,q⟩) (λ_ q=>call_meets F.slot_dict_eq_refl ⟨_,ho,O⟩ F.entry_dict_eq (F.args_dict_eq_2 _ _) (Aj b t) ⟨ho,q⟩) (λ_ q=>wpAny_of_eq (rfl:isSame (.str b t) (.ref a)=pure J) q) (.inr c) h
 |_=>cases f
theorem vf {b:Bool}{x:cN}{its:Array cK}(ho:s.heap.get? a=Z o)(hc:o.cls = .type "dict")(hd:∃e n,o.data = .dict e n)(c:SCo b s.heap x its)(p:A.units<cLine):Hw A s (.ref a) (.ref x):=by
 obtain⟨w,dd,u,sl⟩:=o;obtain⟨e,n,hd⟩:=hd;simp only at hc hd;subst hc hd;cases b with
 |false=>
  obtain⟨⟨m,r,j,t⟩,d,i,v,g⟩:=(show s.heap.IsTuple x its from c);simp only at i g;subst i g;have f:a≠x:=λz=>by subst z;rw[ho]at d;exact absurd (congrArg Obj.cls (Option.some.inj d)) (by simp)
  have l:RcAt A s (.ref a) (.ref x) J:=λ_ _ _ _ h=>rc_eq_decline_or (k:=J) ⟨_,ho,O⟩ ⟨_,d,O⟩ (by decide) F.sub_tuple_dict F.slot_dict_eq F.slot_tuple_eq_refl (λ_ q=>call_meets F.slot_dict_eq ⟨_,ho,O⟩ F.entry_dict_eq (F.args_dict_eq_2 _ _) Ai ⟨ho,d,q⟩) (λ_ q=>call_meets F.slot_tuple_eq_refl ⟨_,d,O⟩ F.entry_tuple_eq (F.args_tuple_eq_2 _ _) ym ⟨ho,d,q⟩) (λ_ q=>wpAny_isSame_ref_other f ho d (by simp) q) (.inr p) h;have r2:RcAt A s (.ref x) (.ref a) J:=λ_ _ _ _ h=>rc_eq_decline_or (k:=J) ⟨_,d,O⟩ ⟨_,ho,O⟩ (by decide) F.sub_dict_tuple F.slot_tuple_eq F.slot_dict_eq_refl (λ_ q=>call_meets F.slot_tuple_eq ⟨_,d,O⟩ F.entry_tuple_eq (F.args_tuple_eq_2 _ _) ym ⟨ho,d,q⟩) (λ_ q=>call_meets F.slot_dict_eq_refl ⟨_,ho,O⟩ F.entry_dict_eq (F.args_dict_eq_2 _ _) Ai ⟨ho,d,q⟩) (λ_ q=>wpAny_isSame_ref_other' f.symm d ho (by simp) q) (.inr p) h;exact⟨.of_refs f l,.of_refs f.symm r2,l,r2⟩
 |true=>
  obtain⟨⟨m,r,j,t⟩,d,i,v,g⟩:=(show s.heap.IsList x its from c);simp only at i g;subst i g;have f:a≠x:=λz=>by subst z;rw[ho]at d;exact absurd (congrArg Obj.cls (Option.some.inj d)) (by simp)
  have l:RcAt A s (.ref a) (.ref x) J:=λ_ _ _ _ h=>rc_eq_decline_or (k:=J) ⟨_,ho,O⟩ ⟨_,d,O⟩ (by decide) F.sub_list_dict F.slot_dict_eq F.slot_list_eq_refl (λ_ q=>call_meets F.slot_dict_eq ⟨_,ho,O⟩ F.entry_dict_eq (F.args_dict_eq_2 _ _) vQ ⟨ho,d,q⟩) (λ_ q=>call_meets F.slot_list_eq_refl ⟨_,d,O⟩ F.entry_list_eq (F.args_list_eq_2 _ _) u6 ⟨ho,d,q⟩) (λ_ q=>wpAny_isSame_ref_other f ho d (by simp) q) (.inr p) h;have r2:RcAt A s (.ref x) (.ref a) J:=λ_ _ _ _ h=>rc_eq_decline_or (k:=J) ⟨_,d,O⟩ ⟨_,ho,O⟩ (by decide) F.sub_dict_list F.slot_list_eq F.slot_dict_eq_refl (λ_ q=>call_meets F.slot_list_eq ⟨_,d,O⟩ F.entry_list_eq (F.args_list_eq_2 _ _) u6 ⟨ho,d,q⟩) (λ_ q=>call_meets F.slot_dict_eq_refl ⟨_,ho,O⟩ F.entry_dict_eq (F.args_dict_eq_2 _ _) vQ ⟨ho,d,q⟩) (λ_ q=>wpAny_isSame_ref_other' f.symm d ho (by simp) q) (.inr p) h;exact⟨.of_refs f l,.of_refs f.symm r2,l,r2⟩
end
abbrev G1:=D->Sto->Option (D×Sto)
abbrev G2:=D->D->Sto->Option (D×Sto)
abbrev G3:=D->D->D->Sto->Option (D×Sto)
noncomputable def b1 (f:G1):FN:=λds S=>match ds with
 |[a]=>f a S
 |_=>none
noncomputable def b2 (f:G2):FN:=λds S=>match ds with
 |[a,b]=>f a b S
 |_=>none
noncomputable def b3 (f:G3):FN:=λds S=>match ds with
 |[a,b,c]=>f a b c S
 |_=>none
section
variable{X:Cx}{K:Fg1}{H:Hp}{Q:VK}
theorem oy{f:G2}{x y:V}(h:rN K (b2 f) [x,y] H Q):∃mu S d e r a,eA K H mu d x/\eA K H mu e y/\Sim K H mu S/\f d e S=Z (r,a)/\qT K mu H r a Q:=by
 obtain⟨mu,S,ds,r,a,c,g,i,hc⟩:=h;cases c with
 |cons q t=>cases t with
  |cons b t=>cases t;exact⟨mu,S,_,_,r,a,q,b,g,i,hc⟩
theorem A1{f:G1}{xs:List V}(h:rN K (b1 f) xs H Q):∃x mu S d r a,xs=[x]/\eA K H mu d x/\Sim K H mu S/\f d S=Z (r,a)/\qT K mu H r a Q:=by
 obtain⟨mu,S,ds,r,a,c,e,b,hc⟩:=h;cases c with
 |nil=>cases b
 |cons q t=>cases t with
  |nil=>exact⟨_,mu,S,_,r,a,O,q,e,b,hc⟩
  |cons g t=>cases b
theorem Bx{f:G2}{xs:List V}(h:rN K (b2 f) xs H Q):∃x y mu S d e r a,xs=[x,y]/\eA K H mu d x/\eA K H mu e y/\Sim K H mu S/\f d e S=Z (r,a)/\qT K mu H r a Q:=by
 obtain⟨mu,S,ds,r,a,g,i,b,hc⟩:=h;cases g with
 |nil=>cases b
 |cons q t=>cases t with
  |nil=>cases b
  |cons c t=>cases t with
   |nil=>exact⟨_,_,mu,S,_,_,r,a,O,q,c,i,b,hc⟩
   |cons j t=>cases b
theorem qT.now{mu:List cN}{S:Sto}{d:D}{v:V}(c:qT K mu H d S Q)(r:eA K H mu d v)(s:Sim K H mu S):Q v H:=c v H mu (.refl _ _) r s
end
def gf(i j:Int):Bool:=(decide (-(2^64)<i)&&decide (i<2^64))||(decide (-(2^64)<j)&&decide (j<2^64))||(decide (i.natAbs<2^1000)&&decide (j.natAbs<2^1000))
def eG:G2:=λd e S=>match d,e with
 | .int i,.int j=>Z (.int (i+j),S)
 | .tup xs,.tup ys=>if xs.length+ys.length<=cT then Z (.tup (xs++ys),S)else Y
 | .str x,.str y=>if x.length+y.length<=cT then Z (.str (x++y),S)else Y
 | .ref a,.ref b=>match S[a]?,S[b]? with
  |some (.lst xs),Z (.lst ys)=>if xs.length+ys.length<=cT then Z (.ref S.length,S++[.lst (xs++ys)])else Y
  |_,_=>Y
 |_,_=>Y
def gSub:G2:=λd e S=>match d,e with
 | .int i,.int j=>Z (.int (i-j),S)
 |_,_=>Y
def gx:G2:=λd e S=>match d,e with
 | .int i,.int j=>if gf i j=M then Z (.int (i*j),S)else Y
 |_,_=>Y
def j1:G2:=λd e S=>match d,e with
 | .int i,.int j=>if 0<j then Z (.int (i%j),S)else Y
 |_,_=>Y
def wT:G2:=λd e S=>match d,e with
 | .int i,.int j=>if 0<j/\j<1073741824 then Z (.int (i/j),S)else Y
 |_,_=>Y
def gu:G2:=λd e S=>match d,e with
 | .int i,.int j=>if 0<=j/\j<=1000000/\i.natAbs<2^64 then Z (.int (i^j.toNat),S)else Y
 |_,_=>Y
def lK:G1:=λd S=>match d with
 | .int i=>Z (.int (-i),S)
 |_=>Y
section
variable{X:Cx}
theorem ug{i j:Int}(h:gf i j=M):IntMulOk i j:=by
 unfold gf at h;simp only[bJ,bA1,al]at h;rcases h with(⟨h1,h2⟩|⟨h1,h2⟩)|⟨h1,h2⟩
 ·exact .of_left (intBits_le_64 h1 h2)
 ·exact .of_right (intBits_le_64 h1 h2)
 ·exact .of_bits (aB (intBits_le h1) (by decide)) (aB (intBits_le h2) (by decide))
theorem mP{f:cK->cK->Sem cK}{g:G2}{c:Int->Int->Prop}{v:Int->Int->D}(hg:∀ d e S r a,g d e S=Z (r,a) -> ∃ i j,d = .int i/\e = .int j/\c i j/\r=v i j/\a=S){b:Int->Int->V}(hv:∀i j K H mu,eA K H mu (v i j) (b i j))(ho:fJ X f (rI c b)):fJ X f (r2 X.K (b2 g)):=by
 intro ag s σ H x y u w Q I l p h;obtain⟨mu,S,d,e,r,a,m,r2,n,o,hc⟩:=oy h;obtain⟨i,j,rfl,rfl,k,rfl,rfl⟩:=hg d e S r a o;cases m;cases r2;exact ho ag s σ H _ _ u w Q I l p ⟨i,j,O,O,k,hc.now (hv i j _ _ _) n⟩
theorem kY{f:cK->cK->Sem cK}{g:G2}{v:Int->Int->D}(hg:∀ d e S r a,g d e S=Z (r,a) -> ∃ i j,d = .int i/\e = .int j/\r=v i j/\a=S){b:Int->Int->V}(hv:∀i j K H mu,eA K H mu (v i j) (b i j))(ho:fJ X f (BA b)):fJ X f (r2 X.K (b2 g)):=by
 intro ag s σ H x y u w Q I c n h;obtain⟨mu,S,d,e,r,a,k,r2,l,m,hc⟩:=oy h;obtain⟨i,j,rfl,rfl,rfl,rfl⟩:=hg d e S r a m;cases k;cases r2;exact ho ag s σ H _ _ u w Q I c n ⟨i,j,O,O,hc.now (hv i j _ _ _) l⟩
theorem l9:fJ X (binaryOp .Sub) (r2 X.K (b2 gSub)):=kY (v:=λi j=>.int (i-j)) (λd e S r a h=>by
 unfold gSub at h;split at h
 ·cases h;exact⟨_,_,O,O,O,O⟩
 ·cases h) (λ_ _ _ _ _=>.int _) Fz
theorem ja:fJ X (binaryOp .Mult) (r2 X.K (b2 gx)):=mP (c:=λi j=>IntMulOk i j) (v:=λi j=>.int (i*j)) (λd e S r a h=>by
 unfold gx at h;split at h
 ·split at h
  ·rename_i q;cases h;exact⟨_,_,O,O,ug q,O,O⟩
  ·cases h
 ·cases h) (λ_ _ _ _ _=>.int _) (JI λ_ _ _ _ _ _ _ hc q=>mul_int q hc)
theorem ke:fJ X (binaryOp .Mod) (r2 X.K (b2 j1)):=mP (c:=λ_ j=>0<j) (v:=λi j=>.int (i%j)) (λd e S r a h=>by
 unfold j1 at h;split at h
 ·split at h
  ·rename_i q;cases h;exact⟨_,_,O,O,q,O,O⟩
  ·cases h
 ·cases h) (λ_ _ _ _ _=>.int _) FD
theorem DS:fJ X (binaryOp .FloorDiv) (r2 X.K (b2 wT)):=mP (c:=JA) (v:=λi j=>.int (i/j)) (λd e S r a h=>by
 unfold wT at h;split at h
 ·split at h
  ·rename_i q;cases h;exact⟨_,_,O,O,q,O,O⟩
  ·cases h
 ·cases h) (λ_ _ _ _ _=>.int _) B3
theorem ma:fJ X (binaryOp .Pow) (r2 X.K (b2 gu)):=mP (c:=Jz) (v:=λi j=>.int (i^j.toNat)) (λd e S r a h=>by
 unfold gu at h;split at h
 ·split at h
  ·rename_i q;cases h;exact⟨_,_,O,O,q,O,O⟩
  ·cases h
 ·cases h) (λ_ _ _ _ _=>.int _) FC
theorem oR:HC X (unaryOp .USub) (λx H Q=>rN X.K (b1 lK) [x] H Q):=by
 intro ag s σ H x v Q I b h;obtain⟨g,mu,S,d,r,j,e,c,f,a,hc⟩:=A1 h;cases e;cases d with
 |int i=>cases a;cases c;exact Er ag s σ H _ v Q I b ⟨i,O,hc.now (.int _) f⟩
 |_=>cases a
theorem w5{s:cM}{prog:cO}{w:cQ}{A:cP}{E:cK->cM->Prop}{t b:cN}{ws:List cK}{Q:cK->cM->Prop}(ht:IsTup s.heap t ([]:List cK).toArray)(hb:IsTup s.heap b ws.toArray)(h:Q (.ref b) s):
  cU (model prog w) A (binaryOp .Add (.ref t) (.ref b)) Q E s:=by
 obtain⟨⟨o,dd,i,sl⟩,l,hc,n,k⟩:=id ht;obtain⟨⟨j,e,f,g⟩,c,d,m,a⟩:=id hb;simp only at hc k d a;subst hc k d a;exact concat_meets ⟨_,l,O⟩ ⟨_,c,O⟩ noFill_tuple_add seq_tuple_add PySem.F.slot_tuple_add PySem.F.entry_tuple_add (PySem.F.args_tuple_add_2 _ _) (tuple_addW0 t b ([]:List cK).toArray ws.toArray n m dd e sl g (by simp)) ⟨l,c,h⟩
theorem eo:fJ X (binaryOp .Add) (r2 X.K (b2 eG)):=by
 intro ag s σ H x y u w Q I o t h;obtain⟨mu,S,d,e,r,R,v,r2,f,c,hc⟩:=oy h;unfold eG at c;split at c
 ·cases c;cases v;cases r2;exact FJ ag s σ H _ _ u w Q I o t ⟨_,_,O,O,hc.now (.int _) f⟩
 ·rename_i xs ys;split at c
  ·rename_i q;cases c;cases v with
   |tup C k=>
    cases r2 with
    |tup A m=>
     rename_i g a1 l a2;by_cases D:g=[]
     ·subst D;have:xs=[]:=by cases k;rfl
      subst this;cases o;cases t;obtain⟨B,N,L,_⟩:=I.tuple C;obtain⟨E,K,p2,_⟩:=I.tuple A;have:B=[]:=N.nil_iff.mpr O;subst this;exact w5 L p2 ⟨.ref a2,H,I,O,hc.now (.tup A m) f⟩
     ·refine B4 ag s σ H _ _ u w Q I o t ⟨a1,a2,g,l,O,O,C,A,D,by rw[<- k.length,<- m.length];exact q,λz=>?_,λz p n=>?_⟩
      ·subst z;have:ys=[]:=by cases m;rfl
       subst this;rw[aK]at hc;exact hc.now (.tup C k) f
      ·exact hc _ _ mu (Ext.fresh n) (.tup (jW.of d5) ((k.append m).ext (Ext.fresh n))) (f.fresh n)
  ·cases c
 ·rename_i i j;split at c
  ·rename_i q;cases c;cases v;cases r2;exact t1 ag s σ H _ _ u w Q I o t ⟨i,j,O,O,q,hc.now (.str _) f⟩
  ·cases c
 ·rename_i a b;split at c
  ·rename_i xs ys ao G;split at c
   ·rename_i q;cases c;cases v with
    |ref P=>
     cases r2 with
     |ref am=>
      obtain⟨g,ar,k⟩:=f.lst ao P;obtain⟨l,F,m⟩:=f.lst G am;refine FH ag s σ H _ _ u w Q I o t ⟨_,_,g,l,O,O,ar,F,by rw[<- k.length,<- m.length];exact q,λp n=>?_⟩;exact hc _ _ (mu++[p]) (Ext.new_ n) (.ref (gY f.len p)) (f.newL (k.append m) n)
   ·cases c
  ·cases c
 ·cases c
end
def fB(p:Int->Int->Bool):G2:=λd e S=>match d,e with
 | .int i,.int j=>Z (.bl (p i j),S)
 |_,_=>Y
section
variable{X:Cx}
theorem qs{p:Int->Int->Bool}(d e:D)(S:Sto)(r:D)(a:Sto)(h:fB p d e S=Z (r,a)):∃i j,d = .int i/\e = .int j/\r = .bl (p i j)/\a=S:=by
 unfold fB at h;split at h
 ·cases h;exact⟨_,_,O,O,O,O⟩
 ·cases h
theorem k4:fJ X (compareOp .LtE) (r2 X.K (b2 (fB λi j=>decide (i<=j)))):=kY qs (λ_ _ _ _ _=>.bl _) Iu
theorem wA:fJ X (compareOp .Gt) (r2 X.K (b2 (fB λi j=>decide (j<i)))):=kY qs (λ_ _ _ _ _=>.bl _) Iv
theorem Kx:fJ X (compareOp .GtE) (r2 X.K (b2 (fB λi j=>decide (j<=i)))):=kY qs (λ_ _ _ _ _=>.bl _) Iw
end
def ek:D->Bool
 | .non=>M
 | .bl _=>M
 | .int _=>M
 | .str _=>M
 |_=>J
noncomputable def D4:D->D->Option Bool
 | .non,.non=>some true
 | .bl a,.bl b=>some (a == b)
 | .bl a,.int b=>some ((if a then 1 else 0) == b)
 | .int a,.bl b=>some (a == (if b then 1 else 0))
 | .int a,.int b=>some (a == b)
 | .str a,.str b=>some (a == b)
 |d,e=>if ek d&&ek e then some false else none
def wU(f:D->D->Option Bool):List D->List D->Option Bool
 |x::xs,y::ys=>(f x y).bind λb=>(wU f xs ys).map λc=>b&&c
 |[],[]=>Z M
 |_,_=>Z J
def mF(S:Sto):D->Bool
 | .ref n=>match S[n]? with
  |some (.dct _)=>M
  |some (.dcT _)=>M
  |_=>J
 |_=>J
def C7(S:Sto)(d e:D):Option Bool:=match mF S d,mF S e with
 |false,J=>D4 d e
 |true,J=>if ek e=M then Z J else Y
 |false,M=>if ek d=M then Z J else Y
 |true,M=>Y
def g6(S:Sto):Nat->D->D->Option Bool
 |0,_,_=>Y
 |n+1,d,e=>match dn S d,dn S e with
  |some p,Z q=>if p.1=q.1 then(if p.1=M/\p.2.length≠q.2.length then Z J else wU (g6 S n) p.2 q.2)else Z J
  |some _,Y=>if ek e=M then Z J else if mF S e=M then Z J else Y
  |none,Z _=>if ek d=M then Z J else if mF S d=M then Z J else Y
  |none,Y=>C7 S d e
section
variable{X:Cx}{ag:List (cN×Obj)}{σ:L2.St}{H:Hp}{s:cM}{mu:List cN}{S:Sto}
theorem ew{K:Fg1}{d:D}{v:V}(r:eA K H mu d v)(h:ek d=M):je v=M /\ ∀e w,eA K H mu e w->ek e=M->D4 d e=Z (tm v w):=by
 cases d with
 |non=>cases r;refine⟨O,λe w q f=>?_⟩;cases e with
  |non=>cases q;rfl
  |bl _=>cases q;rfl
  |int _=>cases q;rfl
  |str _=>cases q;rfl
  |_=>cases f
 |bl b=>cases r;refine⟨O,λe w q f=>?_⟩;cases e with
  |non=>cases q;rfl
  |bl _=>cases q;rfl
  |int _=>cases q;rfl
  |str _=>cases q;rfl
  |_=>cases f
 |int i=>cases r;refine⟨O,λe w q f=>?_⟩;cases e with
  |non=>cases q;rfl
  |bl _=>cases q;rfl
  |int _=>cases q;rfl
  |str _=>cases q;rfl
  |_=>cases f
 |str x=>cases r;refine⟨O,λe w q f=>?_⟩;cases e with
  |non=>cases q;rfl
  |bl _=>cases q;rfl
  |int _=>cases q;rfl
  |str _=>cases q;rfl
  |_=>cases f
 |_=>cases h
theorem nQ{d e:D}{b:Bool}(h:D4 d e=Z b):ek d=M/\ek e=M:=by
 cases d<;>cases e<;>first|exact⟨rfl,rfl⟩|(cases h;done)|exact nomatch h|(simp[D4,ek]at h)
theorem Ab{v:V}(h:je v=M):tm v v=M:=by
 cases v<;>first|rfl|(cases h;done)|exact beq_self_eq_true _|(simp[tm];done)
theorem jf(I:Inv X ag σ H s)(hs:Sim X.K H mu S){d:D}{v:V}(r:eA X.K H mu d v)(h:mF S d=M):∃a o,v = .ref a/\s.heap.get? a=Z o/\o.cls = .type "dict" /\ ∃e n,o.data = .dict e n:=by
 cases d with
 |ref n=>
  rw[mF]at h;cases r with
  | @ref _ a i=>
   split at h
   ·rename_i ks e;obtain⟨ws,b,_⟩:=hs.dct e i;obtain⟨_,_,vs,_,o,es,ep,g,f,c,_⟩:=(show ez X.prog X.w H s.heap a (.dK ws)from I.hok a _ b);exact⟨a,o,O,g,f.1,es,ep,c⟩
   ·rename_i ks e;obtain⟨ws,b,_⟩:=hs.dcT e i;obtain⟨⟨_,_,o,es,ep,g,f,c,_⟩,_⟩:=(show ez X.prog X.w H s.heap a (.ext (i1 a ws))from I.hok a _ b);exact⟨a,o,O,g,f.1,es,ep,c⟩
   ·cases h
 |_=>cases h
theorem sD(I:Inv X ag σ H s)(hs:Sim X.K H mu S):∀(n:Nat) {d e:D} {v:V} {b:Bool},eA X.K H mu d v->eA X.K H mu e v->g6 S n d e=Z b->b=M
 |0,_,_,_,_,_,_,h=>by cases h
 |n + 1,d,e,v,b,m,k,h=>by
  rw[g6]at h;have l:∀{xs ys:List D} {vs:List V} {b:Bool},dt X.K H mu xs vs->dt X.K H mu ys vs->wU (g6 S n) xs ys=Z b->b=M:=by
   intro xs
   induction xs with
   |nil=>intro ys vs b E G h;cases E;cases G;cases h;rfl
   |cons x xs ih=>
    intro ys vs b E G h;cases E with
    |cons r t=>
     cases G with
     |cons R wq=>
      rw[wU]at h;obtain⟨b1,A,h⟩:=oB1.mp h;obtain⟨b2,i,h⟩:=oM1.mp h;subst h;rw[sD I hs n r R A,ih t wq i];rfl
  cases hd:dn S d with
  |some p=>
   obtain⟨F,xs⟩:=p;obtain⟨a,vs,rfl,q,t⟩:=dA m hs hd;cases he:dn S e with
   |some p2=>
    obtain⟨qb,ys⟩:=p2;obtain⟨a2,am,i,C,K⟩:=dA k hs he;cases i;rw[hd,he]at h;dsimp only at h;obtain⟨u,N,j,_⟩:=eZ I q;obtain⟨ao,P,B,_⟩:=eZ I C;have U:F=qb:=by
     cases F<;>cases qb
     ·rfl
     ·obtain⟨o,A,L,_⟩:=j;obtain⟨y,i,w,_⟩:=B;rw[A]at i;cases i;rw[L]at w;exact absurd w (by decide)
     ·obtain⟨o,A,L,_⟩:=j;obtain⟨y,i,w,_⟩:=B;rw[A]at i;cases i;rw[L]at w;exact absurd w (by decide)
     ·rfl
    subst U;have hv:=u3 I q C;subst hv;rw[ak O,aj (by rw[t.length,K.length];simp)]at h;exact l t K h
   |none=>
    rw[hd,he]at h;dsimp only at h;split at h
    ·rename_i f;have:=(ew k f).1;cases this
    ·split at h
     ·rename_i f;obtain⟨a2,o,i,z,hc,_⟩:=jf I hs k f;cases i;obtain⟨u,N,j,_⟩:=eZ I q;cases F with
      |false=>obtain⟨y,c,g,_⟩:=j;rw[z]at c;cases c;rw[hc]at g;exact absurd g (by decide)
      |true=>obtain⟨y,c,g,_⟩:=j;rw[z]at c;cases c;rw[hc]at g;exact absurd g (by decide)
     ·cases h
  |none=>
   cases he:dn S e with
   |some p2=>
    obtain⟨qb,ys⟩:=p2;obtain⟨a2,am,i,C,K⟩:=dA k hs he;subst i;rw[hd,he]at h;dsimp only at h;split at h
    ·rename_i f;have:=(ew m f).1;cases this
    ·split at h
     ·rename_i f;obtain⟨a,o,i,z,hc,_⟩:=jf I hs m f;cases i;obtain⟨u,N,j,_⟩:=eZ I C;cases qb with
      |false=>obtain⟨y,c,g,_⟩:=j;rw[z]at c;cases c;rw[hc]at g;exact absurd g (by decide)
      |true=>obtain⟨y,c,g,_⟩:=j;rw[z]at c;cases c;rw[hc]at g;exact absurd g (by decide)
     ·cases h
   |none=>
    rw[hd,he]at h;dsimp only at h;unfold C7 at h;split at h
    ·obtain⟨f1,Q⟩:=nQ h;obtain⟨ar,W⟩:=ew m f1;rw[W e v k Q]at h;cases h;exact Ab ar
    ·rename_i T _;split at h
     ·rename_i f;obtain⟨a,o,rfl,_⟩:=jf I hs m T;have:=(ew k f).1;cases this
     ·cases h
    ·rename_i _ aq;split at h
     ·rename_i f;obtain⟨a,o,rfl,_⟩:=jf I hs k aq;have:=(ew m f).1;cases this
     ·cases h
    ·cases h
theorem ff{A:cP}{b:Bool}{a:cN}{its:Array cK}{v:V}{u:cK}(c:SCo b s.heap a its)(r:dD v u)(f:je v=true)(d:A.units<cLine):
   SeqAt.EqAt A s (.ref a) u J/\SeqAt.EqAt A s u (.ref a) J/\SeqAt.RcAt A s (.ref a) u J/\SeqAt.RcAt A s u (.ref a) J:=by
 cases v with
 | non => cases r;cases b
          · exact⟨.tuple_none c d,.none_tuple c d,.tuple_none c d,.none_tuple c d⟩
          · exact⟨.list_none c d,.none_list c d,.list_none c d,.none_list c d⟩
 | bl k => cases r;cases b
           · exact⟨.tuple_bool k c d,.bool_tuple k c d,.tuple_bool k c d,.bool_tuple k c d⟩
           · exact⟨.list_bool k c d,.bool_list k c d,.list_bool k c d,.bool_list k c d⟩
 | int i => obtain ⟨t,rfl⟩:=r;cases b
            · exact⟨.tuple_int i t c d,.int_tuple i t c d,.tuple_int i t c d,.int_tuple i t c d⟩
            · exact⟨.list_int i t c d,.int_list i t c d,.list_int i t c d,.int_list i t c d⟩
 | str x => obtain ⟨t,rfl⟩:=r;cases b
            · exact⟨.tuple_str x t c d,.str_tuple x t c d,.tuple_str x t c d,.str_tuple x t c d⟩
            · exact⟨.list_str x t c d,.str_list x t c d,.list_str x t c d,.str_list x t c d⟩
 |_=>cases f
theorem Bz{A:cP}{x y:V}{u w:cK}(e:dD x u)(a:dD y w)(h:je x=M)(f:je y=M):SeqAt.RcAt A s u w (tm x y):=by
 cases x with
 |non=>cases e;cases y with
  |non=>cases a;exact .none_none
  |bl k=>cases a;exact .none_bool k
  |int i=>obtain⟨t,rfl⟩:=a;exact .none_int i t
  |str z=>obtain⟨t,rfl⟩:=a;exact .none_str z t
  |_=>cases f
 |bl d=>cases e;cases y with
  |non=>cases a;exact .bool_none d
  |bl k=>cases a;exact .bool_bool d k
  |int i=>obtain⟨t,rfl⟩:=a;exact .bool_int d i t
  |str z=>obtain⟨t,rfl⟩:=a;exact .bool_str d z t
  |_=>cases f
 |int c=>obtain⟨b,rfl⟩:=e;cases y with
  |non=>cases a;exact .int_none c b
  |bl k=>cases a;exact .int_bool c b k
  |int i=>obtain⟨t,rfl⟩:=a;exact .int_int c b i t
  |str z=>obtain⟨t,rfl⟩:=a;exact .int_str c b z t
  |_=>cases f
 |str g=>obtain⟨b,rfl⟩:=e;cases y with
  |non=>cases a;exact .str_none g b
  |bl k=>cases a;exact .str_bool g b k
  |int i=>obtain⟨t,rfl⟩:=a;exact .str_int g b i t
  |str z=>obtain⟨t,rfl⟩:=a;exact .str_str g b z t
  |_=>cases f
 |_=>cases h
theorem uB(f:D->D->Option Bool):∀{xs ys:List D} {b:Bool},wU f xs ys=Z b -> ∃e:Nat->Bool,(∀j x y,xs[j]?=Z x->ys[j]?=Z y->f x y=Z (e j))/\b=((af (min xs.length ys.length)).all e&&xs.length == ys.length)
 |[],[],b,h=>by cases h;exact⟨λ_=>M,λj x y h=>by simp at h,O⟩
 |[],y::ys,b,h=>by cases h;exact⟨λ_=>M,λj x y h=>by simp at h,by simp⟩
 |x::xs,[],b,h=>by cases h;exact⟨λ_=>M,λj x y h h'=>by simp at h',by simp⟩
 |x::xs,y::ys,b,h=>by
  rw[wU]at h;obtain⟨b1,d,h⟩:=oB1.mp h;obtain⟨b2,k,h⟩:=oM1.mp h;obtain⟨e,l,i⟩:=uB f k;refine⟨λj=>match j with|0=>b1|j+1=>e j,λj g m a c=>?_,?_⟩
  ·cases j with
   |zero=>simp at a c;subst a;subst c;exact d
   |succ j=>exact l j g m (by simpa using a) (by simpa using c)
  ·rw[<- h,i,lC1,lC1,Nat.succ_min_succ,List.range_succ_eq_map,bK,List.all_map];have:((xs.length+1 == ys.length+1):Bool)=(xs.length == ys.length):=by simp
   rw[this,Bool.and_assoc];rfl
theorem nP(I:Inv X ag σ H s)(hs:Sim X.K H mu S):∀(n:Nat) {A:cP} {d e:D} {v w:V} {u z:cK} {b:Bool},A.units+n<cLine->eA X.K H mu d v->eA X.K H mu e w->dD v u->dD w z->g6 S n d e=Z b->SeqAt.EqAt A s u z b/\SeqAt.RcAt A s u z b
 |0,_,_,_,_,_,_,_,_,_,_,_,_,_,h=>by cases h
 |n + 1,A,d,e,v,w,u,z,b,hu,K,C,L,am,h=>by
  have c:A.units<cLine:=by lia
  have h0:=h;rw[g6]at h;cases hd:dn S d with
  |some p=>
   obtain⟨pb,xs⟩:=p;obtain⟨a,vs,rfl,q,t⟩:=dA K hs hd;obtain⟨l,rv,B,_⟩:=eZ I q;cases L;cases he:dn S e with
   |some p2=>
    obtain⟨qb,ys⟩:=p2;obtain⟨a2,W,rfl,q2,t2⟩:=dA C hs he;obtain⟨i,m,g,_⟩:=eZ I q2;cases am;rw[hd,he]at h;dsimp only at h;have r:SeqAt.RcAt A s (.ref a) (.ref a2) b->SeqAt.EqAt A s (.ref a) (.ref a2) b/\SeqAt.RcAt A s (.ref a) (.ref a2) b:=λrc=>by
     refine⟨?_,rc⟩;by_cases ha:a=a2
     ·subst ha;rw[sD I hs (n+1) K C h0];exact .same _
     ·exact .of_refs ha rc
    split at h
    ·rename_i wq;have hb':pb=qb:=wq;subst hb';split at h
     ·rename_i hl;cases h;obtain⟨h1,h2⟩:=hl;subst h1;refine r (.lists_lengths B g ?_ c);have l1:=t.length;have l2:=t2.length;have l3:=rv.length;have l4:=m.length
      simp only[aJ,bne_iff_ne,ne_eq];lia
     ·rename_i hl;obtain ⟨f,hf,T⟩:=uB _ h;have elts:∀ j (h1:j<l.toArray.size) (h2:j<i.toArray.size),SeqAt.EqAt A.in1 s l.toArray[j] i.toArray[j] (f j):=fun j h1 h2=>by
       have R:j<l.length:=by simpa using h1
       have N:j<i.length:=by simpa using h2
       have aq:j<vs.length:=by rw[rv.length];exact R
       have k2:j<W.length:=by rw[m.length];exact N
       obtain⟨x,ex,rx⟩:=t.getV (gG1 aq);obtain⟨y,ey,ry⟩:=t2.getV (gG1 k2);obtain⟨u1,P,ru1⟩:=rv.get (gG1 aq);obtain⟨u2,ar,ru2⟩:=m.get (gG1 k2);have U:l.toArray[j]=u1:=by
        rw[gG1 R]at P;simpa using P
       have e2:i.toArray[j]=u2:=by
        rw[gG1 N]at ar;simpa using ar
       rw[U,e2];exact(nP I hs n (A:=A.in1) (by show A.units+1+n<cLine;lia) rx ry ru1 ru2 (hf j x y ex ey)).1
      have l1:=t.length;have l2:=t2.length;have l3:=rv.length;have l4:=m.length
      cases pb with
      |false=>
       refine r ?_;have:=SeqAt.RcAt.tuples B g c elts;rw[T];have U:l.toArray.size=xs.length:=by simp;lia
       have e2:i.toArray.size=ys.length:=by simp;lia
       rw[U,e2]at this;exact this
      |true=>
       refine r ?_;have Q:xs.length=ys.length:=by
        by_cases z:xs.length=ys.length
        ·exact z
        ·exact absurd ⟨O,z⟩ hl
       have:=SeqAt.RcAt.lists B g (by simp;lia) c elts;rw[T];have U:l.toArray.size=xs.length:=by simp;lia
       rw[U]at this;rw[Q,Nat.min_self,beq_self_eq_true,bH,<- Q];exact this
    ·rename_i wq;cases h;cases pb with
     |true=>
      cases qb with
      |true=>exact absurd O wq
      |false=>exact⟨.list_tuple B g c,.list_tuple B g c⟩
     |false=>
      cases qb with
      |false=>exact absurd O wq
      |true=>exact⟨.tuple_list B g c,.tuple_list B g c⟩
   |none=>
    rw[hd,he]at h;dsimp only at h;split at h
    ·rename_i f;cases h;obtain⟨F,r2,E,G⟩:=ff B am (ew C f).1 c;exact⟨F,E⟩
    ·split at h
     ·rename_i f;cases h;obtain⟨a2,o,rfl,ao,hc,k⟩:=jf I hs C f;cases am;obtain⟨F,r2,E,G⟩:=vf ao hc k B c;exact⟨r2,G⟩
     ·cases h
  |none=>
   cases he:dn S e with
   |some p2=>
    obtain⟨qb,ys⟩:=p2;obtain⟨a2,W,rfl,q2,t2⟩:=dA C hs he;obtain⟨i,m,g,_⟩:=eZ I q2;cases am;rw[hd,he]at h;dsimp only at h;split at h
    ·rename_i f;cases h;obtain⟨F,r2,E,G⟩:=ff g L (ew K f).1 c;exact⟨r2,G⟩
    ·split at h
     ·rename_i f;cases h;obtain⟨a,o,rfl,ao,hc,k⟩:=jf I hs K f;cases L;obtain⟨F,r2,E,G⟩:=vf ao hc k g c;exact⟨F,E⟩
     ·cases h
   |none=>
    rw[hd,he]at h;dsimp only at h;unfold C7 at h;split at h
    ·obtain⟨f1,f2⟩:=nQ h;obtain⟨g1,g2⟩:=ew K f1;have g3:=(ew C f2).1;rw[g2 e w C f2]at h;cases h;exact⟨kA L am g1 g3,Bz L am g1 g3⟩
    ·rename_i aq _;split at h
     ·rename_i f;cases h;obtain⟨a,o,rfl,ao,hc,k⟩:=jf I hs K aq;cases L;obtain⟨F,r2,E,G⟩:=rT ao hc k am (ew C f).1 c;exact⟨F,E⟩
     ·cases h
    ·rename_i _ k2;split at h
     ·rename_i f;cases h;obtain⟨a,o,rfl,ao,hc,k⟩:=jf I hs C k2;cases am;obtain⟨F,r2,E,G⟩:=rT ao hc k L (ew K f).1 c;exact⟨r2,G⟩
     ·cases h
    ·cases h
end
def dX:Nat:=60
def gEq:G2:=λd e S=>(g6 S dX d e).map λb=>(.bl b,S)
section
variable{X:Cx}
theorem iD(k:X.A.units+64<cLine):fJ X (compareOp .Eq) (r2 X.K (b2 gEq)):=by
 intro ag s σ H x y u w Q I g j h;obtain⟨mu,S,d,e,r,l,i,r2,c,a,hc⟩:=oy h;obtain⟨b,f,a⟩:=oM1.mp a;cases a;exact(nP I c dX (by show _+60<cLine;lia) i r2 g j f).2 X.prog X.w X.xe _ ⟨.bl b,H,I,O,hc.now (.bl b) c⟩
end
end Mi
namespace Mi
open PySem PySem.Spec PyProof.Rows L2 SeqAt
open AutoSeq1 (wpAny_loadPart')
open MeetsSeq
section
variable{l:cN}{e:Array DictEntry}{n:Nat}{dd:Option cN}{sl:Array (Option cK)}
theorem Ao:Meets (Builtin.«dict.__ne__» ⟨[.ref l,.none],[]⟩) (λ_ R s=>s.heap.get? l=Z (OD e n dd sl)/\R (.ok (.ret .notImplemented)) s):=.of_wp λ_ _ _ _ s h=>by
 obtain⟨b,g,d,tk,c⟩:=s;obtain⟨a,h⟩:=h;have f:=F.sub_NoneType_dict;wp_walk using wpAny_loadPart' a;exact⟨_,O,h⟩
theorem D7(b:Bool):Meets (Builtin.«dict.__ne__» ⟨[.ref l,.bool b],[]⟩) (λ_ R s=>s.heap.get? l=Z (OD e n dd sl)/\R (.ok (.ret .notImplemented)) s):=.of_wp λ_ _ _ _ s h=>by
 obtain⟨c,g,d,tk,f⟩:=s;obtain⟨a,h⟩:=h;have i:=F.sub_bool_dict;wp_walk using wpAny_loadPart' a;exact⟨_,O,h⟩
theorem Ap(b:Int)(u:Tok):Meets (Builtin.«dict.__ne__» ⟨[.ref l,.int b u],[]⟩) (λ_ R s=>s.heap.get? l=Z (OD e n dd sl)/\R (.ok (.ret .notImplemented)) s):=.of_wp λ_ _ _ _ s h=>by
 obtain⟨c,g,d,tk,f⟩:=s;obtain⟨a,h⟩:=h;have i:=F.sub_int_dict;wp_walk using wpAny_loadPart' a;exact⟨_,O,h⟩
theorem An(b:Str)(u:Tok):Meets (Builtin.«dict.__ne__» ⟨[.ref l,.str b u],[]⟩) (λ_ R s=>s.heap.get? l=Z (OD e n dd sl)/\R (.ok (.ret .notImplemented)) s):=.of_wp λ_ _ _ _ s h=>by
 obtain⟨c,g,d,tk,f⟩:=s;obtain⟨a,h⟩:=h;have i:=F.sub_str_dict;wp_walk using wpAny_loadPart' a;exact⟨_,O,h⟩
theorem vS{a:cN}{its:Array cK}{k:Nat}{c:Option cN}{b:Array (Option cK)}:Meets (Builtin.«dict.__ne__» ⟨[.ref l,.ref a],[]⟩) (λ_ R s=>s.heap.get? l=Z (OD e n dd sl)/\s.heap.get? a=Z {cls:=.type "list",dict:=c,data:=.seq its k,slots:=b}/\R (.ok (.ret .notImplemented)) s):=.of_wp λ_ _ _ _ s h=>by
 obtain⟨j,g,d,tk,o⟩:=s;obtain⟨i,f,h⟩:=h;have m:=F.sub_list_dict;wp_walk using wpAny_loadPart' i,wpAny_loadPart' f;exact⟨_,O,h⟩
theorem Am{a:cN}{its:Array cK}{k:Nat}{c:Option cN}{b:Array (Option cK)}:Meets (Builtin.«dict.__ne__» ⟨[.ref l,.ref a],[]⟩) (λ_ R s=>s.heap.get? l=Z (OD e n dd sl)/\s.heap.get? a=Z {cls:=.type "tuple",dict:=c,data:=.seq its k,slots:=b}/\R (.ok (.ret .notImplemented)) s):=.of_wp λ_ _ _ _ s h=>by
 obtain⟨j,g,d,tk,o⟩:=s;obtain⟨i,f,h⟩:=h;have m:=F.sub_tuple_dict;wp_walk using wpAny_loadPart' i,wpAny_loadPart' f;exact⟨_,O,h⟩
theorem DT(b:Bool):Meets (Builtin.«int.__ne__» ⟨[.bool b,.ref l],[]⟩) (λ_ R s=>s.heap.get? l=Z (OD e n dd sl)/\R (.ok (.ret .notImplemented)) s):=.of_wp λ_ _ _ _ s h=>by
 obtain⟨c,g,d,tk,f⟩:=s;obtain⟨a,h⟩:=h;wp_walk using wpAny_loadPart' a,wpAny_load a;exact⟨_,O,h⟩
theorem yZ(b:Int)(u:Tok):Meets (Builtin.«int.__ne__» ⟨[.int b u,.ref l],[]⟩) (λ_ R s=>s.heap.get? l=Z (OD e n dd sl)/\R (.ok (.ret .notImplemented)) s):=.of_wp λ_ _ _ _ s h=>by
 obtain⟨c,g,d,tk,f⟩:=s;obtain⟨a,h⟩:=h;wp_walk using wpAny_loadPart' a,wpAny_load a;exact⟨_,O,h⟩
theorem yY(b:Str)(u:Tok):Meets (Builtin.«str.__ne__» ⟨[.str b u,.ref l],[]⟩) (λ_ R s=>s.heap.get? l=Z (OD e n dd sl)/\R (.ok (.ret .notImplemented)) s):=.of_wp λ_ _ _ _ s h=>by
 obtain⟨c,g,d,tk,f⟩:=s;obtain⟨a,h⟩:=h;wp_walk using wpAny_loadPart' a,wpAny_load a;exact⟨_,O,h⟩
theorem vn{a:cN}{its:Array cK}{k:Nat}{c:Option cN}{b:Array (Option cK)}:Meets (Builtin.«list.__ne__» ⟨[.ref a,.ref l],[]⟩) (λ_ R s=>s.heap.get? l=Z (OD e n dd sl)/\s.heap.get? a=Z {cls:=.type "list",dict:=c,data:=.seq its k,slots:=b}/\R (.ok (.ret .notImplemented)) s):=.of_wp λ_ _ _ _ s h=>by
 obtain⟨j,g,d,tk,o⟩:=s;obtain⟨i,f,h⟩:=h;have m:=F.sub_dict_list;wp_walk using wpAny_loadPart' i,wpAny_loadPart' f;exact⟨_,O,h⟩
theorem yX{a:cN}{its:Array cK}{k:Nat}{c:Option cN}{b:Array (Option cK)}:Meets (Builtin.«tuple.__ne__» ⟨[.ref a,.ref l],[]⟩) (λ_ R s=>s.heap.get? l=Z (OD e n dd sl)/\s.heap.get? a=Z {cls:=.type "tuple",dict:=c,data:=.seq its k,slots:=b}/\R (.ok (.ret .notImplemented)) s):=.of_wp λ_ _ _ _ s h=>by
 obtain⟨j,g,d,tk,o⟩:=s;obtain⟨i,f,h⟩:=h;have m:=F.sub_dict_tuple;wp_walk using wpAny_loadPart' i,wpAny_loadPart' f;exact⟨_,O,h⟩
end
abbrev Hv(A:cP)(s:cM)(v u:cK):Prop:=RcNeAt A s v u M/\RcNeAt A s u v M
section
variable{A:cP}{s:cM}{a:cN}{o:Obj}
theorem rS {v:V}{u:cK}(ho:s.heap.get? a=Z o)(hc:o.cls = .type "dict")(hd:∃e n,o.data = .dict e n)(r:dD v u)(f:je v=M)(c:A.units<cLine):Hv A s (.ref a) u:=by
 obtain⟨i,dd,d,sl⟩:=o;obtain⟨e,n,hd⟩:=hd;simp only at hc hd;subst hc hd;have two:∀{u:cK},RcNeAt A s (.ref a) u M->RcNeAt A s u (.ref a) M->Hv A s (.ref a) u:=λg r2=>⟨g,r2⟩;cases v with
 |non=>
  cases r;refine two (λ_ _ _ _ h=>?_) λ_ _ _ _ h=>?_
  ·exact rc_ne_decline_or (k:=J) ⟨_,ho,O⟩ O (by decide) F.sub_NoneType_dict F.slot_dict_ne F.slot_NoneType_ne_refl (λ_ q=>call_meets F.slot_dict_ne ⟨_,ho,O⟩ F.entry_dict_ne (F.args_dict_ne_2 _ _) Ao ⟨ho,q⟩) (λ_ q=>call_gives F.slot_NoneType_ne_refl O F.entry_NoneType_ne (F.args_NoneType_ne_2 _ _) (NoneType___ne___none_ref_0 a) q) (λ_ q=>wpAny_of_eq (rfl:isSame (.ref a) .none=pure J) q) (.inr c) h
  ·exact rc_ne_decline_or (k:=J) O ⟨_,ho,O⟩ (by decide) F.sub_dict_NoneType F.slot_NoneType_ne F.slot_dict_ne_refl (λ_ q=>call_gives F.slot_NoneType_ne O F.entry_NoneType_ne (F.args_NoneType_ne_2 _ _) (NoneType___ne___none_ref_0 a) q) (λ_ q=>call_meets F.slot_dict_ne_refl ⟨_,ho,O⟩ F.entry_dict_ne (F.args_dict_ne_2 _ _) Ao ⟨ho,q⟩) (λ_ q=>wpAny_of_eq (rfl:isSame .none (.ref a)=pure J) q) (.inr c) h
 |bl b=>
  cases r;refine two (λ_ _ _ _ h=>?_) λ_ _ _ _ h=>?_
  ·exact rc_ne_decline_or (k:=J) ⟨_,ho,O⟩ O (by decide) F.sub_bool_dict F.slot_dict_ne F.slot_bool_ne_refl (λ_ q=>call_meets F.slot_dict_ne ⟨_,ho,O⟩ F.entry_dict_ne (F.args_dict_ne_2 _ _) (D7 b) ⟨ho,q⟩) (λ_ q=>call_meets F.slot_bool_ne_refl O F.entry_int_ne (F.args_int_ne_2 _ _) (DT b) ⟨ho,q⟩) (λ_ q=>wpAny_of_eq (rfl:isSame (.ref a) (.bool b)=pure J) q) (.inr c) h
  ·exact rc_ne_decline_or (k:=J) O ⟨_,ho,O⟩ (by decide) F.sub_dict_bool F.slot_bool_ne F.slot_dict_ne_refl (λ_ q=>call_meets F.slot_bool_ne O F.entry_int_ne (F.args_int_ne_2 _ _) (DT b) ⟨ho,q⟩) (λ_ q=>call_meets F.slot_dict_ne_refl ⟨_,ho,O⟩ F.entry_dict_ne (F.args_dict_ne_2 _ _) (D7 b) ⟨ho,q⟩) (λ_ q=>wpAny_of_eq (rfl:isSame (.bool b) (.ref a)=pure J) q) (.inr c) h
 |int b=>
  obtain⟨t,rfl⟩:=r;refine two (λ_ _ _ _ h=>?_) λ_ _ _ _ h=>?_
  ·exact rc_ne_decline_or (k:=J) ⟨_,ho,O⟩ (typeIs_int s b t) (by decide) F.sub_int_dict F.slot_dict_ne F.slot_int_ne_refl (λ_ q=>call_meets F.slot_dict_ne ⟨_,ho,O⟩ F.entry_dict_ne (F.args_dict_ne_2 _ _) (Ap b t) ⟨ho,q⟩) (λ_ q=>call_meets F.slot_int_ne_refl (typeIs_int s b t) F.entry_int_ne (F.args_int_ne_2 _ _) (yZ b t) ⟨ho,q⟩) (λ_ q=>wpAny_of_eq (rfl:isSame (.ref a) (.int b t)=pure J) q) (.inr c) h
  ·exact rc_ne_decline_or (k:=J) (typeIs_int s b t) ⟨_,ho,O⟩ (by decide) F.sub_dict_int F.slot_int_ne F.slot_dict_ne_refl (λ_ q=>call_meets F.slot_int_ne (typeIs_int s b t) F.entry_int_ne (F.args_int_ne_2 _ _) (yZ b t) ⟨ho,q⟩) (λ_ q=>call_meets F.slot_dict_ne_refl ⟨_,ho,O⟩ F.entry_dict_ne (F.args_dict_ne_2 _ _) (Ap b t) ⟨ho,q⟩) (λ_ q=>wpAny_of_eq (rfl:isSame (.int b t) (.ref a)=pure J) q) (.inr c) h
 |str b=>
  obtain⟨t,rfl⟩:=r;refine two (λ_ _ _ _ h=>?_) λ_ _ _ _ h=>?_
  ·exact rc_ne_decline_or (k:=J) ⟨_,ho,O⟩ (typeIs_str s b t) (by decide) F.sub_str_dict F.slot_dict_ne F.slot_str_ne_refl (λ_ q=>call_meets F.slot_dict_ne ⟨_,ho,O⟩ F.entry_dict_ne (F.args_dict_ne_2 _ _) (An b t) ⟨ho,q⟩) (λ_ q=>call_meets F.slot_str_ne_refl (typeIs_str s b t) F.entry_str_ne (F.args_str_ne_2 _ _) (yY b t) ⟨ho,q⟩) (λ_ q=>wpAny_of_eq (rfl:isSame (.ref a) (.str b t)=pure J) q) (.inr c) h
  ·exact rc_ne_decline_or (k:=J) (typeIs_str s b t) ⟨_,ho,O⟩ (by decide) F.sub_dict_str F.slot_str_ne F.slot_dict_ne_refl (λ_ q=>call_meets F.slot_str_ne (typeIs_str s b t) F.entry_str_ne (F.args_str_ne_2 _ _) (yY b t) ⟨ho,q⟩) (λ_ q=>call_meets F.slot_dict_ne_refl ⟨_,ho,O⟩ F.entry_dict_ne (F.args_dict_ne_2 _ _) (An b t) ⟨ho,q⟩) (λ_ q=>wpAny_of_eq (rfl:isSame (.str b t) (.ref a)=pure J) q) (.inr c) h
 |_=>cases f
theorem ve {b:Bool}{x:cN}{its:Array cK}(ho:s.heap.get? a=Z o)(hc:o.cls = .type "dict")(hd:∃e n,o.data = .dict e n)(c:SCo b s.heap x its)(m:A.units<cLine):Hv A s (.ref a) (.ref x):=by
 obtain⟨w,dd,u,sl⟩:=o;obtain⟨e,n,hd⟩:=hd;simp only at hc hd;subst hc hd;cases b with
 |false=>
  obtain⟨⟨l,p,j,t⟩,d,i,v,f⟩:=(show s.heap.IsTuple x its from c);simp only at i f;subst i f;have g:a≠x:=λz=>by subst z;rw[ho]at d;exact absurd (congrArg Obj.cls (Option.some.inj d)) (by simp)
  have r:RcNeAt A s (.ref a) (.ref x) M:=λ_ _ _ _ h=>rc_ne_decline_or (k:=J) ⟨_,ho,O⟩ ⟨_,d,O⟩ (by decide) F.sub_tuple_dict F.slot_dict_ne F.slot_tuple_ne_refl (λ_ q=>call_meets F.slot_dict_ne ⟨_,ho,O⟩ F.entry_dict_ne (F.args_dict_ne_2 _ _) Am ⟨ho,d,q⟩) (λ_ q=>call_meets F.slot_tuple_ne_refl ⟨_,d,O⟩ F.entry_tuple_ne (F.args_tuple_ne_2 _ _) yX ⟨ho,d,q⟩) (λ_ q=>wpAny_isSame_ref_other g ho d (by simp) q) (.inr m) h;have r2:RcNeAt A s (.ref x) (.ref a) M:=λ_ _ _ _ h=>rc_ne_decline_or (k:=J) ⟨_,d,O⟩ ⟨_,ho,O⟩ (by decide) F.sub_dict_tuple F.slot_tuple_ne F.slot_dict_ne_refl (λ_ q=>call_meets F.slot_tuple_ne ⟨_,d,O⟩ F.entry_tuple_ne (F.args_tuple_ne_2 _ _) yX ⟨ho,d,q⟩) (λ_ q=>call_meets F.slot_dict_ne_refl ⟨_,ho,O⟩ F.entry_dict_ne (F.args_dict_ne_2 _ _) Am ⟨ho,d,q⟩) (λ_ q=>wpAny_isSame_ref_other' g.symm d ho (by simp) q) (.inr m) h;exact⟨r,r2⟩
 |true=>
  obtain⟨⟨l,p,j,t⟩,d,i,v,f⟩:=(show s.heap.IsList x its from c);simp only at i f;subst i f;have g:a≠x:=λz=>by subst z;rw[ho]at d;exact absurd (congrArg Obj.cls (Option.some.inj d)) (by simp)
  have r:RcNeAt A s (.ref a) (.ref x) M:=λ_ _ _ _ h=>rc_ne_decline_or (k:=J) ⟨_,ho,O⟩ ⟨_,d,O⟩ (by decide) F.sub_list_dict F.slot_dict_ne F.slot_list_ne_refl (λ_ q=>call_meets F.slot_dict_ne ⟨_,ho,O⟩ F.entry_dict_ne (F.args_dict_ne_2 _ _) vS ⟨ho,d,q⟩) (λ_ q=>call_meets F.slot_list_ne_refl ⟨_,d,O⟩ F.entry_list_ne (F.args_list_ne_2 _ _) vn ⟨ho,d,q⟩) (λ_ q=>wpAny_isSame_ref_other g ho d (by simp) q) (.inr m) h;have r2:RcNeAt A s (.ref x) (.ref a) M:=λ_ _ _ _ h=>rc_ne_decline_or (k:=J) ⟨_,d,O⟩ ⟨_,ho,O⟩ (by decide) F.sub_dict_list F.slot_list_ne F.slot_dict_ne_refl (λ_ q=>call_meets F.slot_list_ne ⟨_,d,O⟩ F.entry_list_ne (F.args_list_ne_2 _ _) vn ⟨ho,d,q⟩) (λ_ q=>call_meets F.slot_dict_ne_refl ⟨_,ho,O⟩ F.entry_dict_ne (F.args_dict_ne_2 _ _) vS ⟨ho,d,q⟩) (λ_ q=>wpAny_isSame_ref_other' g.symm d ho (by simp) q) (.inr m) h;exact⟨r,r2⟩
end
section
variable{X:Cx}{ag:List (cN×Obj)}{σ:L2.St}{H:Hp}{s:cM}{mu:List cN}{S:Sto}
theorem Cb{A:cP}{x y:V}{u w:cK}(e:dD x u)(a:dD y w)(h:je x=M)(f:je y=M):SeqAt.RcNeAt A s u w (!tm x y):=by
 cases x with
 |non=>cases e;cases y with
  |non=>cases a;exact .none_none
  |bl k=>cases a;exact .none_bool k
  |int i=>obtain⟨t,rfl⟩:=a;exact .none_int i t
  |str z=>obtain⟨t,rfl⟩:=a;exact .none_str z t
  |_=>cases f
 |bl d=>cases e;cases y with
  |non=>cases a;exact .bool_none d
  |bl k=>cases a;exact .bool_bool d k
  |int i=>obtain⟨t,rfl⟩:=a;exact .bool_int d i t
  |str z=>obtain⟨t,rfl⟩:=a;exact .bool_str d z t
  |_=>cases f
 |int c=>obtain⟨b,rfl⟩:=e;cases y with
  |non=>cases a;exact .int_none c b
  |bl k=>cases a;exact .int_bool c b k
  |int i=>obtain⟨t,rfl⟩:=a;exact .int_int c b i t
  |str z=>obtain⟨t,rfl⟩:=a;exact .int_str c b z t
  |_=>cases f
 |str g=>obtain⟨b,rfl⟩:=e;cases y with
  |non=>cases a;exact .str_none g b
  |bl k=>cases a;exact .str_bool g b k
  |int i=>obtain⟨t,rfl⟩:=a;exact .str_int g b i t
  |str z=>obtain⟨t,rfl⟩:=a;exact .str_str g b z t
  |_=>cases f
 |_=>cases h
theorem md{A:cP}{b:Bool}{a:cN}{its:Array cK}{v:V}{u:cK}(c:SCo b s.heap a its)(r:dD v u)(f:je v=M)(d:A.units<cLine):SeqAt.RcNeAt A s (.ref a) u M/\SeqAt.RcNeAt A s u (.ref a) M:=by
 cases v with
 | non => cases r;cases b
          · exact⟨.tuple_none c d,.none_tuple c d⟩
          · exact⟨.list_none c d,.none_list c d⟩
 | bl k => cases r;cases b
           · exact⟨.tuple_bool k c d,.bool_tuple k c d⟩
           · exact⟨.list_bool k c d,.bool_list k c d⟩
 | int i => obtain ⟨t,rfl⟩:=r;cases b
            · exact⟨.tuple_int i t c d,.int_tuple i t c d⟩
            · exact⟨.list_int i t c d,.int_list i t c d⟩
 | str x => obtain ⟨t,rfl⟩:=r;cases b
            · exact⟨.tuple_str x t c d,.str_tuple x t c d⟩
            · exact⟨.list_str x t c d,.str_list x t c d⟩
 |_=>cases f
theorem FY(I:Inv X ag σ H s)(hs:Sim X.K H mu S)(n:Nat){A:cP}{d e:D}{v w:V}{u z:cK}{b:Bool}(hu:A.units+n<cLine)(F:eA X.K H mu d v)(r:eA X.K H mu e w)(G:dD v u)(E:dD w z)(h:g6 S n d e=Z b):SeqAt.RcNeAt A s u z (!b):=by
 cases n with
 |zero=>cases h
 |succ n=>
  have c:A.units<cLine:=by lia
  rw[g6]at h;cases hd:dn S d with
  |some p=>
   obtain⟨pb,xs⟩:=p;obtain⟨a,vs,rfl,q,t⟩:=dA F hs hd;obtain⟨l,rv,B,_⟩:=eZ I q;cases G;cases he:dn S e with
   |some p2=>
    obtain⟨qb,ys⟩:=p2;obtain⟨a2,Q,rfl,W,t2⟩:=dA r hs he;obtain⟨g,m,i,_⟩:=eZ I W;cases E;rw[hd,he]at h;dsimp only at h;have l1:=t.length;have l2:=t2.length;have l3:=rv.length;have l4:=m.length
    split at h
    ·rename_i T;have hb':pb=qb:=T;subst hb';split at h
     ·rename_i aq;cases h;obtain⟨h1,h2⟩:=aq;subst h1;refine .lists_lengths B i ?_ c;simp only[aJ,bne_iff_ne,ne_eq];lia
     ·rename_i aq;obtain ⟨f,hf,ar⟩:=uB _ h;have elts:∀ j (h1:j<l.toArray.size) (h2:j<g.toArray.size),SeqAt.EqAt A.in1 s l.toArray[j] g.toArray[j] (f j):=fun j h1 h2=>by
       have N:j<l.length:=by simpa using h1
       have am:j<g.length:=by simpa using h2
       have R:j<vs.length:=by rw[rv.length];exact N
       have U:j<Q.length:=by rw[m.length];exact am
       obtain⟨x,ex,rx⟩:=t.getV (gG1 R);obtain⟨y,ey,ry⟩:=t2.getV (gG1 U);obtain⟨u1,L,ru1⟩:=rv.get (gG1 R);obtain⟨u2,K,ru2⟩:=m.get (gG1 U);have P:l.toArray[j]=u1:=by
        rw[gG1 N]at L;simpa using L
       have wq:g.toArray[j]=u2:=by
        rw[gG1 am]at K;simpa using K
       rw[P,wq];exact(nP I hs n (A:=A.in1) (by show A.units+1+n<cLine;lia) rx ry ru1 ru2 (hf j x y ex ey)).1
      cases pb with
      |false=>
       have:=SeqAt.RcNeAt.tuples B i c elts;rw[ar];have P:l.toArray.size=xs.length:=by simp;lia
       have wq:g.toArray.size=ys.length:=by simp;lia
       rw[P,wq]at this;exact this
      |true=>
       have ao:xs.length=ys.length:=by
        by_cases z:xs.length=ys.length
        ·exact z
        ·exact absurd ⟨O,z⟩ aq
       have:=SeqAt.RcNeAt.lists B i (by simp;lia) c elts;rw[ar];have P:l.toArray.size=xs.length:=by simp;lia
       rw[P]at this;rw[ao,Nat.min_self,beq_self_eq_true,bH,<- ao];exact this
    ·rename_i T;cases h;cases pb with
     |true=>
      cases qb with
      |true=>exact absurd O T
      |false=>exact .list_tuple B i c
     |false=>
      cases qb with
      |false=>exact absurd O T
      |true=>exact .tuple_list B i c
   |none=>
    rw[hd,he]at h;dsimp only at h;split at h
    ·rename_i f;cases h;exact(md B E (ew r f).1 c).1
    ·split at h
     ·rename_i f;cases h;obtain⟨a2,o,rfl,C,hc,k⟩:=jf I hs r f;cases E;exact(ve C hc k B c).2
     ·cases h
  |none=>
   cases he:dn S e with
   |some p2=>
    obtain⟨qb,ys⟩:=p2;obtain⟨a2,Q,rfl,W,t2⟩:=dA r hs he;obtain⟨g,m,i,_⟩:=eZ I W;cases E;rw[hd,he]at h;dsimp only at h;split at h
    ·rename_i f;cases h;exact(md i G (ew F f).1 c).2
    ·split at h
     ·rename_i f;cases h;obtain⟨a,o,rfl,C,hc,k⟩:=jf I hs F f;cases G;exact(ve C hc k i c).1
     ·cases h
   |none=>
    rw[hd,he]at h;dsimp only at h;unfold C7 at h;split at h
    ·obtain⟨f1,f2⟩:=nQ h;obtain⟨g1,g2⟩:=ew F f1;have g3:=(ew r f2).1;rw[g2 e w r f2]at h;cases h;exact Cb G E g1 g3
    ·rename_i R _;split at h
     ·rename_i f;cases h;obtain⟨a,o,rfl,C,hc,k⟩:=jf I hs F R;cases G;exact(rS C hc k E (ew r f).1 c).1
     ·cases h
    ·rename_i _ U;split at h
     ·rename_i f;cases h;obtain⟨a,o,rfl,C,hc,k⟩:=jf I hs r U;cases E;exact(rS C hc k G (ew F f).1 c).2
     ·cases h
    ·cases h
end
def gNe:G2:=λd e S=>(g6 S dX d e).map λb=>(.bl (!b),S)
def su(f:D->D->Option Bool)(x:D):List D->Option Bool
 |[]=>Z J
 |y::ys=>(f y x).bind λb=>(su f x ys).map λc=>b||c
def I7:G2:=λd e S=>(dn S e).bind λp=>(su (g6 S dX) d p.2).map λb=>(.bl b,S)
def nL:G2:=λd e S=>(dn S e).bind λp=>(su (g6 S dX) d p.2).map λb=>(.bl (!b),S)
def mf:D->Bool
 | .non=>M
 |_=>J
def KG:G2:=λd e S=>match e with
 | .non=>Z (.bl (mf d),S)
 |_=>Y
def C1:G2:=λd e S=>match e with
 | .non=>Z (.bl (!mf d),S)
 |_=>Y
section
variable{X:Cx}
theorem ue(k:X.A.units+64<cLine):fJ X (compareOp .NotEq) (r2 X.K (b2 gNe)):=by
 intro ag s σ H x y u w Q I g j h;obtain⟨mu,S,d,e,r,l,i,r2,c,a,hc⟩:=oy h;obtain⟨b,f,a⟩:=oM1.mp a;cases a;exact FY I c dX (by show _+60<cLine;lia) i r2 g j f X.prog X.w X.xe _ ⟨.bl (!b),H,I,O,hc.now (.bl _) c⟩
theorem zI(f:D->D->Option Bool)(x:D):∀{ys:List D} {b:Bool},su f x ys=Z b -> ∃bs:List Bool,bs.length=ys.length/\(∀(j:Nat) (y:D) (k:Bool),ys[j]?=Z y->bs[j]?=Z k->f y x=Z k)/\b=bs.any id
 |[],b,h=>by cases h;exact⟨[],O,λj y k h=>by simp at h,O⟩
 |y::ys,b,h=>by
  rw[su]at h;obtain⟨b1,e,h⟩:=oB1.mp h;obtain⟨b2,l,h⟩:=oM1.mp h;obtain⟨bs,i,g,a⟩:=zI f x l;refine⟨b1::bs,by simp[i],λj m k d c=>?_,?_⟩
  ·cases j with
   |zero=>simp at d c;subst d;subst c;exact e
   |succ j=>exact g j m k (by simpa using d) (by simpa using c)
  ·rw[<- h,a];simp
open Classical in
theorem DX{ag:List (cN×Obj)}{σ:L2.St}{H:Hp}{s:cM}{mu:List cN}{S:Sto}(I:Inv X ag σ H s)(hs:Sim X.K H mu S){A:cP}(K:A.units+61<cLine){x:D}{v:V}{u:cK}(q:eA X.K H mu x v)(B:dD v u){ys:List D}{vs:List V}{us:List cK}{b:Bool}(p:dt X.K H mu ys vs)(n:dU vs us)(h:su (g6 S dX) x ys=Z b):∃e:cK->Bool,(∀w∈us,SeqAt.EqAt A.in1 s w u (e w))/\us.any e=b:=by
 obtain⟨bs,G,t,rfl⟩:=zI _ x h;have F:=p.length;have am:=n.length;have at_:∀(j:Nat) w k,us[j]?=Z w->bs[j]?=Z k->SeqAt.EqAt A.in1 s w u k:=λj w k f c=>by
  have l:j<us.length:=(gE1.mp f).1;obtain⟨y,E,r⟩:=p.getV (i:=j) (v:=vs[j]'(by lia)) (gG1 (by lia));obtain⟨L,m,r2⟩:=n.get (i:=j) (x:=vs[j]'(by lia)) (gG1 (by lia));rw[f]at m;cases m;exact(nP I hs dX (A:=A.in1) (by show A.units+1+60<cLine;lia) r q r2 B (t j y k E c)).1
 refine⟨λw=>decide (∃j:Nat,us[j]?=Z w/\bs[j]?=Z M),λw f=>?_,?_⟩
 ·by_cases z:∃j:Nat,us[j]?=Z w/\bs[j]?=Z M
  ·dsimp only;rw[ah z];obtain⟨j,o,a⟩:=z;exact at_ j w M o a
  ·dsimp only;rw[ai z];obtain⟨j,d⟩:=bt f;have l:j<us.length:=(gE1.mp d).1;have g:j<bs.length:=by lia
   have a:=gG1 g;cases c:bs[j]with
   |true=>rw[c]at a;exact absurd ⟨j,d,a⟩ z
   |false=>rw[c]at a;exact at_ j w J d a
 ·rw[bL,bM,bM];constructor
  ·rintro⟨w,f,z⟩;obtain⟨j,o,a⟩:=of_decide_eq_true z;exact⟨M,gM1 a,O⟩
  ·rintro⟨k,c,z⟩;obtain⟨j,d⟩:=bt c;have l:j<bs.length:=(gE1.mp d).1;have g:j<us.length:=by lia
   have C:k=M:=z;subst C;exact⟨us[j],bN g,ah ⟨j,gG1 g,d⟩⟩
theorem Kw(E:X.A.units+64<cLine):fJ X (compareOp .In) (r2 X.K (b2 I7)):=by
 intro ag s σ H x y u w Q I p D h;obtain⟨mu,S,d,e,r,F,v,r2,k,i,hc⟩:=oy h;obtain⟨⟨o,ys⟩,n,i⟩:=oB1.mp i;obtain⟨b,C,i⟩:=oM1.mp i;cases i;obtain⟨a,vs,rfl,q,t⟩:=dA r2 k n;cases D;obtain⟨c,B,m,_⟩:=eZ I q;obtain⟨f,l,z⟩:=DX I k (A:=X.A) (by lia) v p t B C;have g:EP X ag σ Q (.bool (c.toArray.any f)) s:=⟨.bl b,H,I,by rw[show c.toArray.any f=c.any f by simp,z];rfl,hc.now (.bl b) k⟩;cases o
 ·exact SeqAt.in_tupleAt f m (λy j=>l y (by simpa using j)) g
 ·exact SeqAt.in_listAt f m (λy j=>l y (by simpa using j)) g
theorem B7(E:X.A.units+64<cLine):fJ X (compareOp .NotIn) (r2 X.K (b2 nL)):=by
 intro ag s σ H x y u w Q I p D h;obtain⟨mu,S,d,e,r,F,v,r2,k,i,hc⟩:=oy h;obtain⟨⟨o,ys⟩,n,i⟩:=oB1.mp i;obtain⟨b,C,i⟩:=oM1.mp i;cases i;obtain⟨a,vs,rfl,q,t⟩:=dA r2 k n;cases D;obtain⟨c,B,m,_⟩:=eZ I q;obtain⟨f,l,z⟩:=DX I k (A:=X.A) (by lia) v p t B C;have g:EP X ag σ Q (.bool (!c.toArray.any f)) s:=⟨.bl (!b),H,I,by rw[show c.toArray.any f=c.any f by simp,z];rfl,hc.now (.bl _) k⟩;cases o
 ·exact SeqAt.notIn_tupleAt f m (λy j=>l y (by simpa using j)) g
 ·exact SeqAt.notIn_listAt f m (λy j=>l y (by simpa using j)) g
theorem vk{K:Fg1}{H:Hp}{mu:List cN}{d:D}{v:V}(r:eA K H mu d v):mf d=decide (v = .non):=by
 cases r<;>simp[mf]
theorem IA:fJ X (compareOp .Is) (r2 X.K (b2 KG)):=by
 intro ag s σ H x y u w Q I b g h;obtain⟨mu,S,d,e,r,i,c,r2,f,a,hc⟩:=oy h;cases e with
 |non=>
  cases a;cases r2;refine FF ag s σ H _ _ u w Q I b g ⟨O,?_⟩;rw[<- vk c];exact hc.now (.bl _) f
 |_=>cases a
theorem FW:fJ X (compareOp .IsNot) (r2 X.K (b2 C1)):=by
 intro ag s σ H x y u w Q I b g h;obtain⟨mu,S,d,e,r,i,c,r2,f,a,hc⟩:=oy h;cases e with
 |non=>
  cases a;cases r2;refine B2 ag s σ H _ _ u w Q I b g ⟨O,?_⟩;rw[<- vk c];exact hc.now (.bl _) f
 |_=>cases a
end
def dZ:G1:=λd S=>match d with
 | .str x=>if x.length<=cT then Z (.int x.length,S)else Y
 |_=>(dn S d).map λp=>(.int p.2.length,S)
def xl:G2:=λd e S=>match e with
 | .int i=>(dn S d).bind λp=>(py p.2 i).map λx=>(x,S)
 |_=>Y
def gTup:G1:=λd S=>(dn S d).map λp=>(.tup p.2,S)
def nM:G1:=λd S=>(dn S d).map λp=>(.ref S.length,S++[.lst p.2])
def jH:G3:=λo i v S=>match o,i with
 | .ref n,.int k=>match S[n]? with
  |some (.lst xs)=>(tj xs.length k).map λj=>(.non,S.set n (.lst (xs.set j v)))
  |_=>Y
 |_,_=>Y
def uG:List D->Option Bool
 |[]=>Z M
 | .bl b::r=>(uG r).map λc=>b&&c
 |_=>Y
def AO:List D->Option Bool
 |[]=>Z J
 | .bl b::r=>(AO r).map λc=>b||c
 |_=>Y
def gl:G1:=λd S=>(dn S d).bind λp=>(uG p.2).map λb=>(.bl b,S)
def zV:G1:=λd S=>(dn S d).bind λp=>(AO p.2).map λb=>(.bl b,S)
def nN:G1:=λd S=>match d with
 | .int i=>Z (.int i,S)
 | .bl b=>Z (.int (if b then 1 else 0),S)
 |_=>Y
def sw:G2:=λd e S=>match d,e with
 | .int i,.int j=>Z (.int (if j>i then j else i),S)
 |_,_=>Y
def wR:G2:=λd e S=>match d,e with
 | .int i,.int j=>Z (.int (if j<i then j else i),S)
 |_,_=>Y
section
variable{X:Cx}
theorem d9:eH X (.builtin "len") (rN X.K (b1 dZ)):=by
 intro ag s σ H xs g Q I r h;obtain⟨x,mu,S,d,k,l,rfl,f,e,c,hc⟩:=A1 h;unfold dZ at c;split at c
 ·split at c
  ·rename_i z j;cases c;cases f;exact qx ag s σ H _ g Q I r ⟨_,O,j,hc.now (.int _) e⟩
  ·cases c
 ·obtain⟨⟨b,ys⟩,i,c⟩:=oM1.mp c;cases c;obtain⟨a,vs,rfl,q,t⟩:=dA f e i;refine qy ag s σ H _ g Q I r ⟨a,vs,O,?_,?_⟩
  ·cases b
   ·exact .inr q
   ·exact .inl q
  ·rw[<- t.length];exact hc.now (.int _) e
theorem Dp{K:Fg1}{H:Hp}{mu:List cN}{ds:List D}{vs:List V}{i:Int}{d:D}(t:dt K H mu ds vs)(h:py ds i=Z d):∃v,py vs i=Z v/\eA K H mu d v:=by
 unfold py at h ⊢;rw[<- t.length];obtain⟨j,b,h⟩:=oB1.mp h;obtain⟨v,a,c⟩:=t.get h;exact⟨v,by rw[b];exact a,c⟩
theorem JW:Ed X (r2 X.K (b2 xl)):=by
 intro value c ag s σ H x y v u Q I m o h g;obtain⟨mu,S,d,e,r,B,w,r2,j,f,hc⟩:=oy h;cases e with
 |int i=>
  obtain⟨⟨b,ys⟩,p,f⟩:=oB1.mp f;obtain⟨z,A,f⟩:=oM1.mp f;cases f;cases r2;obtain⟨a,vs,rfl,q,t⟩:=dA w j p;obtain⟨l,k,n⟩:=Dp t A;cases b
  ·exact ix_tup value c ag s σ H _ _ v u Q I m o ⟨a,vs,i,l,O,O,q,k,hc.now n j⟩ g
  ·exact CI value c ag s σ H _ _ v u Q I m o ⟨a,vs,i,l,O,O,q,k,hc.now n j⟩ g
 |_=>cases f
theorem hA:eH X (.type "tuple") (rN X.K (b1 gTup)):=by
 intro ag s σ H xs j Q I r h;obtain⟨x,mu,S,d,k,m,rfl,i,e,f,hc⟩:=A1 h;obtain⟨⟨b,ys⟩,g,f⟩:=oM1.mp f;cases f;obtain⟨a,vs,rfl,q,t⟩:=dA i e g;refine oG ag s σ H _ j Q I r ⟨a,vs,O,?_⟩;cases b
 ·exact .inr ⟨q,hc.now (.tup q t) e⟩
 ·exact .inl ⟨q,λl c=>hc _ _ mu (Ext.fresh c) (.tup (jW.of d5) (t.ext (Ext.fresh c))) (e.fresh c)⟩
theorem c_list:eH X (.type "list") (rN X.K (b1 nM)):=by
 intro ag s σ H xs j Q I r h;obtain⟨x,mu,S,d,k,m,rfl,i,c,e,hc⟩:=A1 h;obtain⟨⟨b,ys⟩,g,e⟩:=oM1.mp e;cases e;obtain⟨a,vs,rfl,q,t⟩:=dA i c g;refine qw ag s σ H _ j Q I r ⟨a,vs,O,?_,λl f=>hc _ _ (mu++[l]) (Ext.new_ f) (.ref (gY c.len l)) (c.newL t f)⟩;cases b
 ·exact .inr q
 ·exact .inl q
theorem H7:uK X (rU X.K (b3 jH)):=by
 intro ag s σ H o i v A w u Q I m z x h;obtain⟨mu,S,ds,d,G,q,f,a,hc⟩:=h;cases q with
 |cons B y=>cases y with
  |cons l C=>cases C with
   |cons r g=>
    cases g;rename_i D E F;dsimp only[b3]at a;unfold jH at a;split at a
    ·rename_i n k;split at a
     ·rename_i xs e;obtain⟨j,p,a⟩:=oM1.mp a;cases a;cases B with
      |ref c=>
       cases l;obtain⟨vs,b,t⟩:=f.lst e c;refine yc ag s σ H _ _ v A w u Q I m z x ⟨_,vs,k,j,O,O,b,by rw[<- t.length];exact p,?_⟩;exact hc _ mu (Ext.put b trivial (gM1 c)) (f.putL (t.set r j) c b)
     ·cases a
    ·cases a
theorem Dv{K:Fg1}{H:Hp}{mu:List cN}:∀{ds:List D} {vs:List V} {us:List cK} {b:Bool},dt K H mu ds vs->dU vs us->uG ds=Z b -> ∃bs:List Bool,us=bs.map Value.bool/\b=bs.all id:=by
 intro ds
 induction ds with
 |nil=>intro vs us b r v h;cases r;cases v;cases h;exact⟨[],O,O⟩
 |cons d ds ih=>
  intro vs us b r v h;cases r with
  |cons i t=>
   cases v with
   |cons r a=>
    cases i
    case bl k=>
     obtain⟨c,e,h⟩:=oM1.mp h;obtain⟨bs,g,f⟩:=ih t a e;cases r;exact⟨k::bs,by rw[g];rfl,by rw[<- h,f];rfl⟩
    all_goals cases h
theorem Dr{K:Fg1}{H:Hp}{mu:List cN}:∀{ds:List D} {vs:List V} {us:List cK} {b:Bool},dt K H mu ds vs->dU vs us->AO ds=Z b -> ∃bs:List Bool,us=bs.map Value.bool/\b=bs.any id:=by
 intro ds
 induction ds with
 |nil=>intro vs us b r v h;cases r;cases v;cases h;exact⟨[],O,O⟩
 |cons d ds ih=>
  intro vs us b r v h;cases r with
  |cons i t=>
   cases v with
   |cons r a=>
    cases i
    case bl k=>
     obtain⟨c,e,h⟩:=oM1.mp h;obtain⟨bs,g,f⟩:=ih t a e;cases r;exact⟨k::bs,by rw[g];rfl,by rw[<- h,f];rfl⟩
    all_goals cases h
theorem oP(bs:List Bool):(af bs.length).all (λi=>bs.getD i M)=bs.all id:=by
 rw[bL,bA,bA];constructor
 ·intro h b c;obtain⟨i,hi,rfl⟩:=List.mem_iff_getElem.mp c;have:=h i (aA.mpr hi);simpa[bG,hi]using this
 ·intro h i hi;have a:=aA.mp hi;have:=h _ (bN a);simpa[bG,a]using this
theorem oO(bs:List Bool):(af bs.length).any (λi=>bs.getD i M)=bs.any id:=by
 rw[bL,bM,bM];constructor
 ·rintro⟨i,hi,h⟩;have a:=aA.mp hi;exact⟨bs[i],bN a,by simpa[bG,a]using h⟩
 ·rintro⟨b,c,h⟩;obtain⟨i,hi,rfl⟩:=List.mem_iff_getElem.mp c;exact⟨i,aA.mpr hi,by simpa[bG,hi]using h⟩
theorem tF{s:cM}{b:Bool}{a:cN}{bs:List Bool}(hc:X.A.handled=Y)(g:SCo b s.heap a (bs.map Value.bool).toArray){Q:cK->cM->Prop}(all:∀h' tk,(∀c o,s.heap.get? c=Z o->h'.get? c=Z o)->Q (.bool (bs.all id)) {s with heap:=h',toks:=tk}):cU (model X.prog X.w) X.A (call (.builtin "all") [.ref a]) Q X.xe s:=by
 refine call_all_walk (kN g ?_);have j:a<s.heap.objs.size:=by cases b<;>(obtain⟨o,e,_⟩:=g;exact hL1 e)
 have ne:a≠s.heap.objs.size:=nN1 j;have l:TruthOf X.prog X.w X.A.in1 (λi v=>(bs.map Value.bool).toArray[i]?=Z v) (λi=>bs.getD i M):=λi v s' p q n h=>by
  have d:(bs.map Value.bool)[i]?=Z v:=by simpa using n
  rw[gP1]at d;obtain⟨k,m,rfl⟩:=oM1.mp d;dsimp only at h;rw[bG,m]at h;exact wpAny_truthy_bool h
 have keep:∀(h':cW),(∀c o,c∉[s.heap.objs.size]->(s.heap.push (hW b a)).get? c=Z o->h'.get? c=Z o) -> ∀c o,s.heap.get? c=Z o->h'.get? c=Z o:=λh' f c o e=>
  f c o (by simpa using nN1 (hL1 e)) (hP1 _ e)
 have hi:(s.heap.push (hW b a)).get? s.heap.objs.size=Z (hW b a):=hS1 _ (by cases b<;>rfl);cases b with
 |true=>
  refine⟨s.heap.objs.size,_,_,_,_,_,_,O,Walks.list (A:=X.A.in1) hc s.heap.objs.size a ne (bs.map Value.bool).toArray,⟨⟨_,hi,O,O⟩,SCo.to (b:=M) g λo e=>hP1 _ e⟩,l,λh' tk f=>?_⟩;have e:(bs.map Value.bool).toArray.size=bs.length:=by simp
  rw[e,oP];exact all h' tk (keep h' f)
 |false=>
  refine⟨s.heap.objs.size,_,_,_,_,_,_,O,Walks.tuple (A:=X.A.in1) hc s.heap.objs.size a ne (bs.map Value.bool).toArray,⟨⟨_,hi,O,O⟩,SCo.to (b:=J) g λo e=>hP1 _ e⟩,l,λh' tk f=>?_⟩;have e:(bs.map Value.bool).toArray.size=bs.length:=by simp
  rw[e,oP];exact all h' tk (keep h' f)
theorem walk_bools'{s:cM}{b:Bool}{a:cN}{bs:List Bool}(hc:X.A.handled=Y)(g:SCo b s.heap a (bs.map Value.bool).toArray){Q:cK->cM->Prop}(all:∀h' tk,(∀c o,s.heap.get? c=Z o->h'.get? c=Z o)->Q (.bool (bs.any id)) {s with heap:=h',toks:=tk}):cU (model X.prog X.w) X.A (call (.builtin "any") [.ref a]) Q X.xe s:=by
 refine call_any_walk (kN g ?_);have j:a<s.heap.objs.size:=by cases b<;>(obtain⟨o,e,_⟩:=g;exact hL1 e)
 have ne:a≠s.heap.objs.size:=nN1 j;have l:TruthOf X.prog X.w X.A.in1 (λi v=>(bs.map Value.bool).toArray[i]?=Z v) (λi=>bs.getD i M):=λi v s' p q n h=>by
  have d:(bs.map Value.bool)[i]?=Z v:=by simpa using n
  rw[gP1]at d;obtain⟨k,m,rfl⟩:=oM1.mp d;dsimp only at h;rw[bG,m]at h;exact wpAny_truthy_bool h
 have keep:∀(h':cW),(∀c o,c∉[s.heap.objs.size]->(s.heap.push (hW b a)).get? c=Z o->h'.get? c=Z o) -> ∀c o,s.heap.get? c=Z o->h'.get? c=Z o:=λh' f c o e=>
  f c o (by simpa using nN1 (hL1 e)) (hP1 _ e)
 have hi:(s.heap.push (hW b a)).get? s.heap.objs.size=Z (hW b a):=hS1 _ (by cases b<;>rfl);cases b with
 |true=>
  refine⟨s.heap.objs.size,_,_,_,_,_,_,O,Walks.list (A:=X.A.in1) hc s.heap.objs.size a ne (bs.map Value.bool).toArray,⟨⟨_,hi,O,O⟩,SCo.to (b:=M) g λo e=>hP1 _ e⟩,l,λh' tk f=>?_⟩;have e:(bs.map Value.bool).toArray.size=bs.length:=by simp
  rw[e,oO];exact all h' tk (keep h' f)
 |false=>
  refine⟨s.heap.objs.size,_,_,_,_,_,_,O,Walks.tuple (A:=X.A.in1) hc s.heap.objs.size a ne (bs.map Value.bool).toArray,⟨⟨_,hi,O,O⟩,SCo.to (b:=J) g λo e=>hP1 _ e⟩,l,λh' tk f=>?_⟩;have e:(bs.map Value.bool).toArray.size=bs.length:=by simp
  rw[e,oO];exact all h' tk (keep h' f)
theorem jh(hc:X.calm=M):eH X (.builtin "all") (rN X.K (b1 gl)):=by
 intro ag s σ H xs w Q I r h;obtain⟨x,mu,S,d,v,y,rfl,j,f,c,e⟩:=A1 h;obtain⟨⟨b,ys⟩,g,c⟩:=oB1.mp c;obtain⟨k,n,c⟩:=oM1.mp c;cases c;obtain⟨a,vs,rfl,q,t⟩:=dA j f g;obtain⟨u,rfl,o⟩:=hI r;cases o;obtain⟨l,m,p,_⟩:=eZ I q;obtain⟨bs,rfl,rfl⟩:=Dv t m n;exact tF (I.ok.hd hc) p λh' tk i=>⟨.bl _,H,I.kept i,O,e.now (.bl _) f⟩
theorem c_any(hc:X.calm=M):eH X (.builtin "any") (rN X.K (b1 zV)):=by
 intro ag s σ H xs w Q I r h;obtain⟨x,mu,S,d,v,y,rfl,j,f,c,e⟩:=A1 h;obtain⟨⟨b,ys⟩,g,c⟩:=oB1.mp c;obtain⟨k,n,c⟩:=oM1.mp c;cases c;obtain⟨a,vs,rfl,q,t⟩:=dA j f g;obtain⟨u,rfl,o⟩:=hI r;cases o;obtain⟨l,m,p,_⟩:=eZ I q;obtain⟨bs,rfl,rfl⟩:=Dr t m n;exact walk_bools' (I.ok.hd hc) p λh' tk i=>⟨.bl _,H,I.kept i,O,e.now (.bl _) f⟩
theorem n0:eH X (.type "int") (rN X.K (b1 nN)):=by
 intro ag s σ H xs e Q I r h;obtain⟨x,mu,S,d,g,j,rfl,c,f,a,hc⟩:=A1 h;cases d with
 |int i=>cases a;cases c;exact pk ag s σ H _ e Q I r (.inl ⟨i,O,hc.now (.int _) f⟩)
 |bl b=>cases a;cases c;exact pk ag s σ H _ e Q I r (.inr ⟨b,O,hc.now (.int _) f⟩)
 |_=>cases a
theorem AB(hc:X.calm=M):eH X (.builtin "max") (rN X.K (b2 sw)):=by
 intro ag s σ H xs f Q I r h;obtain⟨x,y,mu,S,d,e,i,j,rfl,c,r2,g,a,b⟩:=Bx h;unfold sw at a;split at a
 ·cases a;cases c;cases r2;exact xc hc ag s σ H _ f Q I r ⟨_,_,O,b.now (.int _) g⟩
 ·cases a
theorem Ea(hc:X.calm=M):eH X (.builtin "min") (rN X.K (b2 wR)):=by
 intro ag s σ H xs f Q I r h;obtain⟨x,y,mu,S,d,e,i,j,rfl,c,r2,g,a,b⟩:=Bx h;unfold wR at a;split at a
 ·cases a;cases c;cases r2;exact xb hc ag s σ H _ f Q I r ⟨_,_,O,b.now (.int _) g⟩
 ·cases a
end
open PySem.SeqAt
open PySem.AutoSeq1 (wpAny_loadPart')
open PySem.MeetsSeq PySem.MeetsSeq2 PySem.MeetsSeq3
def Dy(A:cP)(s:cM)(y x:cK)(b:Bool):Prop:=∀(prog:cO) (w:cQ) (E:cK->cM->Prop) (Q:cK->cM->Prop),Q (.bool b) s->cU (model prog w) A (richCompare .Lt y x) Q E s
inductive xp (A:cP)(s:cM):List cK->List cK->Bool->Prop
 |nn:xp A s [] [] false
 |nc (y:cK) (ys:List cK):xp A s [] (y::ys) true
 |cn (x:cK) (xs:List cK):xp A s (x::xs) [] false
 |eq {x y:cK} {xs ys:List cK} {k:Bool} (e:EqAt A.in1 s x y true) (t:xp A s xs ys k):xp A s (x::xs) (y::ys) k
 |lt {x y:cK} {xs ys:List cK} {k:Bool} (e:EqAt A.in1 s x y false) (t:Dy A.in1 s x y k):xp A s (x::xs) (y::ys) k
theorem Ex(l b:cN)(items items2:Array cK)(n D:Nat)(dd r:Option cN)(sl p:Array (Option cK))(c:Bool):
  Meets (Builtin.«tuple.__lt__» ⟨[.ref l,.ref b],[]⟩) (fun A R s=>s.heap.get? l=some {cls:=.type "tuple",dict:=dd,data:=.seq items n,slots:=sl}/\s.heap.get? b=some {cls:=.type "tuple",dict:=r,data:=.seq items2 D,slots:=p} /\
    xp A s items.toList items2.toList c/\R (.ok (.ret (.bool c))) s):=
 .of_wp λprog w A R s h=>by
  obtain⟨v,g,d,tk,u⟩:=s;obtain⟨z,C,B,h⟩:=h;have G:=AutoSeq1.sub_tuple_tuple
  wp_walk using wpAny_loadPart' z,wpAny_loadPart' C,wpAny_forIn_list _ (λrest b s'=>b.1=Y/\s'=⟨v,g,d,tk,u⟩ /\ ∃vs ws:List cK,rest=vs.zip ws/\xp A ⟨v,g,d,tk,u⟩ vs ws c/\vs.length+items2.size=ws.length+items.size) _
  case turn=>
   rintro⟨y,x⟩ rest b s' ⟨k,rfl,vs,ws,f,m,a⟩;cases m with
   |nn=>cases f
   |nc _ _=>cases f
   |cn _ _=>cases f
   |eq e t=>
    rw[bO]at f;injection f with j i;injection j with q o;subst q o
    simp only[lC1]at a;refine wB1 (e prog w _ _ ?_)
    wp_walk
    exact⟨O,O,_,_,i,t,by lia⟩
   |lt e t=>
    rw[bO]at f;injection f with j i;injection j with q o;subst q o
    refine wB1 (e prog w _ _ ?_);have E:=t prog w
    wp_walk using E
    exact⟨_,O,by simpa using h⟩
  case fin=>
   rintro⟨b1,b2⟩ s' ⟨k,rfl,vs,ws,f,m,a⟩;simp only at k;subst k;have F:c=decide (items.size<items2.size):=by
    cases m with
    |nn=>simp only[bf]at a;exact(ai (by lia)).symm
    |nc _ _=>simp only[bf,lC1]at a;exact(ah (by lia)).symm
    |cn _ _=>simp only[bf,lC1]at a;exact(ai (by lia)).symm
    |eq _ _=>rw[bO]at f;cases f
    |lt _ _=>rw[bO]at f;cases f
   rw[F]at h
   wp_walk
   exact⟨_,O,by simpa[Builtin.Tuple.tupleCompareSizes]using h⟩
  case h=>exact⟨O,O,items.toList,items2.toList,O,B,by simp;lia⟩
theorem zu(l b:cN)(items items2:Array cK)(n D:Nat)(dd z:Option cN)(sl x:Array (Option cK))(c:Bool)(k:Nat):
  ∀i:Nat,items.size-i=k->i<=items.size->i<=items2.size->Meets (Builtin.«list.__eq__.loop» ⟨[.ref l,.ref b,rawInt i,rawInt 0],[]⟩)
   (λA R s=>s.heap.get? l=Z {cls:=.type "list",dict:=dd,data:=.seq items n,slots:=sl}/\s.heap.get? b=Z {cls:=.type "list",dict:=z,data:=.seq items2 D,slots:=x} /\
    xp A s (items.toList.drop i) (items2.toList.drop i) c/\R (.ok (.ret (.bool c))) s):=by
 induction k with
 |zero=>
  intro i C r B prog w A R s h;obtain⟨G,g,d,tk,F⟩:=s;obtain⟨f,j,a,h⟩:=h
  wp_walk using wpAny_loadPart' f,wpAny_loadPart' j
  have p:items[((i:Nat):Int).toNat]?=Y:=by simp;lia
  have u:items.toList.drop i=[]:=by simp;lia
  rw[u]at a;rw[p]
  wp_walk using wpAny_loadPart' f,wpAny_loadPart' j
  have I:c=decide (items.size<items2.size):=by
   cases h2:items2.toList.drop i with
   |nil=>
    rw[h2]at a;cases a;have:=congrArg List.length h2;simp at this;exact(ai (by lia)).symm
   |cons y ys=>
    rw[h2]at a;cases a;have:=congrArg List.length h2;simp at this;exact(ah (by lia)).symm
  show R (.ok (.ret (.bool (decide (items.size<items2.size))))) _;rw[<- I];exact h
 |succ k ih=>
  intro i C r B prog w A R s h;obtain⟨G,g,d,tk,F⟩:=s;obtain⟨f,j,a,h⟩:=h;have o:i<items.size:=by lia
  have u:items.toList.drop i=items[i]::items.toList.drop (i+1):=by simp[List.drop_eq_getElem_cons,o]
  have p:items[((i:Nat):Int).toNat]?=Z items[i]:=by simp[o]
  have hc:((i:Int)+1)=((i+1:Nat):Int):=by push_cast;rfl
  rw[u]at a;rcases bP i items2.size with m|E
  ·have v:items2.toList.drop i=items2[i]::items2.toList.drop (i+1):=by simp[List.drop_eq_getElem_cons,m]
   have q:items2[((i:Nat):Int).toNat]?=Z items2[i]:=by simp[m]
   rw[v]at a
   wp_walk using wpAny_loadPart' f,wpAny_loadPart' j
   rw[p,q];cases a with
   |eq e t=>
    refine wB1 (e prog w _ _ ?_)
    wp_walk
    rw[hc];exact⟨plainId_quiet plain_eq_loop _,wD1 entry_eq_loop (by rw[Around.under_plainId plain_eq_loop _];exact ih (i+1) (by lia) (by lia) (by lia) prog w A R _ ⟨f,j,t,h⟩)⟩
   |lt e t=>
    refine wB1 (e prog w _ _ ?_);have H:=t prog w
    wp_walk using wpAny_loadPart' f,wpAny_loadPart' j
    rw[p,q]
    wp_walk using H
    simpa using h
  ·have q:items2[((i:Nat):Int).toNat]?=Y:=by simp;lia
   have v:items2.toList.drop i=[]:=by simp;lia
   rw[v]at a;cases a
   wp_walk using wpAny_loadPart' f,wpAny_loadPart' j
   rw[p,q]
   wp_walk using wpAny_loadPart' f,wpAny_loadPart' j
   show R (.ok (.ret (.bool (decide (items.size<items2.size))))) _;rw[ai (by lia)];exact h
theorem Gu(l b:cN)(items items2:Array cK)(n j:Nat)(dd a:Option cN)(sl e:Array (Option cK))(c:Bool):
  Meets (Builtin.«list.__lt__» ⟨[.ref l,.ref b],[]⟩) (fun A R s=>s.heap.get? l=some {cls:=.type "list",dict:=dd,data:=.seq items n,slots:=sl}/\s.heap.get? b=some {cls:=.type "list",dict:=a,data:=.seq items2 j,slots:=e} /\
    xp A s items.toList items2.toList c/\R (.ok (.ret (.bool c))) s):=by
 intro prog w A R s h;obtain⟨m,g,d,tk,p⟩:=s;obtain⟨i,f,k,h⟩:=h;have o:=AutoSeq1.sub_list_list
 wp_walk using wpAny_loadPart' i,wpAny_loadPart' f
 exact⟨plainId_quiet plain_eq_loop _,wD1 entry_eq_loop (by rw[Around.under_plainId plain_eq_loop _];exact zu l b items items2 n j dd a sl e c _ 0 O (bj _) (bj _) prog w A R _ ⟨i,f,by simpa using k,h⟩)⟩
theorem EN{A:cP}{s:cM}{k:Bool}{l b:cN}{xs ys:Array cK}{c:Bool}(y:SCo k s.heap l xs)(v:SCo k s.heap b ys)(u:A.units<cLine)(h:xp A s xs.toList ys.toList c):Dy A s (.ref l) (.ref b) c:=λprog w E Q q=>by
 cases k
 ·obtain⟨⟨t,dd,j,sl⟩,p,hc,n,o⟩:=id y;obtain⟨⟨m,f,g,i⟩,d,e,r,a⟩:=id v;simp only at hc o e a;subst hc o e a;exact richCompare_meets_room (op:=.Lt) ⟨_,p,O⟩ ⟨_,d,O⟩ PySem.F.slot_tuple_lt PySem.F.entry_tuple_lt (PySem.F.args_tuple_lt_2 _ _) (Ex l b xs ys n r dd f sl i c) ⟨p,d,h,show Value.bool c≠Value.notImplemented/\Q (.bool c) s from⟨(λx=>nomatch x),q⟩⟩ u
 ·obtain⟨⟨t,dd,j,sl⟩,p,hc,n,o⟩:=id y;obtain⟨⟨m,f,g,i⟩,d,e,r,a⟩:=id v;simp only at hc o e a;subst hc o e a;exact richCompare_meets_room (op:=.Lt) ⟨_,p,O⟩ ⟨_,d,O⟩ PySem.F.slot_list_lt PySem.F.entry_list_lt (PySem.F.args_list_lt_2 _ _) (Gu l b xs ys n r dd f sl i c) ⟨p,d,h,show Value.bool c≠Value.notImplemented/\Q (.bool c) s from⟨(λx=>nomatch x),q⟩⟩ u
def JM(f g:D->D->Option Bool):List D->List D->Option Bool
 |[],[]=>Z J
 |[],_::_=>Z M
 |_::_,[]=>Z J
 |x::xs,y::ys=>(f x y).bind λb=>if b=M then JM f g xs ys else g x y
def La:D->D->Option Bool
 | .int i,.int j=>Z (decide (i<j))
 | .str x,.str y=>Z (decide (x.cps.toList<y.cps.toList))
 |_,_=>Y
def HB(S:Sto):Nat->D->D->Option Bool
 |0,_,_=>Y
 |n+1,d,e=>match La d e with
  |some b=>Z b
  |none=>match dn S d,dn S e with
   |some p,Z q=>if p.1=q.1 then JM (g6 S n) (HB S n) p.2 q.2 else Y
   |_,_=>Y
def oo:G2:=λd e S=>(HB S dX d e).map λb=>(.bl b,S)
section
variable{X:Cx}{ag:List (cN×Obj)}{σ:L2.St}{H:Hp}{s:cM}{mu:List cN}{S:Sto}
theorem Gs(I:Inv X ag σ H s)(hs:Sim X.K H mu S){n:Nat}{A:cP}(l:A.units+1+n<cLine)(ih:∀ {d e:D} {v w:V} {u z:cK} {b:Bool},eA X.K H mu d v->eA X.K H mu e w->dD v u->dD w z->HB S n d e=some b->Dy A.in1 s u z b):
  ∀{xs ys:List D} {vs ws:List V} {us zs:List cK} {b:Bool},dt X.K H mu xs vs->dt X.K H mu ys ws->dU vs us->dU ws zs->JM (g6 S n) (HB S n) xs ys=Z b->xp A s us zs b
 :=by
 intro xs
 induction xs with
 |nil=>
  intro ys vs ws us zs b a r2 f c h;cases a;cases f;cases r2 with
  |nil=>cases c;cases h;exact .nn
  |cons _ _=>cases c;cases h;exact .nc _ _
 |cons x xs q=>
  intro ys vs ws us zs b a r2 f c h;cases a with
  |cons a o=>
   cases f with
   |cons i m=>
    cases r2 with
    |nil=>cases c;cases h;exact .cn _ _
    |cons r2 p=>
     cases c with
     |cons g p2=>
      rw[JM]at h;obtain⟨k,j,h⟩:=oB1.mp h;have eq:=(nP I hs n (A:=A.in1) l a r2 i g j).1;cases k with
      |true=>exact .eq eq (q o p m p2 h)
      |false=>exact .lt eq (ih a r2 i g h)
theorem zt(I:Inv X ag σ H s)(hs:Sim X.K H mu S):∀(n:Nat) {A:cP} {d e:D} {v w:V} {u z:cK} {b:Bool},A.units+n<cLine->eA X.K H mu d v->eA X.K H mu e w->dD v u->dD w z->HB S n d e=Z b->Dy A s u z b
 |0,_,_,_,_,_,_,_,_,_,_,_,_,_,h=>by cases h
 |n + 1,A,d,e,v,w,u,z,b,W,f,j,i,r,h=>by
  rw[HB]at h;split at h
  ·rename_i k c;cases h;unfold La at c;split at c
   ·cases c;cases f;cases j;obtain⟨t,rfl⟩:=i;obtain⟨m,rfl⟩:=r;exact λprog w E Q q=>(PyProof.Rows.lt_int q:cU (model prog w) A (compareOp .Lt (.int _ t) (.int _ m)) Q E s)
   ·cases c;cases f;cases j;obtain⟨t,rfl⟩:=i;obtain⟨m,rfl⟩:=r;exact λprog w E Q q=>(PyProof.Rows.lt_str q:cU (model prog w) A (compareOp .Lt (.str _ t) (.str _ m)) Q E s)
   ·cases c
  ·split at h
   ·rename_i p q U L;split at h
    ·rename_i K;obtain⟨G,xs⟩:=p;obtain⟨qb,ys⟩:=q;have l:G=qb:=K;subst l;obtain⟨a,vs,rfl,R,ar⟩:=dA f hs U;obtain⟨a2,P,rfl,y,T⟩:=dA j hs L;cases i;cases r;obtain⟨B,N,F,_⟩:=eZ I R;obtain⟨x,g,o,_⟩:=eZ I y;refine EN F o (by lia) ?_;have:=Gs I hs (A:=A) (n:=n) (by lia) (λam r2 C ao h=>zt I hs n (A:=A.in1) (by show A.units+1+n<cLine;lia) am r2 C ao h) ar T N g h;simpa using this
    ·cases h
   ·cases h
theorem jb(k:X.A.units+64<cLine):fJ X (compareOp .Lt) (r2 X.K (b2 oo)):=by
 intro ag s σ H x y u w Q I g j h;obtain⟨mu,S,d,e,r,l,i,r2,c,a,hc⟩:=oy h;obtain⟨b,f,a⟩:=oM1.mp a;cases a;exact zt I c dX (by show _+60<cLine;lia) i r2 g j f X.prog X.w X.xe _ ⟨.bl b,H,I,O,hc.now (.bl b) c⟩
end
inductive Ty where
 |int|bool|str|tuple|list|dict
 deriving DecidableEq
def Ty.nm:Ty->String
 | .int=>"int" | .bool=>"bool" | .str=>"str" | .tuple=>"tuple" | .list=>"list" | .dict=>"dict"
noncomputable def io (S:Sto)(T:Ty):D->Option Bool
 | .non=>some false
 | .bl _=>some (decide (T = .bool)||decide (T = .int))
 | .int _=>some (decide (T = .int))
 | .str _=>some (decide (T = .str))
 | .tup _=>some (decide (T = .tuple))
 | .rol _=>some (decide (T = .list))
 | .ref n=>match S[n]? with
  |some (.lst _)=>some (decide (T = .list))
  |some (.dct _)=>some (decide (T = .dict))
  |some (.dcT _)=>some (decide (T = .dict))
  |_=>none
 | .fn _=>none
def d7(T:Ty)(m:FE):FE:=λr S=>(m r S).bind λp=>(io p.2 T p.1).map λb=>(.bl b,p.2)
section
variable{X:Cx}{ag:List (cN×Obj)}{σ:L2.St}{H:Hp}{s:cM}{mu:List cN}{S:Sto}{K:Fg1}
theorem CD(T:Ty):PySem.W.kitOne K (.type "NoneType") (.type T.nm)=Z J:=by cases T<;>rfl
theorem GA(T:Ty):PySem.W.kitOne K (.type "bool") (.type T.nm)=Z (decide (T = .bool)||decide (T = .int)):=by cases T<;>rfl
theorem CG(T:Ty):PySem.W.kitOne K (.type "int") (.type T.nm)=Z (decide (T = .int)):=by cases T<;>rfl
theorem CC(T:Ty):PySem.W.kitOne K (.type "str") (.type T.nm)=Z (decide (T = .str)):=by cases T<;>rfl
theorem CB(T:Ty):PySem.W.kitOne K (.type "tuple") (.type T.nm)=Z (decide (T = .tuple)):=by cases T<;>rfl
theorem CF(T:Ty):PySem.W.kitOne K (.type "list") (.type T.nm)=Z (decide (T = .list)):=by cases T<;>rfl
theorem vz(T:Ty):PySem.W.kitOne K (.type "dict") (.type T.nm)=Z (decide (T = .dict)):=by cases T<;>rfl
theorem CM{T:Ty}{d:D}{v:V}{u:cK}{b:Bool}{Q:cK->cM->Prop}{E:cK->cM->Prop}(I:Inv X ag σ H s)(hs:Sim X.K H mu S)(r:eA X.K H mu d v)(f:dD v u)(h:io S T d=some b)(q:∀ tk,Q (.bool b) {s with toks:=tk}):
  cU (model X.prog X.w) X.A (call (.builtin "isinstance") [u,.type T.nm]) Q E s:=by
 have seq:∀{k:Bool} {a:cN} {vs:List V},A2 X.K k H a vs->b=(match k with|true=>decide (T = .list)|false=>decide (T = .tuple))->cU (model X.prog X.w) X.A (call (.builtin "isinstance") [.ref a,.type T.nm]) Q E s:=λ{k a vs} g m=>by
  obtain⟨w,B,p,_⟩:=eZ I g;cases k
  ·obtain⟨o,e,c,_⟩:=p;subst m;exact PySem.W.kia_one PySem.W.kitx_tuple I.kIn ⟨o,e,c⟩ (CB T) (λz=>nomatch z) q
  ·obtain⟨o,e,c,_⟩:=p;subst m;exact PySem.W.kia_one PySem.W.kitx_list I.kIn ⟨o,e,c⟩ (CF T) (λz=>nomatch z) q
 cases d with
 |non=>cases h;cases r;exact iG I f .non (CD T) q
 |bl k=>cases h;cases r;exact iG I f (.bl k) (GA T) q
 |int i=>cases h;cases r;exact iG I f (.int i) (CG T) q
 |str x=>cases h;cases r;exact iG I f (.str x) (CC T) q
 |tup xs=>
  cases h;obtain⟨a,vs,rfl,g,t⟩:=dA (S:=S) r hs O;cases f;exact seq g O
 |fn x=>cases h
 |rol xs=>
  cases h;obtain⟨a,vs,rfl,g,t⟩:=dA (S:=S) r hs O;cases f;exact seq g O
 |ref n=>
  rw[io]at h;split at h
  ·rename_i xs e;cases h;obtain⟨a,vs,rfl,g,t⟩:=dA (S:=S) r hs (by rw[dn,e]);cases f;exact seq g O
  ·rename_i ks e;cases h;cases r with
   |ref j=>
    obtain⟨ws,l,_⟩:=hs.dct e j;exact iG I f (.dK l) (vz T) q
  ·rename_i ks e;cases h;cases r with
   | @ref _ a j=>
    cases(show u=Value.ref a from f);obtain⟨ws,l,_⟩:=hs.dcT e j;obtain⟨⟨_,_,o,_,_,A,y,_⟩,_⟩:=(show ez X.prog X.w H s.heap a (.ext (i1 a ws))from I.hok a _ l);exact PySem.W.kia_one PySem.W.kitx_dict I.kIn ⟨o,A,y.1⟩ (vz T) (λz=>nomatch z) q
  ·cases h
theorem AC(T:Ty):eH X (.builtin "isinstance") (λxs H Q=>∃x mu S d b,xs=[x,.ty T.nm]/\eA X.K H mu d x/\Sim X.K H mu S/\io S T d=Z b/\Q (.bl b) H):=by
 intro ag s σ H xs g Q I r h;obtain⟨x,mu,S,d,b,rfl,a,e,f,hc⟩:=h;obtain⟨u,i,rfl,c,rt⟩:=xH r;cases rt;exact CM I e a c f λtk=>⟨.bl b,H,I.tok tk,O,hc⟩
theorem wE (T:Ty){e:Expr}{m:FE}{nm:Str}{p p2 pos:Pos}(hg:Gl X "isinstance")(hm:X.mg "isinstance"=none)(hg2:Gl X nm)(hm2:X.mg nm=none)(hv2:bootBuiltins nm=some (.type T.nm))(h:ME X e m)
  (hn:nm≠"__name__":=by decide) (hd:(nm == ("__debug__":Str))=J:=by decide)
  (hs1:cS [e,.Name nm p2] X.env=(J,eval e X.env)::cS [.Name nm p2] X.env:=by rfl) (hs2:cS [.Name nm p2] X.env=(J,eval (.Name nm p2) X.env)::cS [] X.env:=by rfl)
  (hpl:(backTo pos (cS [.Name nm p2] X.env)).any (·.1)=J:=by rfl):ME X (.Call (.Name "isinstance" p) [e,.Name nm p2] [] pos) (d7 T m):=
 em (kX (AC T) hg hm (by decide+kernel) (iR h (iR (BZ (v:=.ty T.nm) hg2 hm2 hv2 O hn hd) lA hs2) hs1) (by decide) (by decide) hs1 hpl) <| by
  rintro σ H Q ⟨r,mu,S,d,o,k,j,hm,hc⟩;obtain⟨⟨a,n⟩,f,hm⟩:=oB1.mp hm;obtain⟨b,i,hm⟩:=oM1.mp hm;cases hm;refine⟨r,mu,S,a,_,k,j,f,λv H1 mu1 l g c=>?_⟩;exact⟨v,mu1,_,a,b,O,g,c,i,hc _ H1 mu1 l (.bl b) c⟩
end
abbrev FO:=Ev->Sto->Option (Option Int×Sto)
def Ls(K:Fg1)(m:FO):TO:=fun σ H Q=>∃r mu S o S',fx K H mu r σ/\Sim K H mu S/\m r S=Z (o,S') /\ ∀H' mu',Ext mu mu' H H'->Sim K H' mu' S'->Q o H'
abbrev MO(X:Cx)(e:Option Expr)(m:FO):Prop:=PO X e (Ls X.K m)
def kg:FO:=λ_ S=>Z (Y,S)
def kf(m:FE):FO:=λr S=>(m r S).bind λp=>match p.1 with
 | .int i=>Z (Z i,p.2)
 |_=>Y
def iZ(xs:List D)(lo hi:Option Int):List D:=(xs.drop (HT.sIx xs.length 0 lo)).take (HT.sIx xs.length xs.length hi-HT.sIx xs.length 0 lo)
section
variable{X:Cx}
theorem Ci:MO X Y kg:=by
 rintro ag s σ H Q I ⟨r,mu,S,o,d,c,b,a,hc⟩;cases a;exact BQ ag s σ H Q I (hc H mu (.refl _ _) b)
theorem Ch{e:Expr}{m:FE}(h:ME X e m):MO X (Z e) (kf m):=by
 rintro ag s σ H Q I ⟨r,mu,S,o,n,j,g,a,hc⟩;obtain⟨⟨d,l⟩,b,a⟩:=oB1.mp a;cases d with
 |int i=>
  cases a;refine BP h ag s σ H Q I ⟨r,mu,S,_,_,j,g,b,λv H1 mu1 k c f=>?_⟩;cases c;exact⟨i,O,hc H1 mu1 k f⟩
 |_=>cases a
theorem vW{K:Fg1}{H:Hp}{mu:List cN}{ds:List D}{vs:List V}(t:dt K H mu ds vs)(lo hi:Option Int):dt K H mu (iZ ds lo hi) (sH vs lo hi):=by
 unfold iZ sH;rw[<- t.length];exact(t.drop _).take _
end
def mI:G2:=λo v S=>match o with
 | .ref n=>match S[n]? with
  |some (.lst xs)=>if xs.length<cT then Z (.non,S.set n (.lst (xs++[v])))else Y
  |_=>Y
 |_=>Y
noncomputable def vr (f:FN)(o:FE)(a:FA):FE:=λr S=>(o r S).bind λp=>match p.1 with
 | .ref n=>match p.2[n]? with
  |some (.lst _)=>(a r p.2).bind λq=>f (p.1::q.1) q.2
  |_=>none
 |_=>none
section
variable{X:Cx}
theorem HL:Hz X "list.append" (λx xs H Q=>rN X.K (b2 mI) (x::xs) H Q):=by
 intro ag s σ H x xs v k Q I i l h;obtain⟨p,y,mu,S,d,e,q,r,g,j,r2,f,a,hc⟩:=Bx h;cases g;cases d with
 |ref n=>
  rw[mI]at a;split at a
  ·rename_i ys o;split at a
   ·rename_i m;cases a;cases j with
    |ref c=>
     obtain⟨vs,b,t⟩:=f.lst o c;refine oS ag s σ H _ [y] v k Q I i l ⟨_,vs,y,O,O,b,by rw[<- t.length];exact m,?_⟩;exact hc _ _ mu (Ext.put b trivial (gM1 c)) .non (f.putL (t.append (.cons r2 .nil)) c b)
   ·cases a
  ·cases a
 |_=>cases a
theorem ze {o e:Expr}{es:List Expr}{m:FE}{a:FA}{f:FN}{name:Str}{apos cpos:Pos}{id:String}(slot:Slot "list" name id)(hty:typeOf (.builtin id)=pure (.type "method_descriptor"))(hm:Hz X id (fun x xs H Q=>rN X.K f (x::xs) H Q))(ho:ME X o m)(ha:MA X (e::es) a)
  (hbase:attributeBase o name X.env (eval o X.env)=eval o X.env:=by rfl)
  (hfew:((backTo cpos (cS (e::es) X.env)).all (λx=> !x.1)&&(backToKw cpos (keywordEach [] X.env)).all (λx=>x.1.isSome)&&decide ((e::es).length+([]:List Keyword).length+(if([]:List Keyword).isEmpty then 0 else 1)<30))=M:=by rfl)
  (hline:(apos.endLine == cpos.line)=M:=by rfl) (hs:cS (e::es) X.env=(J,eval e X.env)::cS es X.env:=by rfl) (hplain:(backTo cpos (cS es X.env)).any (·.1)=J:=by rfl):
  ME X (.Call (.Attribute o name apos) (e::es) [] cpos) (vr f m a):=
 em (Ip PySem.F.plainAttrs_list slot hty hm ho ha hbase hfew hline hs hplain) <| by
  rintro σ H Q ⟨r,mu,S,d,B,i,hs,hm,hc⟩;obtain⟨⟨g,j⟩,A,hm⟩:=oB1.mp hm;refine⟨r,mu,S,g,j,i,hs,A,λv H1 mu1 l h p=>?_⟩;cases g with
  |ref n=>
   dsimp only at hm;split at hm
   ·rename_i xs u;obtain⟨⟨ds,k⟩,s,hm⟩:=oB1.mp hm;refine⟨?_,r,mu1,j,ds,k,i.ext l,p,s,λvs H2 b x2 r2 q=>?_⟩
    ·cases h with
     |ref z=>
      obtain⟨vs,y,t⟩:=p.lst u z;exact .inl ⟨O,vs,lp.of y⟩
    ·exact⟨b,k,.ref n::ds,d,B,.cons (h.ext x2) r2,q,hm,λD w c C=>hc D w c ((l.trans x2).trans C)⟩
   ·cases hm
  |_=>cases hm
end
theorem BN{X:Cx}(hc:X.calm=true){elt tg iter:Expr}{ifs:List Expr}{rest:List Comprehension}{scope:cZ}{pos l P:Pos}{y:Str}{i:Nat}{T:List Str}{keep:List Nat}{w:List (Str×cN)}{wi:TI}{g:TG}{ti:TT}{tb:cN->TS}{emit:cK->Env->Sem Unit}(wq:swapsWith (.ListComp elt (⟨tg,iter,ifs,0⟩::rest) scope pos) (some (.Name y P)) l.line X.env=pure true)(eq:∀it t k,compTurn (.ListComp elt (⟨tg,iter,ifs,0⟩::rest) scope pos) 0 it t k=kJ iter.pos tg ifs it k (emit t k) (.compLoop (.ListComp elt (⟨tg,iter,ifs,0⟩::rest) scope pos) 0 it t k))(C:HD X scope T keep)(G:jI X.env.cells scope.names []=some w)(hi:PI X tg iter wi)(hb:∀s H d p,PG (cxC X scope w T keep s H d) tg g/\ol (cxC X scope w T keep s H d) ifs ti/\PU (cxC X scope w T keep s H d) (emit (.ref p) (cxC X scope w T keep s H d).env) (tb p))(hN:X.N.Nodup)(hy:X.N[i]?=some y)(hx:uL X.env.scope y)(hf:X.fn y=true\/X.env.scope.names.lookup y=some .local)(hs:∀x,foldedSetIterable iter X.env x=pure x:=by intro _;rfl):
  PS X (.Assign [.Name y P] (.ListComp elt (⟨tg,iter,ifs,0⟩::rest) scope pos) l) (x0 (xZ T.length keep wi g ti tb) (vG i)):=by
 intro ag s σ H D I h;rw[exec_Assign_Name_used _ _ _ _ wq];refine wB1 (wpAny_standAt (wB1 ?_));show cU _ X.A (do let _<-comprehension (.ListComp elt (⟨tg,iter,ifs,0⟩::rest) scope pos) scope X.env _ (newList []) J (eval iter X.env) (Z (assign (.Name y P) X.env))) _ _ s;refine wB1 (wpAny_mono (wpAny_comprehension_free (use:=Z (assign (.Name y P) X.env)) (Q:=λ_ s'=>SP X ag D .next s') O hs (As G) C.kind C.names ?_) (λ_ s' hq=>wP1 (wP1 hq)) λ_ _ e=>e);refine eN (hi ag s σ H _ I h) λv s1 h1=>eN h1 λitv a h2=>?_;obtain⟨it,d,tn,am,H2,rfl,I2,TT,F,f2,q2⟩:=h2;refine wO1 ?_;have A:Inv X ag σ (upd H2 a.heap.objs.size (.lst [])) {a with heap:=a.heap.push {cls:=.type "list",data:=.seq ([]:List cK).toArray}}:=I2.lnew (t':=a.toks) .nil (bj _);have old:∀b∈d,∃o,a.heap.get? b=Z o:=λb hb=>by
  obtain⟨o,e,_⟩:=TT.obj 0 a.heap F b hb;exact⟨o,e⟩
 have W:∀b∈d,b≠a.heap.objs.size:=λb hb z=>by
  obtain⟨o,e⟩:=old b hb;have:=hL1 e;rw[z]at this;exact ay _ this
 have ar:∀b∈d,kF X ag (upd H2 a.heap.objs.size (.lst [])) b:=λb hb=>⟨by rw[dG (W b hb)];exact(f2 b hb).1,(f2 b hb).2⟩;have o3:∀b∈d,∃o,({a with heap:=a.heap.push {cls:=.type "list",data:=.seq ([]:List cK).toArray}}:cM).heap.get? b=Z o:=λb hb=>by
  obtain⟨o,e⟩:=old b hb;exact⟨o,hP1 _ e⟩
 have R:=sn A C G ar o3;obtain⟨hg,V,he⟩:=hb {a with heap:=a.heap.push {cls:=.type "list",data:=.seq ([]:List cK).toArray}} (upd H2 a.heap.objs.size (.lst [])) d a.heap.objs.size;refine kh ?_;have f4:∀b∈d,kF (cxC X scope w T keep {a with heap:=a.heap.push {cls:=.type "list",data:=.seq ([]:List cK).toArray}} (upd H2 a.heap.objs.size (.lst [])) d) [] (upd H2 a.heap.objs.size (.lst [])) b:=λb hb=>
  ⟨(ar b hb).1,(R.ok.exf b hb).1,R.ok.exfs b hb,.inl hb,(R.ok.exf b hb).2,λp L=>absurd (show p∈([]:List (cN×Obj))from L) (by simp)⟩
 have ao:tn 0 (pushCells ((a.heap.push {cls:=.type "list",data:=.seq ([]:List cK).toArray}).push {cls:=.type "dict",data:=.dict #[]}) scope.names):=
  TT.keep 0 a.heap _ F λb hb o e=>pushCells_keeps scope.names _ b o (hP1 _ (hP1 _ e))
 have n:=lP (X:=cxC X scope w T keep {a with heap:=a.heap.push {cls:=.type "list",data:=.seq ([]:List cK).toArray}} (upd H2 a.heap.objs.size (.lst [])) d) O hc (eq (.ref it) (.ref a.heap.objs.size) _) TT hg V he R ao f4
  (q2 a.heap.objs.size (I2.hok.fresh (nR1 _)))
 refine codeAny_mono (codeAny_compStart_list n (TT.self X.A 0 _ _ _ ao n)) λr s' hr=>?_;cases r with
 |error e=>exact hr.elim
 |ok f=>
  obtain⟨σ',H',B,q'⟩:=hr;have J1:Inv X ag σ H' s':=A.call' (s':=s') (ch:=d) B.os B.base B.hok B.bare λb hb=>(ar b hb).2.2.2 |> λz=>⟨z.1,(ar b hb).2.1,z.2.1,z.2.2⟩
  -- the block's own dict is kept aside
  obtain⟨m,hn,_⟩:=id B.loc;obtain⟨N,es,ep,eC,dC,rC⟩:=id hn;have hCz:(a.heap.push {cls:=.type "list",data:=.seq ([]:List cK).toArray}).get? (a.heap.push {cls:=.type "list",data:=.seq ([]:List cK).toArray}).objs.size=Y:=Heap.get?_none_of_le (nR1 _);have K:(a.heap.push {cls:=.type "list",data:=.seq ([]:List cK).toArray}).objs.size≠X.env.locals:=λz=>by
   have:=A.lt;rw[<- z]at this;exact ay _ this
  have U:H' (a.heap.push {cls:=.type "list",data:=.seq ([]:List cK).toArray}).objs.size=Y:=B.free;have J2:Inv X (ag++[((a.heap.push {cls:=.type "list",data:=.seq ([]:List cK).toArray}).objs.size,N)]) σ H' s':=J1.pins_of λp L=>by
   rcases aE.mp L with z|z
   ·exact J1.pin p (mA1 _ z)
   ·have z':p=((a.heap.push {cls:=.type "list",data:=.seq ([]:List cK).toArray}).objs.size,N):=by simpa using z
    subst z';exact⟨eC,U,K,A.nofs (nR1 _),λv q=>by rw[dC]at q;cases q⟩
  refine eN (u8 hN hy hx hf _ s' σ H' (.ref a.heap.objs.size) (.ref a.heap.objs.size) D.nx J2 O q') λ_ s5 ⟨E,H5,J5,q5⟩=>?_;obtain⟨e5,n5,_⟩:=J5.pin ((a.heap.push {cls:=.type "list",data:=.seq ([]:List cK).toArray}).objs.size,N) (mA1 _ (mA1 _ mS1));refine⟨m,⟨N,es,ep,e5,dC,rC⟩,λh' S=>?_⟩;have J6:Inv X ag E H5 s5:=J5.unpinned;refine⟨E,H5,J6.turned (t':=s5.toks) (λb o hb e=>(S.2 b hb).trans e) n5 K (.inr ?_) (λx c u z=>?_) (λp L z=>?_),q5⟩
  ·exact A.sz
  ·obtain⟨w',zc⟩:=A.cell x c u;have j:=zc.lt;rw[z]at j;exact ay _ j
  ·obtain⟨aq,_⟩:=A.pin p L;have j:=hL1 aq;rw[z]at j;exact ay _ j
section
variable{X:Cx}
theorem Hh{K:Fg1}{te:TE}{m:FE}{i:Nat}(hm:∀ σ H Q,tM K m σ H Q->te σ H Q){E:jn}{σ:L2.St}{H:Hp}(h:uW K (dY m (gN i)) E σ H):x0 te (vG i) E σ H:=by
 obtain⟨r,mu,S,d,g,h1,h2,o,k⟩:=ql h;refine hm _ _ _ ⟨r,mu,S,d,g,h1,h2,o,λv H' mu' f e j=>?_⟩;obtain⟨r2,a,q,s,t,u,l,b,p,c,n⟩:=k v H' mu' f e j;cases c;exact n _ H' a (.refl _ _) (l.set p) b
theorem mv (i:Nat){x:Str}{pos:Pos}(hN:X.N[i]? = some x:=by rfl)(hv:Vis X.env.scope x:=by first | exact Or.inl rfl | exact Or.inr (Or.inl rfl) | exact Or.inr (Or.inr rfl))(hd:(x == ("__debug__":Str))=false:=by decide)(hcd:(x == ("__classdict__":Str))=false:=by decide):
  ME X (.Name x pos) (mV i):=Gd i hN hv hd hcd
end
def Own(P:cO)(w:cQ)(K:Fg1)(mg:Str->Option cK)(base:cW)(k:Nat)(x:Str)(n:Nat)(m:FN):Prop:=
 ∃(f:cN) (fd:cX) (ps:List Str),lT P w K mg base sZ k f fd ps (spM K n m)/\jN K fd ps []/\wK1 K (.ref f)=M/\mg x=Z (.ref f)
theorem Gg {X:Cx}{k k' n:Nat}{x:Str}{m:FN}{p pos:Pos}{e:Expr}{es:List Expr}{a:FA}(h:Own X.prog X.w X.K X.mg X.base k x n m)(hr:ga k' X.A)(hk:k<=k')(hg:Gl X x)(ha:MA X (e::es) a)(hdb:(x == ("__debug__":Str))=false:=by decide)
  (he:cS (e::es) X.env=(J,eval e X.env)::cS es X.env:=by rfl) (hpl:(backTo pos (cS es X.env)).any (·.1)=J:=by rfl):ME X (.Call (.Name x p) (e::es) [] pos) (mN (db n m) a):=by
 obtain⟨f,fd,ps,F,b,d,c⟩:=h;exact Cq F (hr.mono hk) hg c d b ha hdb he hpl
theorem Fx{P:cO}{w:cQ}{K:Fg1}{mg:Str->Option cK}{base:cW}{x a:Str}{st:cY}{f:cN}{fd:cX}{N ps:List Str}{k n:Nat}{b:FS}(F:wa K x a st f fd)(hb:jN K fd ps [])(hm:mg x=some (.ref f))(S:gC N ps (dE st))(hn:ps.length=n)(d:∀(e:cK) (A:cP) (c:List Env) (s:cM) (H:Hp) (E:XK),ga k (A.deeper (envOfC a (dE st) s.heap.objs.size f e)) ->
   xh (mJ sZ P w K mg base N a (dE st) f e A c s H E).nox (fh st) b):Own P w K mg base (k+1) x n (gz N.length b):=by
 subst hn;exact⟨f,fd,ps,Jb F S d,hb,F.kp,hm⟩
def CGl(K:Fg1)(mg:Str->Option cK)(x:Str)(d:D):Prop:=∃(v:V) (u:cK),mg x=Z u/\dD v u /\ ∀H mu,eA K H mu d v
theorem Cp {X:Cx}{x:Str}{d:D}{pos:Pos}(h:CGl X.K X.mg x d)(hg:Gl X x)(hd:(x == ("__debug__":Str))=J:=by decide):ME X (.Name x pos) (mC d):=by
 obtain⟨v,u,a,r,q⟩:=h;exact zh d (BV hg a r hd) q
def fL:List Bool->Ev->Ev
 |true::bs,o::r=>o::fL bs r
 |false::bs,_::r=>Y::fL bs r
 |[],_::r=>Y::fL [] r
 |_,[]=>[]
def kO:Ev->Bool
 |[]=>M
 |none::r=>kO r
 |some d::r=>d.und 0&&kO r
noncomputable def oT (ki ko:List Bool)(b:FS):FS:=fun r S=>if kO (fL ki r)=true then
  (b (fL ki r) []).bind λp=>match p.1 with
   | .rt d=>if d.und 0=true then some (.rt d,[],S)else none
   |f=>if kO (fL ko p.2.1)=true then some (f,fL ko p.2.1,S)else none
 else none
theorem jQ:∀(bs:List Bool) (r:Ev),(fL bs r).length=r.length
 |true::bs,o::r=>congrArg (· + 1) (jQ bs r)
 |false::bs,o::r=>congrArg (· + 1) (jQ bs r)
 |[],o::r=>congrArg (· + 1) (jQ [] r)
 |[],[]=>rfl
 |true::_,[]=>rfl
 |false::_,[]=>rfl
theorem jR:∀(bs:List Bool) (r:Ev) (i:Nat) (d:D),(fL bs r)[i]?=Z (Z d)->r[i]?=Z (Z d)
 |true::bs,o::r,0,d,h=>h
 |true::bs,o::r,i+1,d,h=>by
  rw[gC1];exact jR bs r i d (by rw[fL,gC1]at h;exact h)
 |false::bs,o::r,0,d,h=>by simp[fL]at h
 |false::bs,o::r,i+1,d,h=>by
  rw[gC1];exact jR bs r i d (by rw[fL,gC1]at h;exact h)
 |[],o::r,0,d,h=>by simp[fL]at h
 |[],o::r,i+1,d,h=>by
  rw[gC1];exact jR [] r i d (by rw[fL,gC1]at h;exact h)
 |[],[],i,d,h=>by simp[fL]at h
 |true::_,[],i,d,h=>by simp[fL]at h
 |false::_,[],i,d,h=>by simp[fL]at h
theorem lx:∀(r:Ev) (i:Nat) (d:D),kO r=M->r[i]?=Z (Z d)->d.und 0=M
 |none::r,0,d,_,h=>by simp at h
 |none::r,i+1,d,hs,h=>lx r i d hs (by simpa using h)
 |some e::r,0,d,hs,h=>by
  rw[kO,bA1]at hs;simp at h;subst h;exact hs.1
 |some e::r,i+1,d,hs,h=>by
  rw[kO,bA1]at hs;exact lx r i d hs.2 (by simpa using h)
theorem fx.mask{K:Fg1}{H:Hp}{mu mu':List cN}{r:Ev}{σ:L2.St}{bs:List Bool}(h:fx K H mu r σ)(hs:kO (fL bs r)=M):fx K H mu' (fL bs r) σ:=
 ⟨by rw[jQ];exact h.len,λi d e=>by
  obtain⟨v,c,b⟩:=h.val i d (jR bs r i d e);exact⟨v,c,b.cut (n:=0) (λk a=>absurd a (bw _)) (lx _ i d hs e)⟩⟩
theorem zk{K:Fg1}{m A:List Bool}{b:FS}{E:jn}{σ:L2.St}{H:Hp}(h:uW K (oT m A b) E σ H):uW K b E σ H:=by
 obtain⟨r,mu,S,f,B,C,y,j,c,hc⟩:=h;unfold oT at c;split at c
 ·rename_i w;obtain⟨⟨l,u,p⟩,q,c⟩:=oB1.mp c;refine⟨fL m r,[],[],l,u,p,y.mask w,.nil,q,?_⟩;have back:∀{H':Hp} {mu':List cN},Ext [] mu' H H'->Ext mu mu H H':=λ{H' mu'} x=>⟨bp,λa o e _=>x.old a o e (by simp),x.tup,x.frz,λ_ z=>.inl z⟩;have keep:∀{H':Hp} {mu':List cN},Ext [] mu' H H'->Sim K H' mu S:=λ{H' mu'} x=>⟨j.len,j.nd,λn o a h1 h2=>(j.ob n o a h1 h2).keep (back x) λo e=>x.old a o e (by simp)⟩;cases l with
  |rt d=>
   dsimp only at c;split at c
   ·rename_i i;cases c;exact λv H' mu' x r s=>hc v H' mu (back x) (r.cut (n:=0) (λk t=>absurd t (bw _)) i) (keep x)
   ·cases c
  |nx=>
   dsimp only at c;split at c
   ·rename_i i;cases c;exact λg H' mu' x r s=>hc g H' mu (back x) (r.mask i) (keep x)
   ·cases c
  |bk=>
   dsimp only at c;split at c
   ·rename_i i;cases c;exact λg H' mu' x r s=>hc g H' mu (back x) (r.mask i) (keep x)
   ·cases c
  |ct=>
   dsimp only at c;split at c
   ·rename_i i;cases c;exact λg H' mu' x r s=>hc g H' mu (back x) (r.mask i) (keep x)
   ·cases c
 ·cases c
theorem y3{X:Cx}{sts:List cY}{b:FS}(c a:List Bool)(h:xh X sts b):xh X sts (oT c a b):=pT h λ_ _ _=>zk
def CV(K:Fg1)(d:D)(u:cK):Prop:=∃v:V,dD v u /\ ∀H mu,eA K H mu d v
def JV(K:Fg1)(ds:List D)(us:List cK):Prop:=∃vs:List V,dU vs us /\ ∀H mu,dt K H mu ds vs
section
variable{K:Fg1}
theorem hY{i:Int}{t}:CV K (.int i) (.int i t):=⟨.int i,⟨t,O⟩,λ_ _=>.int i⟩
theorem kB{x:Str}{t}:CV K (.str x) (.str x t):=⟨.str x,⟨t,O⟩,λ_ _=>.str x⟩
theorem jV:JV K [] []:=⟨[],.nil,λ_ _=>.nil⟩
theorem eM{d:D}{u:cK}{ds:List D}{us:List cK}(h:CV K d u)(t:JV K ds us):JV K (d::ds) (u::us):=by
 obtain⟨v,r,q⟩:=h;obtain⟨vs,b,a⟩:=t;exact⟨v::vs,.cons r b,λH mu=>.cons (q H mu) (a H mu)⟩
theorem lO {a:cN}{c:Option cN}{us:List cK}{n:Nat}{sl:Array (Option cK)}{ds:List D}(h:K.lookup a=Z ⟨.type "tuple",c,.seq us.toArray n,sl⟩)(hs:us.length<=cT)(t:JV K ds us):CV K (.tup ds) (.ref a):=by
 obtain⟨vs,d,b⟩:=t;exact⟨.ref a,O,λH mu=>.tup (.inr ⟨_,us.toArray,n,h,O,O,by simpa using hs,by simpa using d⟩) (b H mu)⟩
theorem i0{mg:Str->Option cK}{x:Str}{d:D}{u:cK}(hm:mg x=Z u)(h:CV K d u):CGl K mg x d:=by
 obtain⟨v,r,q⟩:=h;exact⟨v,u,hm,r,q⟩
end
theorem iA{K:Fg1}{H:Hp}{mu:List cN}:∀ns:List Int,dt K H mu (ns.map D.int) (ns.map V.int)
 |[]=>.nil
 |n::ns=>.cons (.int n) (iA ns)
theorem Gz{K:Fg1}{m:FN}(hm:∀ ns:List Int,ns.length<=63 -> ∃ S,m [.rol (ns.map D.int)] []=some (.bl true,S))(H:Hp)(a:cN)(ns:List Int)(b:ns.length<=63)(c:Dz H)(d:lp K H a (ns.map V.int)):
  spM K 1 m [.ref a] H (λv _=>v = .bl M) λ_ _ _=>False:=by
 refine⟨O,?_⟩;obtain⟨S,e⟩:=hm ns b;have f:RoL K H a (ns.map V.int):=by
  rcases d with h|h
  ·rcases h with h|h
   ·rcases c a with z|⟨o,xs,z⟩
    ·rw[h]at z;cases z
    ·rw[h]at z;cases z
   ·exact .inl h
  ·exact .inr h
 refine⟨[],[],[.rol (ns.map D.int)],.bl M,S,.cons (.rol f (iA ns)) .nil,.nil,e,λv H' mu' x r s=>?_⟩;cases r;rfl
theorem walk_m{l:PySem.W.OpenLaw}{q:cO}{b:List Str}{XP:(Str->Option cK)->cW->Prop}{e:cQ->cW->Prop}{d:DefRec}{K:Params->Fg1}{m:FN}{k:Nat}{x:Str}(hn:l.most=some 63)(c:d.params.defaults=[])(hr:ga k callerA)(p:∀(w:cQ) (h:cW),e w h->(K w.params).In h)(hm:∀ns:List Int,ns.length<=63 -> ∃S,m [.rol (ns.map D.int)] []=some (.bl true,S))(F:∀(w:cQ) (mg:Str->Option cK) (g:cN) (h:cW),(K w.params).In h->h.Ns cR mg->mg d.name=some (.ref g) ->
   ∃fd:cX,(∀(s:cM) (u:cK),BindsTo s fd ⟨[u],[]⟩ [(x,u)]) /\ ∀base:cW,(K w.params).In base->base.Ns cR mg->lT l.prog w (K w.params) mg base sZ k g fd [x] (spM (K w.params) 1 m)):
  PySem.W.WalkO q b XP e l.row.toRowW d [] (λf vs=>PySem.call f vs):=
 L2.Bg (n:=63) (k:=k) (x:=x) (CX:=λ_=>sZ) (sp:=λw=>spM (K w.params) 1 m) hn (by decide) c hr p F (λ_ H a ns j o i=>Gz hm H a ns j o i) λ_ _ _ _ _ z=>z
structure XE (X:Cx)(e:Expr)(m:FE):Prop where
 h:ME X e m
structure XT (X:Cx)(e:Expr)(m:FT):Prop where
 h:MT X e m
structure XW (X:Cx)(e:Expr)(m:FT):Prop where
 h:MW X e m
structure XA (X:Cx)(e:List Expr)(m:FA):Prop where
 h:MA X e m
structure XS (X:Cx)(e:cY)(m:FS):Prop where
 h:MS X e m
structure uI (X:Cx)(e:List cY)(m:FS):Prop where
 h:xh X e m
structure XI (X:Cx)(tg e:Expr)(m:FI):Prop where
 h:MI X tg e m
structure XG (X:Cx)(e:Expr)(m:FG):Prop where
 h:MG X e m
structure JR (X:Cx)(e:List Expr)(m:AZ):Prop where
 h:Jv X e m
structure XO (X:Cx)(e:Option Expr)(m:FO):Prop where
 h:MO X e m
structure XF (X:Cx)(K:Fg1)(ifs:List Expr)(t:FT):Prop where
 h:ol X ifs (xX K t)
theorem d6{X:Cx}:XF X X.K [] eO:=⟨Ck⟩
theorem hE{X:Cx}{c:Expr}{t:FT}(h:XT X c t):XF X X.K [c] t:=⟨Cj h.h⟩
theorem wc{X:Cx}{sts:List cY}{b:FS}(c a:List Bool)(h:uI X sts b):uI X sts (oT c a b):=⟨y3 c a h.h⟩
section
variable{X:Cx}{pos:Pos}
theorem qK{i:Int}{j}:XE X (.Constant (.int i) j pos) (mC (.int i)):=⟨Gm⟩
theorem d4{b:Bool}{j}:XE X (.Constant (.bool b) j pos) (mC (.bl b)):=⟨IL⟩
theorem iL{j}:XE X (.Constant .none j pos) (mC .non):=⟨Gj⟩
theorem dM{x:Str}{j}:XE X (.Constant (.str x) j pos) (mC (.str x)):=⟨Gf⟩
end
section
variable{X:Cx}{pos:Pos}{e:Expr}{es:List Expr}{m:FE}{n:FA}
theorem qN:XA X [] da:=⟨Gp⟩
theorem qA(h:XE X e m)(ht:XA X es n)(hs:cS (e::es) X.env=(J,eval e X.env)::cS es X.env:=by rfl):XA X (e::es) (c9 m n):=⟨Cr (h:=h.h) (ht:=ht.h) (hs:=hs)⟩
end
section
variable{X:Cx}{K:Fg1}{f:FN}{a b:FE}{σ:L2.St}{H:Hp}{Q:VK}
theorem qI{op:Operator}{x y:Expr}{pos:Pos}(ho:fJ X (binaryOp op) (r2 X.K f))(hx:XE X x a)(hy:XE X y b):XE X (.BinOp x op y pos) (m2 f a b):=⟨II (ho:=ho) (hx:=hx.h) (hy:=hy.h)⟩
theorem lr{op:UnaryOp}{x:Expr}{pos:Pos}(ho:HC X (unaryOp op) (λx H Q=>rN X.K f [x] H Q))(hx:XE X x a):XE X (.UnaryOp op x pos) (m1 f a):=⟨IH (ho:=ho) (hx:=hx.h)⟩
theorem A7{op:CmpOp}{x y:Expr}{pos:Pos}(ho:fJ X (compareOp op) (r2 X.K f))(hx:XE X x a)(hy:XE X y b)(hm:behindInMarks op y=J):XE X (.Compare x [op] [y] pos) (m2 f a b):=⟨Gn (ho:=ho) (hx:=hx.h) (hy:=hy.h) (hm:=hm)⟩
theorem qJ{x y:Expr}{pos:Pos}(ho:Ed X (r2 X.K f))(hx:XE X x a)(hy:XE X y b)(hs:mY y):XE X (.Subscript x y pos) (m2 f a b):=⟨IJ (ho:=ho) (hx:=hx.h) (hy:=hy.h) (hs:=hs)⟩
theorem qD {x:Str}{p pos:Pos}{e:Expr}{es:List Expr}{id:String}{a:FA}(hc:eH X (.builtin id) (rN X.K f))(hg:Gl X x)(hm:X.mg x=Y)(hv:bootBuiltins x=Z (.builtin id))(ha:XA X (e::es) a)(hn:x≠"__name__":=by decide)(hdb:(x == ("__debug__":Str))=J:=by decide)(he:cS (e::es) X.env=(J,eval e X.env)::cS es X.env:=by rfl)(hpl:(backTo pos (cS es X.env)).any (·.1)=J:=by rfl):XE X (.Call (.Name x p) (e::es) [] pos) (mN f a):=⟨zg (hc:=hc) (hg:=hg) (hm:=hm) (hv:=hv) (ha:=ha.h) (hn:=hn) (hdb:=hdb) (he:=he) (hpl:=hpl)⟩
theorem qE {x:Str}{p pos:Pos}{e:Expr}{es:List Expr}{T:String}{a:FA}(hc:eH X (.type T) (rN X.K f))(hg:Gl X x)(hm:X.mg x=Y)(hv:bootBuiltins x=Z (.type T))(ha:XA X (e::es) a)(hn:x≠"__name__":=by decide)(hdb:(x == ("__debug__":Str))=J:=by decide)(he:cS (e::es) X.env=(J,eval e X.env)::cS es X.env:=by rfl)(hpl:(backTo pos (cS es X.env)).any (·.1)=J:=by rfl):XE X (.Call (.Name x p) (e::es) [] pos) (mN f a):=⟨wF (hc:=hc) (hg:=hg) (hm:=hm) (hv:=hv) (ha:=ha.h) (hn:=hn) (hdb:=hdb) (he:=he) (hpl:=hpl)⟩
end
section
variable{X:Cx}{x y c:Expr}{rest:List Expr}{pos:Pos}{a b:FT}{f g:FE}
theorem qX{op:CmpOp}{f:FN}{a b:FE}(ho:fJ X (compareOp op) (r2 X.K f))(hx:XE X x a)(hy:XE X y b)(hm:behindInMarks op y=J):XT X (.Compare x [op] [y] pos) (mB (m2 f a b)):=⟨F2 (ho:=ho) (hx:=hx.h) (hy:=hy.h) (hm:=hm)⟩
theorem xw(ha:XT X x a):XW X (.BoolOp .And [x] pos) a:=⟨Cc (ha:=ha.h)⟩
theorem et(ha:XT X x a):XW X (.BoolOp .Or [x] pos) a:=⟨FZ (ha:=ha.h)⟩
theorem uN(ha:XT X x a)(hb:XW X (.BoolOp .And (y::rest) pos) b):XW X (.BoolOp .And (x::y::rest) pos) (zp a b):=⟨F0 (ha:=ha.h) (hb:=hb.h)⟩
theorem ea(ha:XT X x a)(hb:XW X (.BoolOp .Or (y::rest) pos) b):XW X (.BoolOp .Or (x::y::rest) pos) (iV a b):=⟨IE (ha:=ha.h) (hb:=hb.h)⟩
theorem fG(h:XW X x a):XT X x a:=⟨Kz (h:=h.h)⟩
theorem dy(ha:XT X x a):XT X (.UnaryOp .Not x pos) (ev a):=⟨F1 (ha:=ha.h)⟩
theorem eE{op}(h:XE X x f):XE X (.BoolOp op [x] pos) f:=⟨Gh (h:=h.h)⟩
theorem d8(ha:XE X x f)(hb:XE X (.BoolOp .And (y::rest) pos) g):XE X (.BoolOp .And (x::y::rest) pos) (eY f g):=⟨Go (ha:=ha.h) (hb:=hb.h)⟩
theorem uP(ha:XE X x f):XE X (.UnaryOp .Not x pos) (r4 f):=⟨Gi (ha:=ha.h)⟩
theorem Ej(hc:XT X c a)(hx:XE X x f)(hy:XE X y g):XE X (.IfExp c x y pos) (JL a f g):=⟨IK (hc:=hc.h) (hx:=hx.h) (hy:=hy.h)⟩
end
section
variable{X:Cx}{x y z:Expr}{pos:Pos}{f g:FN}{a b c:FE}{op op':CmpOp}
theorem ls(ho:fJ X (compareOp op) (r2 X.K f))(ho':fJ X (compareOp op') (r2 X.K g))(hx:XE X x a)(hy:XE X y b)(hz:XE X z c)(hm:lastMarks [op,op'] [y,z]=J:=by with_unfolding_all rfl):XE X (.Compare x [op,op'] [y,z] pos) (me f g a b c):=⟨zf (ho:=ho) (ho':=ho') (hx:=hx.h) (hy:=hy.h) (hz:=hz.h) (hm:=hm)⟩
theorem iu(ho:fJ X (compareOp op) (r2 X.K f))(ho':fJ X (compareOp op') (r2 X.K g))(hx:XE X x a)(hy:XE X y b)(hz:XE X z c)(hm:lastMarks [op,op'] [y,z]=J:=by with_unfolding_all rfl):XT X (.Compare x [op,op'] [y,z] pos) (mB (me f g a b c)):=⟨y2 (ho:=ho) (ho':=ho') (hx:=hx.h) (hy:=hy.h) (hz:=hz.h) (hm:=hm)⟩
end
section
variable{X:Cx}{pos:Pos}{e c:Expr}{st:cY}{rest as bs:List cY}{a b:FS}{m:FE}{t:FT}
theorem qQ:uI X [] hB:=⟨Cf⟩
theorem qF(h1:XS X st a)(h2:uI X rest b):uI X (st::rest) (dq a b):=⟨y6 (h1:=h1.h) (h2:=h2.h)⟩
theorem qG(h1:XS X st a):uI X [st] a:=⟨Ce (h1:=h1.h)⟩
theorem xy(h:XE X e m)(hs:swapsWith e Y pos.line X.env=pure J:=by rfl):XS X (.Expr e pos) (iF m):=⟨Cg (h:=h.h) (hs:=hs)⟩
theorem qU(h:XE X e m):XS X (.Return (Z e) pos) (dJ m):=⟨F4 (h:=h.h)⟩
theorem qV(hc:XT X c t)(ha:uI X as a)(hb:uI X bs b):XS X (.If c as bs pos) (eg t a b):=⟨IF (hc:=hc.h) (ha:=ha.h) (hb:=hb.h)⟩
end
section
variable{X:Cx}{pos:Pos}
theorem qO(i:Nat){x:Str}(hN:X.N.Nodup)(hi:X.N[i]?=Z x)(hx:uL X.env.scope x)(hf:X.fn x=M\/X.env.scope.names.lookup x=Z .local:=by first|exact .inl rfl|exact .inr rfl|assumption):XG X (.Name x pos) (gN i):=⟨Co (i:=i) (hN:=hN) (hi:=hi) (hx:=hx) (hf:=hf)⟩
theorem mZ:JR X [] mh:=⟨Cn⟩
theorem ee{e:Expr}{es:List Expr}{g:FG}{a:AZ}(h1:XG X e g)(h2:JR X es a)(hs:(assignEach (e::es) X.env).map (·.2)=assign e X.env::(assignEach es X.env).map (·.2):=by rfl):JR X (e::es) (gn g a):=⟨zb (h1:=h1.h) (h2:=h2.h) (hs:=hs)⟩
theorem pA{es:List Expr}{k:Nat}{a:AZ}{n:Nat}(hc:X.calm=M)(h:JR X es a)(hn:(assignEach es X.env).length=n:=by rfl)(hst:(assignEach es X.env).findIdx? (·.1)=Y:=by rfl):XG X (.Tuple es k pos) (gT n a):=⟨Gb (hc:=hc) (h:=h.h) (hn:=hn) (hst:=hst)⟩
theorem g4{o i:Expr}{a b:FE}{f:FN}(ho:XE X o a)(hi:XE X i b)(hs:uK X (rU X.K f))(ha:∀ v,assign (.Subscript o i pos) X.env v=(do
   let ov<-holding [v] (eval o X.env)
   let iv<-holding [v,ov] (eval i X.env)
   standAt pos
   holding [v,ov,iv] (setItem ov iv v)
   release [v,ov,iv] []):=by intro _;rfl):XG X (.Subscript o i pos) (gS f a b):=⟨Gc (ho:=ho.h) (hi:=hi.h) (hs:=hs) (ha:=ha)⟩
theorem qR{tg e:Expr}{m:FE}{g:FG}(he:XE X e m)(hg:XG X tg g)(hs:swapsWithSole [tg] e pos.line X.env=pure J:=by rfl)(hw:swappedStores [tg] e X.env=pure Y:=by rfl)(h1:(assignEach [tg] X.env).map (·.2)=[assign tg X.env]:=by rfl):XS X (.Assign [tg] e pos) (dY m g):=⟨F7 (he:=he.h) (hg:=hg.h) (hs:=hs) (hw:=hw) (h1:=h1)⟩
theorem qY(i:Nat){x:Str}{e:Expr}{m:FE}{pos':Pos}(hN:X.N.Nodup)(hi:X.N[i]?=Z x)(hx:uL X.env.scope x)(he:XE X e m)(hs:swapsWith e (Z (.Name x pos')) pos.line X.env=pure J:=by rfl)(hf:X.fn x=M\/X.env.scope.names.lookup x=Z .local:=by first|exact .inl rfl|exact .inr rfl|assumption):XS X (.Assign [.Name x pos'] e pos) (dY m (gN i)):=⟨F3 (i:=i) (hN:=hN) (hi:=hi) (hx:=hx) (he:=he.h) (hs:=hs) (hf:=hf)⟩
theorem A4(i:Nat){x:Str}{e:Expr}{m:FE}{op:Operator}{f:FN}{pos':Pos}(hN:X.N.Nodup)(hi:X.N[i]?=Z x)(hx:uL X.env.scope x)(he:XE X e m)(ho:JT X op (r2 X.K f))(hf:X.fn x=M\/X.env.scope.names.lookup x=Z .local:=by first|exact .inl rfl|exact .inr rfl|assumption):XS X (.AugAssign (.Name x pos') op e pos) (Cu i f m):=⟨F6 (i:=i) (hN:=hN) (hi:=hi) (hx:=hx) (he:=he.h) (ho:=ho) (hf:=hf)⟩
end
section
theorem oH{X:Cx}{pos:Pos}(n:Nat){c:Expr}{a:List cY}{t:FT}{b:FS}(hp:PassesOwn (model X.prog X.w) X.A X.env X.xe)(hc:XT X c t)(hb:uI X a b):XS X (.While c a [] pos) (wg t b n):=⟨y9 (n:=n) (hp:=hp) (hc:=hc.h) (hb:=hb.h)⟩
theorem qW{X:Cx}{pos:Pos}{tg iter:Expr}{a:List cY}{m:FI}{g:FG}{b:FS}(hp:PassesOwn (model X.prog X.w) X.A X.env X.xe)(hc:X.calm=M)(hi:XI X tg iter m)(hg:XG X tg g)(hb:uI X a b)(hs:∀x,foldedSetIterable iter X.env x=pure x:=by intro _;rfl):XS X (.For tg iter a [] pos) (gJ m g b):=⟨F5 (hp:=hp) (hc:=hc) (hi:=hi.h) (hg:=hg.h) (hb:=hb.h) (hs:=hs)⟩
end
section
variable{X:Cx}{es:List Expr}{pos:Pos}{a:FA}
theorem dr{x1}(h:XA X es a):XE X (.Tuple es x1 pos) (d2 a):=⟨Ge (h:=h.h)⟩
theorem dV(h:XA X es a):XE X (.List es pos) (eW a):=⟨Gk (h:=h.h)⟩
end
section
variable{X:Cx}{tg:Expr}
theorem qd{e:Expr}{m:FE}(h:XE X e m):XI X tg e (gj m):=⟨Ga (h:=h.h)⟩
theorem tu {a:Expr}{m:FA}{p pos:Pos}(hg:Gl X "range")(hm:X.mg "range"=Y)(ha:XA X [a] m)(hs:cS [a] X.env=[(J,eval a X.env)]:=by rfl):XI X tg (.Call (.Name "range" p) [a] [] pos) (pa m):=⟨wD (hg:=hg) (hm:=hm) (ha:=ha.h) (hs:=hs)⟩
theorem tt {a b:Expr}{m:FA}{p pos:Pos}(hg:Gl X "range")(hm:X.mg "range"=Y)(ha:XA X [a,b] m)(hs:cS [a,b] X.env=[(J,eval a X.env),(J,eval b X.env)]:=by rfl)(hs2:cS [b] X.env=[(J,eval b X.env)]:=by rfl):XI X tg (.Call (.Name "range" p) [a,b] [] pos) (IZ m):=⟨wC (hg:=hg) (hm:=hm) (ha:=ha.h) (hs:=hs) (hs2:=hs2)⟩
end
section
variable{X:Cx}{tg:Expr}
variable{elts:List Expr}{k:Nat}{tpos:Pos}
theorem xA {a:Expr}{m:FA}{p pos:Pos}(hg:Gl X "enumerate")(hm:X.mg "enumerate"=Y)(ha:XA X [a] m)(hs:cS [a] X.env=[(J,eval a X.env)]:=by rfl):XI X (.Tuple elts k tpos) (.Call (.Name "enumerate" p) [a] [] pos) (vE m):=⟨Cm (hg:=hg) (hm:=hm) (ha:=ha.h) (hs:=hs)⟩
end
section
variable{X:Cx}{ag:List (cN×Obj)}{σ:L2.St}{H:Hp}{s:cM}{mu:List cN}{S:Sto}{K:Fg1}
theorem tz (T:Ty){e:Expr}{m:FE}{nm:Str}{p p2 pos:Pos}(hg:Gl X "isinstance")(hm:X.mg "isinstance"=Y)(hg2:Gl X nm)(hm2:X.mg nm=Y)(hv2:bootBuiltins nm=Z (.type T.nm))(h:XE X e m)(hn:nm≠"__name__":=by decide)(hd:(nm == ("__debug__":Str))=J:=by decide)(hs1:cS [e,.Name nm p2] X.env=(J,eval e X.env)::cS [.Name nm p2] X.env:=by rfl)(hs2:cS [.Name nm p2] X.env=(J,eval (.Name nm p2) X.env)::cS [] X.env:=by rfl)(hpl:(backTo pos (cS [.Name nm p2] X.env)).any (·.1)=J:=by rfl):XE X (.Call (.Name "isinstance" p) [e,.Name nm p2] [] pos) (d7 T m):=⟨wE (T:=T) (hg:=hg) (hm:=hm) (hg2:=hg2) (hm2:=hm2) (hv2:=hv2) (h:=h.h) (hn:=hn) (hd:=hd) (hs1:=hs1) (hs2:=hs2) (hpl:=hpl)⟩
end
section
variable{X:Cx}
theorem jp:XO X Y kg:=⟨Ci⟩
theorem jo{e:Expr}{m:FE}(h:XE X e m):XO X (Z e) (kf m):=⟨Ch (h:=h.h)⟩
theorem qe {o e:Expr}{es:List Expr}{m:FE}{a:FA}{f:FN}{name:Str}{apos cpos:Pos}{id:String}(slot:Slot "list" name id)(hty:typeOf (.builtin id)=pure (.type "method_descriptor"))(hm:Hz X id (λx xs H Q=>rN X.K f (x::xs) H Q))(ho:XE X o m)(ha:XA X (e::es) a)(hbase:attributeBase o name X.env (eval o X.env)=eval o X.env:=by rfl)(hfew:((backTo cpos (cS (e::es) X.env)).all (λx=> !x.1)&&(backToKw cpos (keywordEach [] X.env)).all (λx=>x.1.isSome)&&decide ((e::es).length+([]:List Keyword).length+(if([]:List Keyword).isEmpty then 0 else 1)<30))=M:=by rfl)(hline:(apos.endLine == cpos.line)=M:=by rfl)(hs:cS (e::es) X.env=(J,eval e X.env)::cS es X.env:=by rfl)(hplain:(backTo cpos (cS es X.env)).any (·.1)=J:=by rfl):XE X (.Call (.Attribute o name apos) (e::es) [] cpos) (vr f m a):=⟨ze (slot:=slot) (hty:=hty) (hm:=hm) (ho:=ho.h) (ha:=ha.h) (hbase:=hbase) (hfew:=hfew) (hline:=hline) (hs:=hs) (hplain:=hplain)⟩
theorem Ll (i:Nat){x:Str}{pos:Pos}(hN:X.N[i]?=Z x:=by rfl)(hv:Vis X.env.scope x:=by first|exact Or.inl rfl|exact Or.inr (Or.inl rfl)|exact Or.inr (Or.inr rfl))(hd:(x == ("__debug__":Str))=J:=by decide)(hcd:(x == ("__classdict__":Str))=J:=by decide):XE X (.Name x pos) (mV i):=⟨mv (i:=i) (hN:=hN) (hv:=hv) (hd:=hd) (hcd:=hcd)⟩
end
section
theorem qH {X:Cx}{k k' n:Nat}{x:Str}{m:FN}{p pos:Pos}{e:Expr}{es:List Expr}{a:FA}(h:Own X.prog X.w X.K X.mg X.base k x n m)(hr:ga k' X.A)(hk:k<=k')(hg:Gl X x)(ha:XA X (e::es) a)(hdb:(x == ("__debug__":Str))=J:=by decide)(he:cS (e::es) X.env=(J,eval e X.env)::cS es X.env:=by rfl)(hpl:(backTo pos (cS es X.env)).any (·.1)=J:=by rfl):XE X (.Call (.Name x p) (e::es) [] pos) (mN (db n m) a):=⟨Gg (h:=h) (hr:=hr) (hk:=hk) (hg:=hg) (ha:=ha.h) (hdb:=hdb) (he:=he) (hpl:=hpl)⟩
theorem gb {X:Cx}{x:Str}{d:D}{pos:Pos}(h:CGl X.K X.mg x d)(hg:Gl X x)(hd:(x == ("__debug__":Str))=J:=by decide):XE X (.Name x pos) (mC d):=⟨Cp (h:=h) (hg:=hg) (hd:=hd)⟩
end
section
variable{X:Cx}
structure KS (X:Cx)(K:Fg1)(tg:Expr)(ifs:List Expr)(elt:Expr)(g:FG)(t:FT)(e:FE):Prop where
 g:XG X tg g
 t:XF X K ifs t
 e:XE X elt e
structure L9 (X:Cx)(K:Fg1)(tg:Expr)(ifs:List Expr)(tg2 iter2:Expr)(ifs2:List Expr)(elt:Expr)(g:FG)(t:FT)(m2:FI)(g2:FG)(t2:FT)(e:FE):Prop where
 g:XG X tg g
 t:XF X K ifs t
 i2:XI X tg2 iter2 m2
 g2:XG X tg2 g2
 t2:XF X K ifs2 t2
 e:XE X elt e
end
theorem uM{P:cO}{w:cQ}{K:Fg1}{mg:Str->Option cK}{base:cW}{x c:Str}{st:cY}{f:cN}{fd:cX}{N ps:List Str}{k n:Nat}{b:FS}(F:wa K x c st f fd)(hb:jN K fd ps [])(hm:mg x=some (.ref f))(S:gC N ps (dE st))(hn:ps.length=n)(e:∀(d:cK) (A:cP) (a:List Env) (s:cM) (H:Hp) (E:XK),ga k (A.deeper (envOfC c (dE st) s.heap.objs.size f d)) ->
   uI (mJ sZ P w K mg base N c (dE st) f d A a s H E).nox (fh st) b):Own P w K mg base (k+1) x n (gz N.length b):=
 Fx F hb hm S hn λd A a s H E g=>(e d A a s H E g).h
theorem Ek{P:cO}{w:cQ}{K:Fg1}{mg:Str->Option cK}{base:cW}{x c:Str}{st:cY}{f:cN}{fd:cX}{N ps:List Str}{k n:Nat}{b:FS}(F:wa K x c st f fd)(S:gC N ps (dE st))(hn:ps.length=n)(e:∀(d:cK) (A:cP) (a:List Env) (s:cM) (H:Hp) (E:XK),ga k (A.deeper (envOfC c (dE st) s.heap.objs.size f d)) ->
   uI (mJ sZ P w K mg base N c (dE st) f d A a s H E).nox (fh st) b):lT P w K mg base sZ (k+1) f fd ps (spM K n (gz N.length b)):=by
 subst hn;exact Jb F S λd A a s H E g=>(e d A a s H E g).h
abbrev FV:=Ev->Sto->Option (List D×Ev×Sto)
noncomputable def fz (c:List (Nat×List D))(g:FG)(t:FT)(b:FV):List D->FV
 |[]=>λr S=>if q9 S c=true then some ([],r,S)else none
 |d::ds=>λr S=>if q9 S c=true then(g d r S).bind λp=>(t p.1 p.2).bind λk=>if k.1=true then(b p.1 k.2).bind λq=>(fz c g t b ds q.2.1 q.2.2).map λz=>(q.1++z.1,z.2)else fz c g t b ds p.1 k.2 else none
noncomputable def d1 (m:FE):FV:=λr S=>(m r S).map λq=>([q.1],r,q.2)
def sC(m:FI)(g:FG)(t:FT)(b:FV):FV:=λr S=>(m r S).bind λp=>fz p.1.chk g t b p.1.items r p.2
noncomputable def ed (k:Nat)(keep:List Nat)(m:FI)(g:FG)(t:FT)(b:FV):FE:=λr S=>(m r S).bind λp=>
 (fz p.1.chk g t b p.1.items (wP k keep r) p.2).bind λq=>if q.1.length<=cT then some (.ref q.2.2.length,q.2.2++[.lst q.1])else none
section
variable{K:Fg1}{H H' H1:Hp}{mu mu' mu1:List cN}{S:Sto}{a:cN}
theorem Ext.aside(x:Ext mu mu' H H'):Ext (a::mu) (a::mu') H H' where
 pre:=bQ.mpr ⟨O,x.pre⟩
 old:=λb o h n=>x.old b o h λz=>n (mC1 _ z)
 tup:=x.tup
 frz:=x.frz
 new:=λb h=>by
  rcases aD.mp h with h|h
  ·exact .inl (by rw[h];exact mS1)
  ·rcases x.new b h with q|q
   ·exact .inl (mC1 _ q)
   ·exact .inr q
theorem Ext.inner(x:Ext (a::mu) (a::mu') H H'):rb mu mu' H H':=⟨(bQ.mp x.pre).2,x.tup,x.frz⟩
theorem Ext.held{o:HO}(x:Ext mu mu' H H')(ha:H a=Z o)(hn:a∉mu):H' a=Z o/\a∉mu':=by
 refine⟨x.old a o ha hn,λz=>?_⟩;rcases x.new a z with q|q
 ·exact hn q
 ·rw[ha]at q;cases q
theorem fx.exw{r:Ev}{σ:L2.St}(e:rb mu mu' H H')(h:fx K H mu r σ):fx K H' mu' r σ:=⟨h.len,λi d q=>by
 obtain⟨v,b,a⟩:=h.val i d q;exact⟨v,b,a.exw e⟩⟩
theorem ot.exw{b:cN}(e:rb mu mu' H H')(h:∀o,H b=Z o->H' b=Z o):∀{o:Ob},ot K H mu b o->ot K H' mu' b o
 | .lst _,⟨vs,q,r⟩=>⟨vs,h _ q,r.exw e⟩
 | .dct _,⟨ws,q,r⟩=>⟨ws,h _ q,Paired.mapP r λ_ _ z=>⟨z.1,z.2.exw e⟩⟩
 | .dcT _,⟨ws,q,r,l⟩=>⟨ws,h _ q,Paired.mapP r λ_ _ ⟨z,d,k,v,a,r⟩=>⟨z,d,k.exw e,v,a,r.exw e⟩,l⟩
 | .iset _,q=>⟨h _ q.1,q.2⟩
 | .dcF _,⟨ws,⟨o,u,f,c⟩,r,l⟩=>⟨ws,⟨o,u,h _ f,c⟩,Paired.mapP r λ_ _ ⟨z,d,k,v,a,r⟩=>⟨z,d,k.exw e,v,a,r.exw e⟩,l⟩
 | .tst _,⟨ws,q,r⟩=>⟨ws,h _ q,Paired.mapP r λ_ _ ⟨z,d,k,v,a,r⟩=>⟨z,d,k.exw e,v,a,r.exw e⟩⟩
theorem Sim.aside{u:HO}(s:Sim K H mu S)(e:rb mu mu H (upd H a u))(hn:a∉mu):Sim K (upd H a u) mu S:=
 ⟨s.len,s.nd,λk o b h1 h2=>(s.ob k o b h1 h2).exw e λo' q=>by rw[dG (λz=>hn (by rw[<- z];exact gM1 h2))];exact q⟩
end
inductive HA (K:Fg1)(a:cN)(m:FV)(E:jn)(σ:L2.St)(H:Hp):Prop
 |mk (r:Ev) (mu:List cN) (S:Sto) (acc:List D) (vs:List V) (xs:List D) (r':Ev) (S':Sto):H a=some (.lst vs)->a∉mu->dt K H mu acc vs->fx K H mu r σ->Sim K H mu S->m r S=some (xs,r',S')->vs.length+xs.length<=cT ->
 (∀ σ' H' mu' vs',Ext (a::mu) (a::mu') H H'->H' a=some (.lst vs')->a∉mu'->dt K H' mu' (acc++xs) vs'->fx K H' mu' r' σ'->Sim K H' mu' S'->E.nx σ' H')->HA K a m E σ H
theorem nR{K:Fg1}{a:cN}{m:FE}{E:jn}{σ:L2.St}{H:Hp}(h:HA K a (d1 m) E σ H):rl a (tM K m) E σ H:=by
 obtain⟨r,mu,S,s,vs,xs,u,w,n,f,o,i,t,g,p,hc⟩:=h;obtain⟨⟨d,j⟩,k,g⟩:=oM1.mp g;cases g;refine⟨r,mu,S,d,j,i,t,k,λv H1 mu1 e l q=>?_⟩;obtain⟨c,b⟩:=e.held n f;have put:Ext (a::mu1) (a::mu1) H1 (upd H1 a (.lst (vs++[v]))):=Ext.put c trivial mS1;refine⟨vs,c,p,?_⟩;exact hc σ _ mu1 (vs++[v]) (e.aside.trans put) d5 b (((o.ext e).append (.cons l .nil)).exw put.inner) ((i.ext e).exw put.inner) (q.aside put.inner b)
inductive KZ (K:Fg1)(a:cN)(mu2:List cN)(H:Hp)(c:List (Nat×List D))(g:FG)(t:FT)(b:FV)(r':Ev)(S':Sto)(tot:List D)(L:List D)(σ':L2.St)(H':Hp):Prop
 |mk (r3:Ev) (mu3:List cN) (S3:Sto) (acc3:List D) (vs3:List V) (xs3:List D):Ext (a::mu2) (a::mu3) H H'->H' a=some (.lst vs3)->a∉mu3->dt K H' mu3 acc3 vs3->fx K H' mu3 r3 σ'->Sim K H' mu3 S3->fz c g t b L r3 S3=some (xs3,r',S')->acc3++xs3=tot->vs3.length+xs3.length<=cT->KZ K a mu2 H c g t b r' S' tot L σ' H'
theorem sb{K:Fg1}{a:cN}{j:It}{am:AY}{g:FG}{t:FT}{b:FV}{tb:TS}{D:jn}(hb:∀ E σ H,HA K a b E σ H->tb E σ H){mu1 e:List cN}{H1 H:Hp}{r I:Ev}{S ao:Sto}{σ:L2.St}{acc xs:List Mi.D}{vs:List V}(hJ:K0 K j am mu1 H1)(x:rb mu1 e H1 H)(ha:H a=Z (.lst vs))(Q:a∉e)(hr:dt K H e acc vs)(he:fx K H e r σ)(hs:Sim K H e S)(hm:fz am.chk g t b am.items r S=Z (xs,I,ao))(hl:vs.length+xs.length<=cT)(hc:∀h H' mu' v,Ext (a::e) (a::mu') H H'->H' a=Z (.lst v)->a∉mu'->dt K H' mu' (acc++xs) v->fx K H' mu' I h->Sim K H' mu' ao->D.nx h H'):xY j (EE K g) (xX K t) tb D σ H:=by
 refine⟨λi k h H'=>k=(am.items.drop i).length/\KZ K a e H am.chk g t b I ao (acc++xs) (am.items.drop i) h H',
  ⟨_,O,r,e,S,acc,vs,xs,.refl _ _,ha,Q,hr,he,hs,hm,O,hl⟩,?_⟩
 rintro i k σ3 H3 ⟨rfl,r3,m,S3,f,vs3,U,N,u,C,F,w,s3,c,q,l⟩;cases hd0:am.items.drop i with
 |nil=>
  left;rw[hd0,fz]at c;dsimp only at c;split at c
  ·rename_i ok;cases c;refine⟨(hJ i H3 m _ (x.trans N.inner) s3 ok).2 (List.drop_eq_nil_iff.mp hd0),hc σ3 H3 m vs3 N u C ?_ w s3⟩;rw[<- q,aK];exact F
  ·cases c
 |cons d ds=>
  right;rw[hd0]at c;obtain⟨hi,hd⟩:=mi hd0;rw[fz]at c;dsimp only at c;split at c
  ·rename_i ok;obtain⟨⟨L,S4⟩,e4,c⟩:=oB1.mp c;obtain⟨⟨k5,S5⟩,e5,c⟩:=oB1.mp c;obtain⟨go,yl⟩:=(hJ i H3 m _ (x.trans N.inner) s3 ok).1 d hi;refine⟨go,KZ K a e H am.chk g t b I ao (acc++xs) ds,?_,λy H4 yy=>?_⟩
   ·intro h H' h6;exact⟨ds.length,bB _,(congrArg List.length hd).symm,hd.symm ▸ h6⟩
   ·obtain⟨G,s4,q4⟩:=yl y H4 yy;obtain⟨W,ar⟩:=G.held u C;refine⟨r3,m,S3,d,L,S4,w.ext G,s4,q4,e4,fun σ5 H5 mu5 P o s5=>?_⟩;obtain⟨T,wq⟩:=P.held W ar;refine⟨L,mu5,S4,k5,S5,o,s5,e5,λH6 p s s6=>?_⟩;obtain⟨z,B⟩:=s.held T wq;have xx:=((N.trans G.aside).trans P.aside).trans s.aside;have n:dt K H6 p f vs3:=((F.ext G).ext P).ext s;cases k5 with
    |true=>
     obtain⟨⟨q1,r7,S7⟩,e7,c⟩:=oB1.mp c;obtain⟨⟨z1,r8,S8⟩,e8,c⟩:=oM1.mp c;cases c;refine hb _ _ _ ⟨L,p,S5,f,vs3,q1,r7,S7,z,B,n,o.ext s,s6,e7,?_,fun σ8 H8 aq R x8 ha8 hn8 A X s8=>⟨r7,aq,S7,f++q1,R,z1,xx.trans x8,ha8,hn8,A,X,s8,e8,?_,?_⟩⟩
     ·rw[lA1]at l;dsimp only at l;lia
     ·rw[<- q,aW]
     ·have:=A.length;have h3:=n.length;rw[lA1]at this l;dsimp only at l;lia
    |false=>exact⟨L,p,S5,f,vs3,U,xx,z,B,n,o.ext s,s6,c,q,l⟩
  ·cases c
theorem yV{K:Fg1}{a:cN}{m:FI}{g:FG}{t:FT}{b:FV}{tb:TS}(hb:∀E σ H,HA K a b E σ H->tb E σ H){E:jn}{σ:L2.St}{H:Hp}(h:HA K a (sC m g t b) E σ H):xW (HS K m) (EE K g) (xX K t) tb E σ H:=by
 obtain⟨r,mu,S,q,vs,xs,A,B,x,i,v,n,s,e,p,hc⟩:=h;obtain⟨⟨am,w⟩,y,e⟩:=oB1.mp e;refine⟨r,mu,S,am,w,n,s,y,λj H1 mu1 c o z=>?_⟩;obtain⟨f,l⟩:=c.held x i;exact sb hb o (Ext.refl _ _).w f l (v.ext c) (n.ext c) z e p λd H' mu' k u=>hc d H' mu' k (c.aside.trans u)
theorem nV{K:Fg1}{k:Nat}{keep:List Nat}{m:FI}{g:FG}{t:FT}{b:FV}{tb:cN->TS}(hb:∀ a E σ H,HA K a b E σ H->tb a E σ H){σ:L2.St}{H:Hp}{Q:VK}(h:tM K (ed k keep m g t b) σ H Q):
  xZ k keep (HS K m) (EE K g) (xX K t) tb σ H Q:=by
 obtain⟨r,mu,S,d,aq,I,U,f,hc⟩:=h;obtain⟨⟨am,W⟩,X,f⟩:=oB1.mp f;obtain⟨⟨xs,r2,L⟩,T,f⟩:=oB1.mp f;dsimp only at f;split at f
 ·rename_i R;cases f;refine ⟨r,mu,S,am,W,I,U,X,fun j H1 mu1 ao P N p i=>?_⟩;have w:Ext mu1 mu1 H1 (upd H1 p (.lst [])):=Ext.fresh i;refine sb (hb p) P w.w d5 (N.notin i) .nil ((IW k keep (I.ext ao)).ext w) (N.fresh i) T (by simpa using R) fun ar H' mu' v s D A x V s'=>?_;have y:Ext mu1 (mu'++[p]) H1 H':=by
   refine⟨((bQ.mp s.pre).2).trans (bv _ _),λb o e n=>?_,λb ys e=>s.tup b ys (w.tup b ys e),λb o u e=>s.frz b o u (w.frz b o u e),λb B=>?_⟩
   ·have G:b≠p:=d0 e i;exact s.old b o (by rw [dG G];exact e) fun z=>by
     rcases aD.mp z with z|z
     ·exact G z
     ·exact n z
   ·rcases aE.mp B with z|z
    ·rcases s.new b (mC1 _ z)with q|q
     ·rcases aD.mp q with q|q
      ·exact .inr (by rw[q];exact i)
      ·exact .inl q
     ·by_cases l:b=p
      ·exact .inr (by rw[l];exact i)
      ·rw[dG l]at q;exact .inr q
    ·have:b=p:=by simpa using z
     exact .inr (by rw[this];exact i)
  refine hc _ H' (mu'++[p]) (ao.trans y) (.ref (gY s'.len p)) ⟨by rw[lA1,lA1,s'.len];rfl,?_,λn o b h1 h2=>?_⟩
  ·rw[bx];refine⟨s'.nd,by simp,λb hb c hc e=>?_⟩;have:c=p:=by simpa using hc
   subst this;subst e;exact A hb
  ·by_cases F:n<L.length
   ·rw[gL1 F]at h1;rw[gL1 (by rw[s'.len];exact F)]at h2;exact(s'.ob n o b h1 h2).mor [p]
   ·have C:n=L.length:=by
     have:=(gE1.mp h1).1;rw[lA1]at this;simp at this;lia
    subst C;rw[gR1 (nR1 _)]at h1;rw[<- s'.len,gR1 (nR1 _)]at h2;simp at h1 h2;subst h1;subst h2;exact⟨v,D,(by simpa using x:dt K H' mu' xs v).mor [p]⟩
 ·cases f
section
variable{X:Cx}
theorem qZ{elt tg iter:Expr}{ifs:List Expr}{scope:cZ}{pos:Pos}{T:List Str}{keep:List Nat}{i:List (Str×cN)}{m:FI}{g:FG}{t:FT}{e:FE}(hc:X.calm=M)(C:HD X scope T keep)(f:jI X.env.cells scope.names []=Z i)(hi:XI X tg iter m)(hb:∀s H b,KS (cxC X scope i T keep s H b) X.K tg ifs elt g t e)(hs:∀x,foldedSetIterable iter X.env x=pure x:=by intro _;rfl):XE X (.ListComp elt [⟨tg,iter,ifs,0⟩] scope pos) (ed T.length keep m g t (d1 e)):=
 ⟨em (u9 (emit:=nS elt) (tb:=λp=>rl p (tM X.K e)) hc (λit d c=>xO elt tg iter ifs scope pos it d c) C f hi.h (λs H b p=>⟨(hb s H b).g.h,(hb s H b).t.h,pR (hb s H b).e.h p⟩) hs)
  fun σ H Q h=>nV (λa E σ H q=>nR q) h⟩
theorem wf{elt tg iter tg2 iter2:Expr}{ifs ifs2:List Expr}{scope:cZ}{pos:Pos}{T:List Str}{keep:List Nat}{f:List (Str×cN)}{m m2:FI}{g k:FG}{t j:FT}{e:FE}(hc:X.calm=true)(C:HD X scope T keep)(i:jI X.env.cells scope.names []=some f)(hi:XI X tg iter m)(hb:∀s H b,L9 (cxC X scope f T keep s H b) X.K tg ifs tg2 iter2 ifs2 elt g t m2 k j e)(hs:∀x,foldedSetIterable iter X.env x=pure x:=by intro _;rfl)(hs2:∀c x,foldedSetIterable iter2 c x=pure x:=by intro _ _;rfl):
  XE X (.ListComp elt [⟨tg,iter,ifs,0⟩,⟨tg2,iter2,ifs2,0⟩] scope pos) (ed T.length keep m g t (sC m2 k j (d1 e))):=
 ⟨em (u9 (emit:=ph (.ListComp elt [⟨tg,iter,ifs,0⟩,⟨tg2,iter2,ifs2,0⟩] scope pos) iter2) (tb:=fun p=>xW (HS X.K m2) (EE X.K k) (xX X.K j) (rl p (tM X.K e))) hc (fun it d c=>Ew elt tg iter tg2 iter2 ifs ifs2 scope pos it d c) C i hi.h
   (λs H b p=>⟨(hb s H b).g.h,(hb s H b).t.h,BG (X:=cxC X scope f T keep s H b) O hc (hb s H b).i2.h (hb s H b).g2.h (hb s H b).t2.h (pR (hb s H b).e.h p) (hs2 _)⟩) hs)
  fun σ H Q h=>nV (λa E σ H q=>yV (λ_ _ _ z=>nR z) q) h⟩
theorem jO{elt tg iter:Expr}{ifs:List Expr}{scope:cZ}{pos b l:Pos}{y:Str}(i:Nat){T:List Str}{keep:List Nat}{n:List (Str×cN)}{m:FI}{g:FG}{t:FT}{e:FE}(hc:X.calm=M)(C:HD X scope T keep)(j:jI X.env.cells scope.names []=Z n)(hi:XI X tg iter m)(hb:∀s H c,KS (cxC X scope n T keep s H c) X.K tg ifs elt g t e)(hN:X.N.Nodup)(hy:X.N[i]?=Z y)(hx:uL X.env.scope y)(k:swapsWith (.ListComp elt [⟨tg,iter,ifs,0⟩] scope pos) (Z (.Name y l)) b.line X.env=pure M:=by rfl)(hf:X.fn y=M\/X.env.scope.names.lookup y=Z .local:=by first|exact .inl rfl|exact .inr rfl|assumption)(hs:∀x,foldedSetIterable iter X.env x=pure x:=by intro _;rfl):XS X (.Assign [.Name y l] (.ListComp elt [⟨tg,iter,ifs,0⟩] scope pos) b) (dY (ed T.length keep m g t (d1 e)) (gN i)):=
 ⟨il (BN (emit:=nS elt) (tb:=λp=>rl p (tM X.K e)) hc k (λit f d=>xO elt tg iter ifs scope pos it f d) C j hi.h (λs H c p=>⟨(hb s H c).g.h,(hb s H c).t.h,pR (hb s H c).e.h p⟩) hN hy hx hf hs)
  λE σ H h=>Hh (fun σ H Q q=>nV (λa E σ H q=>nR q) q) h⟩
end
def oD:D->Option Key
 | .int i=>Z (.inl i)
 | .str x=>Z (.inr x)
 |_=>Y
def dB{κ:Type}[DecidableEq κ](kvs:List (κ×D))(k:κ):Option D:=(kvs.find? λp=>decide (p.1=k)).map (·.2)
def gE{κ:Type}[DecidableEq κ](kvs:List (κ×D))(k:κ)(d:D):List (κ×D):=
 if(kvs.any λp=>decide (p.1=k))=M then kvs.map (λp=>if p.1=k then(p.1,d)else p)else kvs++[(k,d)]
section
variable{K:Fg1}{H:Hp}{mu:List cN}
theorem jT{d:D}{v:V}{k:Key}(r:eA K H mu d v)(h:oD d=Z k):v=kV k:=by
 cases r with
 |int i=>cases h;rfl
 |str x=>cases h;rfl
 |_=>cases h
end
section
variable{κ:Type} [DecidableEq κ] {K:Fg1}{H:Hp}{mu:List cN}
theorem KR.length:∀{ks:List (κ×D)} {ws:List (κ×V)},KR K H mu ks ws->ks.length=ws.length:=λh=>Paired.length h
theorem KR.look{k:κ}:∀ {ks:List (κ×D)} {ws:List (κ×V)},KR K H mu ks ws ->
  (∀d,dB ks k=Z d -> ∃v,iN ws k=Z v/\eA K H mu d v)/\(dB ks k=Y->iN ws k=Y):=by
 intro ks ws h
 induction h with
 |nil=>exact⟨λd h=>by simp[dB]at h,λ_=>rfl⟩
 | @cons p q ks ws r t ih=>
  obtain⟨b,f⟩:=p;obtain⟨j,c⟩:=q;obtain⟨e,r⟩:=r;dsimp only at e r;subst e;obtain⟨h1,h2⟩:=ih;by_cases a:b=k
  ·subst a;refine⟨λd h=>?_,λh=>?_⟩
   ·have:f=d:=by simpa[dB]using h
    subst this;exact⟨c,by simp[iN],r⟩
   ·simp[dB]at h
  ·have g:dB ((b,f)::ks) k=dB ks k:=by simp[dB,bb,a]
   have i:iN ((b,c)::ws) k=iN ws k:=by simp[iN,bb,a]
   rw[g,i];exact⟨h1,h2⟩
theorem KR.any{k:κ}:∀{ks:List (κ×D)} {ws:List (κ×V)},KR K H mu ks ws->(ks.any λp=>decide (p.1=k))=ws.any λp=>decide (p.1=k):=by
 intro ks ws h
 induction h with
 |nil=>rfl
 |cons r t ih=>rw[bc,bc,ih,r.1]
theorem KR.repl{k:κ}{d:D}{v:V}(q:eA K H mu d v):∀ {ks:List (κ×D)} {ws:List (κ×V)},KR K H mu ks ws ->
  KR K H mu (ks.map λp=>if p.1=k then(p.1,d)else p) (ws.map λp=>if p.1=k then(p.1,v)else p):=by
 intro ks ws h
 induction h with
 |nil=>exact .nil
 | @cons a b ks ws r t ih=>
  refine .cons ?_ ih;obtain⟨e,r⟩:=r;dsimp only;by_cases h:a.1=k
  ·rw[ak h,ak (e ▸ h)];exact⟨e,q⟩
  ·rw[aj h,aj (e ▸ h)];exact⟨e,r⟩
theorem KR.snoc{k:κ}{d:D}{v:V}(q:eA K H mu d v):∀{ks:List (κ×D)} {ws:List (κ×V)},KR K H mu ks ws->KR K H mu (ks++[(k,d)]) (ws++[(k,v)]):=by
 intro ks ws h
 induction h with
 |nil=>exact .cons ⟨O,q⟩ .nil
 |cons r t ih=>exact .cons r ih
theorem KR.put{k:κ}{d:D}{v:V}(q:eA K H mu d v){ks:List (κ×D)}{ws:List (κ×V)}(h:KR K H mu ks ws):KR K H mu (gE ks k d) (iC ws k v):=by
 unfold gE iC;rw[h.any];split
 ·exact h.repl q
 ·exact h.snoc q
end
def wS:G2:=λd e S=>match e with
 | .ref n=>match S[n]? with
  |some (.dct kvs)=>(oD d).map λk=>(.bl (dB kvs k).isSome,S)
  |_=>I7 d e S
 |_=>I7 d e S
def iX:G2:=λd e S=>match e with
 | .ref n=>match S[n]? with
  |some (.dct kvs)=>(oD d).map λk=>(.bl (!(dB kvs k).isSome),S)
  |_=>nL d e S
 |_=>nL d e S
def mH:G2:=λd e S=>match d with
 | .ref n=>match S[n]? with
  |some (.dct kvs)=>(oD e).bind λk=>(dB kvs k).map λx=>(x,S)
  |_=>xl d e S
 |_=>xl d e S
def jG:G3:=λo i v S=>match o with
 | .ref n=>match S[n]? with
  |some (.dct kvs)=>(oD i).bind λk=>if kvs.length<cT then Z (.non,S.set n (.dct (gE kvs k v)))else Y
  |_=>jH o i v S
 |_=>jH o i v S
section
variable{X:Cx}
theorem k8{K:Fg1}{H:Hp}{mu:List cN}{S:Sto}(hs:Sim K H mu S){n:Nat}{a:cN}{kvs:List (Key×D)}{k:Key}{y:V}(hn:mu[n]? = some a)(he:S[n]? = some (.dct kvs))(hy:y=kV k):
  ∃o:Option V,mL H a y o/\(∀d,dB kvs k=Z d -> ∃v,o=Z v/\eA K H mu d v)/\(dB kvs k=Y->o=Y)/\o.isSome=(dB kvs k).isSome:=by
 obtain⟨ws,b,c⟩:=hs.dct he hn;subst hy;obtain⟨h1,h2⟩:=c.look (k:=k);refine⟨iN ws k,mL.k b,h1,h2,?_⟩;cases e:dB kvs k with
 |none=>rw[h2 e];rfl
 |some d=>obtain⟨v,f,_⟩:=h1 d e;rw[f];rfl
theorem IB(q:X.A.units+64<cLine):fJ X (compareOp .In) (r2 X.K (b2 wS)):=by
 intro ag s σ H x y u w Q I f l h;obtain⟨mu,S,d,e,r,j,i,b,c,a,hc⟩:=oy h;have back:I7 d e S=Z (r,j)->cU (model X.prog X.w) X.A (compareOp .In u w) (EP X ag σ Q) X.xe s:=λa=>Kw q ag s σ H x y u w Q I f l ⟨mu,S,[d,e],r,j,.cons i (.cons b .nil),c,a,hc⟩;unfold wS at a;split at a
 ·rename_i n;split at a
  ·rename_i kvs t;obtain⟨k,m,a⟩:=oM1.mp a;cases a;cases b with
   |ref p=>
    cases l;obtain⟨o,g,_,_,hi⟩:=k8 c p t (jT i m);exact KL (by lia) I g f λs' v=>⟨.bl o.isSome,H,v,O,by rw[hi];exact hc.now (.bl _) c⟩
  ·exact back a
 ·exact back a
theorem yO(q:X.A.units+64<cLine):fJ X (compareOp .NotIn) (r2 X.K (b2 iX)):=by
 intro ag s σ H x y u w Q I f l h;obtain⟨mu,S,d,e,r,j,i,b,c,a,hc⟩:=oy h;have back:nL d e S=Z (r,j)->cU (model X.prog X.w) X.A (compareOp .NotIn u w) (EP X ag σ Q) X.xe s:=λa=>B7 q ag s σ H x y u w Q I f l ⟨mu,S,[d,e],r,j,.cons i (.cons b .nil),c,a,hc⟩;unfold iX at a;split at a
 ·rename_i n;split at a
  ·rename_i kvs t;obtain⟨k,m,a⟩:=oM1.mp a;cases a;cases b with
   |ref p=>
    cases l;obtain⟨o,g,_,_,hi⟩:=k8 c p t (jT i m);exact Dd (by lia) I g f λs' v=>⟨.bl (!o.isSome),H,v,O,by rw[hi];exact hc.now (.bl _) c⟩
  ·exact back a
 ·exact back a
theorem HE(P:X.A.units+64<cLine):Ed X (r2 X.K (b2 mH)):=by
 intro value b ag s σ H x y v u Q I t C h j;obtain⟨mu,S,d,e,r,B,w,l,p,c,hc⟩:=oy h;have back:xl d e S=Z (r,B)->cU (model X.prog X.w) X.A (subscriptTail value b v u) (EP X ag σ Q) X.xe s:=λc=>JW value b ag s σ H x y v u Q I t C ⟨mu,S,[d,e],r,B,.cons w (.cons l .nil),p,c,hc⟩ j;unfold mH at c;split at c
 ·rename_i n;split at c
  ·rename_i kvs D;obtain⟨k,ao,c⟩:=oB1.mp c;obtain⟨z,am,c⟩:=oM1.mp c;cases c;cases w with
   | @ref _ a E=>
    cases t;obtain⟨o,g,h1,_,_⟩:=k8 p E D (jT l ao);obtain⟨F,K,L⟩:=h1 _ am;subst K;have A:=sG I g;unfold subscriptTail;refine wB1 ?_;rw[getitemInPython_of_ne A.not_modules];refine wB1 (wpAny_specialOf A PySem.F.slot_dict_getitem.lookup ?_);have i:cU (model X.prog X.w) X.A (subscripted b J (.ref a) u) (λr f=>cU (model X.prog X.w) X.A (letTemporaryGo value (.ref a) r >>= λ_=>pure r) (EP X ag σ Q) X.xe f) X.xe s:=by
     rw[j];exact wpAny_operating (wpAny_mono (wZ (by lia) I g C λar G N q=>(⟨F,H,N,q,hc.now L p⟩:EP X ag σ Q ar G)) (λr f m=>wB1 (wpAny_letTemporaryGo (wP1 m))) λ_ _ x=>x)
    first
     |exact wP1 (wB1 i)
     |exact wB1 i
     |exact i
  ·exact back c
 ·exact back c
theorem ER(L:X.A.units+64<cLine):uK X (rU X.K (b3 jG)):=by
 intro ag s σ H o i v x q u Q I j t r h;obtain⟨mu,S,ds,d,y,D,b,a,hc⟩:=id h;cases D with
 |cons z E=>cases E with
  |cons f am=>cases am with
   |cons p A=>
    cases A;rename_i l m w;dsimp only[b3]at a;have back:jH l m w S=Z (d,y)->cU (model X.prog X.w) X.A (setItem x q u) (λ_ s'=>∃H',Inv X ag σ H' s'/\Q H') X.xe s:=λa=>H7 ag s σ H o i v x q u Q I j t r ⟨mu,S,[l,m,w],d,y,.cons z (.cons f (.cons p .nil)),b,a,hc⟩;unfold jG at a;split at a
    ·rename_i n;split at a
     ·rename_i kvs C;obtain⟨k,F,a⟩:=oB1.mp a;split at a
      ·rename_i B;cases a;cases z with
       |ref c=>
        cases j;obtain⟨ws,e,g⟩:=b.dct C c;have G:=jT f F;subst G;refine wY (by lia) I (xi.k e (by rw[<- g.length];exact B)) t r λs' K=>⟨_,K,?_⟩;have put:Ext mu mu H (upd H _ (.dK (iC ws k v))):=Ext.put e trivial (gM1 c);exact hc _ mu put (b.put c e trivial ⟨_,d5,(g.put p).ext put⟩)
      ·cases a
     ·exact back a
    ·exact back a
def zQ:G2:=λd e S=>match e with
 | .non=>Z (.bl (mf d),S)
 | .bl b=>match d with
  | .bl c=>Z (.bl (c == b),S)
  |_=>Y
 |_=>Y
def qr:G2:=λd e S=>match e with
 | .non=>Z (.bl (!mf d),S)
 | .bl b=>match d with
  | .bl c=>Z (.bl (!(c == b)),S)
  |_=>Y
 |_=>Y
theorem DR:fJ X (compareOp .Is) (r2 X.K (b2 zQ)):=by
 intro ag s σ H x y u w Q I g k h;obtain⟨mu,S,d,e,r,l,i,a,j,f,hc⟩:=oy h;cases e with
 |non=>exact IA ag s σ H x y u w Q I g k ⟨mu,S,[d,.non],r,l,.cons i (.cons a .nil),j,f,hc⟩
 |bl b=>
  cases d with
  |bl c=>
   cases f;cases i;cases a;cases g;cases k;exact is_bool ⟨.bl (c == b),H,I,O,hc.now (.bl _) j⟩
  |_=>cases f
 |_=>cases f
theorem yP:fJ X (compareOp .IsNot) (r2 X.K (b2 qr)):=by
 intro ag s σ H x y u w Q I g k h;obtain⟨mu,S,d,e,r,l,i,a,j,f,hc⟩:=oy h;cases e with
 |non=>exact FW ag s σ H x y u w Q I g k ⟨mu,S,[d,.non],r,l,.cons i (.cons a .nil),j,f,hc⟩
 |bl b=>
  cases d with
  |bl c=>
   cases f;cases i;cases a;cases g;cases k;exact isnot_bool ⟨.bl (!(c == b)),H,I,O,hc.now (.bl _) j⟩
  |_=>cases f
 |_=>cases f
def oU:FE:=λ_ S=>Z (.ref S.length,S++[.dct []])
theorem re{pos:Pos}:XE X (.Dict [] [] pos) oU:=⟨em yH <| by
 rintro σ H Q ⟨r,mu,S,d,e,f,b,c,hc⟩ p a;cases c;exact hc _ _ (mu++[p]) (Ext.new_ a) (.ref (gY b.len p)) (b.new a ⟨[],d5,.nil⟩)⟩
def Gq:List (FE×FE)->Ev->Sto->Option (List (D×D)×Sto)
 |[],_,S=>Z ([],S)
 |(a,b)::l,r,S=>(a r S).bind λp=>(b r p.2).bind λq=>(Gq l r q.2).map λt=>((p.1,q.1)::t.1,t.2)
def zB:List (D×D)->Option (List (Key×D))
 |[]=>Z []
 |(k,d)::l=>(oD k).bind λk=>(zB l).map λt=>(k,d)::t
def zm(l:List (FE×FE)):FE:=λr S=>(Gq l r S).bind λp=>(zB p.1).bind λkvs=>if kvs.length<=15 then Z (.ref p.2.length,p.2++[.dct (kvs.foldl (λacc kv=>gE acc kv.1 kv.2) [])])else Y
structure XP (X:Cx)(pos:Pos)(ks:List (Option Expr))(vs:List Expr)(l:List (FE×FE)):Prop where
 h:Jt X pos ks vs (l.map λp=>(tM X.K p.1,tM X.K p.2))
theorem A5{pos:Pos}:XP X pos [] [] []:=⟨BO⟩
theorem xz{pos:Pos}{k v:Expr}{ks:List (Option Expr)}{vs:List Expr}{a b:FE}{l:List (FE×FE)}(hk:XE X k a)(hv:XE X v b)(t:XP X pos ks vs l):XP X pos (Z k::ks) (v::vs) ((a,b)::l):=⟨yz hk.h hv.h t.h⟩
theorem yx{K:Fg1}{σ:L2.St}:∀ {l:List (FE×FE)} {r:Ev} {mu:List cN} {H:Hp} {S e:Sto} {ps:List (D×D)} {Q:List (V×V)->Hp->Prop},fx K H mu r σ->Sim K H mu S->Gq l r S=some (ps,e) ->
  (∀vs H' mu',Ext mu mu' H H'->Paired (λ(p:D×D) (q:V×V)=>eA K H' mu' p.1 q.1/\eA K H' mu' p.2 q.2) ps vs->Sim K H' mu' e->Q vs H')->pJ (l.map λp=>(tM K p.1,tM K p.2)) σ H Q
 |[],r,mu,H,S,e,ps,Q,he,hs,c,hc=>by cases c;exact hc [] H mu (.refl _ _) .nil hs
 |(a,b)::l,r,mu,H,S,e,ps,Q,he,hs,c,hc=>by
  obtain⟨⟨d,i⟩,z,c⟩:=oB1.mp c;obtain⟨⟨n,x⟩,k,c⟩:=oB1.mp c;obtain⟨⟨t,B⟩,y,c⟩:=oM1.mp c;cases c;refine⟨r,mu,S,d,i,he,hs,z,λv H1 mu1 g m A=>⟨r,mu1,i,n,x,he.ext g,A,k,λC H2 o x2 r2 j=>?_⟩⟩;refine yx ((he.ext g).ext x2) j y λvs w f h u s=>hc _ w f ((g.trans x2).trans h) (.cons ⟨(m.ext x2).ext h,r2.ext h⟩ u) s
theorem zA{K:Fg1}{H:Hp}{mu:List cN}:∀ {ps:List (D×D)} {vs:List (V×V)} {kvs:List (Key×D)},Paired (fun (p:D×D) (q:V×V)=>eA K H mu p.1 q.1/\eA K H mu p.2 q.2) ps vs->zB ps=some kvs ->
  ∃ws:List (Key×V),vs=ws.map (λc=>(kV c.1,c.2))/\KR K H mu kvs ws:=by
 intro ps vs kvs j h
 induction j generalizing kvs with
 |nil=>cases h;exact⟨[],O,.nil⟩
 | @cons a b ps vs q t ih=>
  obtain⟨k,d⟩:=a;obtain⟨m,f⟩:=b;obtain⟨l,g,h⟩:=oB1.mp h;obtain⟨rest,i,h⟩:=oM1.mp h;cases h;obtain⟨ws,e,r⟩:=ih i;have:=jT q.1 g;dsimp only at this;subst this;exact⟨(l,f)::ws,by rw[mP1,<- e],.cons ⟨O,q.2⟩ r⟩
theorem zd{K:Fg1}{H:Hp}{mu:List cN}:∀{kvs:List (Key×D)} {ws:List (Key×V)} {acc:List (Key×D)} {acw:List (Key×V)},KR K H mu kvs ws->KR K H mu acc acw->KR K H mu (kvs.foldl (λacc c=>gE acc c.1 c.2) acc) (iT acw ws):=by
 intro kvs ws acc acw f h
 induction f generalizing acc acw with
 |nil=>exact h
 | @cons a b kvs ws r t ih=>
  obtain⟨k,d⟩:=a;obtain⟨g,v⟩:=b;obtain⟨e,r⟩:=r;dsimp only at e r;subst e;show KR K H mu (kvs.foldl _ (gE acc k d)) (iT (iC acw k v) ws);exact ih (h.put r)
theorem xB{pos:Pos}{ks:List (Option Expr)}{vs:List Expr}{l:List (FE×FE)}(h:XP X pos ks vs l)(k:ks.all (·.isSome)=M:=by rfl)(K:ks.length=vs.length:=by rfl)(P:ks≠[]:=by(intro z;cases z))(w:ks.length<=15:=by decide):XE X (.Dict ks vs pos) (zm l):=
 ⟨em (BW h.h k K P w) <| by
  rintro σ H Q ⟨r,mu,S,d,U,ar,E,f,hc⟩ p g;obtain⟨⟨ps,I⟩,R,f⟩:=oB1.mp f;obtain⟨kvs,L,f⟩:=oB1.mp f;dsimp only at f;split at f
  ·rename_i m;cases f;have C:Ext mu mu H (upd H p (.dK [])):=Ext.fresh g;refine yx (ar.ext C) (E.fresh g) R fun vs H1 mu1 i T j=>?_;obtain ⟨v,t⟩:=i.held (a:=p) (o:=.dK []) d5 (E.notin g);obtain ⟨ws,N,G⟩:=zA T L;refine ⟨v,ws,N,by rw [<- G.length];exact m,?_⟩;have put:Ext (p::mu1) (p::mu1) H1 (upd H1 p (.dK (iT [] ws))):=Ext.put v trivial mS1;have am:=j.aside put.inner t;have y:Ext mu (mu1++[p]) H (upd H1 p (.dK (iT [] ws))):=by
    refine⟨i.pre.trans (bv _ _),λb o e n=>?_,λb ys e=>put.tup b ys (i.tup b ys (C.tup b ys e)),λb o u e=>put.frz b o u (i.frz b o u (C.frz b o u e)),λb A=>?_⟩
    ·have F:b≠p:=d0 e g;rw[dG F];exact i.old b o (by rw[dG F];exact e) n
    ·rcases aE.mp A with z|z
     ·rcases i.new b z with q|q
      ·exact .inl q
      ·by_cases s:b=p
       ·exact .inr (by rw[s];exact g)
       ·rw[dG s]at q;exact .inr q
     ·have:b=p:=by simpa using z
      exact .inr (by rw[this];exact g)
   have x:=zd G (acc:=[]) (acw:=[]) .nil;refine hc _ _ (mu1++[p]) y (.ref (gY j.len p)) ⟨by rw[lA1,lA1,j.len];rfl,?_,λn o b h1 h2=>?_⟩
   ·rw[bx];refine⟨j.nd,by simp,λb ao c hc e=>?_⟩;have:c=p:=by simpa using hc
    subst this;subst e;exact t ao
   ·by_cases D:n<I.length
    ·rw[gL1 D]at h1;rw[gL1 (by rw[j.len];exact D)]at h2;exact(am.ob n o b h1 h2).mor [p]
    ·have B:n=I.length:=by
      have:=(gE1.mp h1).1;rw[lA1]at this;simp at this;lia
     subst B;rw[gR1 (nR1 _)]at h1;rw[<- j.len,gR1 (nR1 _)]at h2;simp at h1 h2;subst h1;subst h2;exact⟨_,d5,KR.mor [p] (Paired.mapP x λ_ _ z=>⟨z.1,z.2.exw put.inner⟩)⟩
  ·cases f⟩
def zn(m a:FE):FE:=λr S=>(m r S).bind λp=>match p.1 with
 | .ref n=>match p.2[n]? with
  |some (.dct _)=>(a r p.2).bind λq=>match q.2[n]? with
   |some (.dct kvs)=>(oD q.1).map λk=>((dB kvs k).getD .non,q.2)
   |_=>Y
  |_=>Y
 |_=>Y
theorem GG{K:Fg1}{H:Hp}{mu:List cN}{S:Sto}(hs:Sim K H mu S){n:Nat}{a:cN}{kvs:List (Key×D)}(hn:mu[n]?=Z a)(he:S[n]?=Z (.dct kvs)):K1 H a:=by
 obtain⟨ws,b,_⟩:=hs.dct he hn;exact .inl ⟨ws,.inl b⟩
theorem we {o e:Expr}{apos cpos:Pos}{m a:FE}(G:X.A.units+64<cLine)(ho:XE X o m)(he:XE X e a)(hm:M1 X o "get" apos e cpos:=by exact⟨O,O,O,O⟩):XE X (.Call (.Attribute o "get" apos) [e] [] cpos) (zn m a):=
 ⟨em (yI (by lia) ho.h he.h hm) <| by
  rintro σ H Q ⟨r,mu,S,d,I,he,s,hm,hc⟩;obtain⟨⟨u,j⟩,D,hm⟩:=oB1.mp hm;refine⟨r,mu,S,u,j,he,s,D,λam H1 mu1 h w l=>?_⟩;dsimp only at hm;split at hm
  ·rename_i n;split at hm
   ·rename_i t f;cases w with
    |ref i=>
     refine⟨_,O,GG l i f,?_⟩;obtain⟨⟨x,A⟩,p,hm⟩:=oB1.mp hm;refine⟨r,mu1,j,x,A,he.ext h,l,p,λF H2 b x2 r2 c=>?_⟩;dsimp only at hm;split at hm
     ·rename_i kvs q;obtain⟨k,C,hm⟩:=oM1.mp hm;cases hm;obtain⟨E,g,h1,h2,_⟩:=k8 c (x2.at i) q (jT r2 C);refine⟨E,g,?_⟩;cases e:dB kvs k with
      |none=>rw[h2 e];rw[e]at hc;exact hc _ H2 b (h.trans x2) .non c
      |some z=>obtain⟨v,y,B⟩:=h1 z e;subst y;rw[e]at hc;exact hc _ H2 b (h.trans x2) B c
     ·cases hm
   ·cases hm
  ·cases hm⟩
end
section
variable{K:Fg1}{H H':Hp}{mu mu':List cN}{S:Sto}
end
theorem yL{P:cO}{w:cQ}{K:Fg1}{mg:Str->Option cK}{base:cW}{x a:Str}{st:cY}{f:cN}{fd:cX}{ps:List Str}{k n:Nat}(F:wa K x a st f fd)(hb:jN K fd ps [])(hm:mg x=Z (.ref f)):Own P w K mg base k x n (λ_ _=>Y):=by
 have g:∀vs H Q E,¬ spM K n (λ_ _=>Y) vs H Q E:=λvs H Q E h=>by
  obtain⟨_,mu,S,ds,d,j,_,_,e,_⟩:=h;cases e
 exact⟨f,fd,ps,⟨λvs H Q E h=>absurd h (g vs H Q E),λA b s H c i vs Q E _ _ _ _ h=>absurd h (g vs H Q E)⟩,hb,F.kp,hm⟩
theorem uO{X:Cx}(i j:Nat){x y:Str}{a b:Expr}{m:FA}{k n pt pos:Pos}{kt k2 pt2}(hc:X.calm=true)(hN:X.N.Nodup)(hi:X.N[i]? = some x)(s:X.N[j]? = some y)(l:i≠j)(hx:X.env.scope.names.lookup x=some .local)(hy:X.env.scope.names.lookup y=some .local)(ha:XA X [a,b] m)(hw:swappedStores [.Tuple [.Name x k,.Name y n] kt pt] (.Tuple [a,b] k2 pt2) X.env=pure (some [x,y]):=by rfl)(hs:swapsWithSole [.Tuple [.Name x k,.Name y n] kt pt] (.Tuple [a,b] k2 pt2) pos.line X.env=pure false:=by rfl):
  XS X (.Assign [.Tuple [.Name x k,.Name y n] kt pt] (.Tuple [a,b] k2 pt2) pos) (dY (d2 m) (gT 2 (gn (gN i) (gn (gN j) mh)))):=
 ⟨il (Fc hc hN hi s l hx hy ha.h hw hs) <| by
  rintro E σ H ⟨r,mu,S,f,z,C,o,hs,g,hc⟩;obtain⟨⟨d,A⟩,e,g⟩:=oB1.mp g;obtain⟨⟨r2,B⟩,c,g⟩:=oB1.mp g;cases g;obtain⟨⟨ds,w⟩,t,e⟩:=oB1.mp e;dsimp only at e;split at e
  ·cases e;refine⟨r,mu,S,ds,_,o,hs,t,λvs H1 mu1 p h u=>?_⟩;dsimp only at c;rw[gT]at c;split at c
   ·cases h with
    |nil=>cases c
    |cons v h=>cases h with
     |nil=>cases c
     |cons q h=>cases h with
      |nil=>
       cases c;exact⟨_,_,O,hc _ H1 mu1 p (((o.ext p).set v).set q) u⟩
      |cons _ _=>cases c
   ·cases c
  ·cases e⟩
def zX:G2:=λd e S=>match d,e with
 | .int i,.int j=>Z (.int (i+j),S)
 |_,_=>Y
theorem CN{X:Cx}:JT X .Add (r2 X.K (b2 zX)):=by
 intro ag s σ H x y v u Q I c k h;obtain⟨mu,S,d,e,r,l,f,b,g,a,hc⟩:=oy h;unfold zX at a;split at a
 ·rename_i i j;cases a;cases f;cases b;exact CO ag s σ H _ _ v u Q I c k ⟨i,j,O,O,hc.now (.int _) g⟩
 ·cases a
end Mi
namespace HT
open PySem PySem.Spec PyProof.Rows
variable{prog:cO}{w:cQ}{A:cP}{E:cK->cM->Prop}{s:cM}
theorem jZ{t sl:cN}{items:Array cK}{f e:cK}{lo hi:Option Int}{Q:cK->cM->Prop}(ht:IsTup s.heap t items)(hs:s.heap.IsSliceOf sl f e .none)(pl:IsPart f lo)(g:IsPart e hi)(hw:sIx items.size 0 lo=0/\sIx items.size items.size hi=items.size)(h:Q (.ref t) s):cU (model prog w) A (getItem (.ref t) (.ref sl)) Q E s:=by
 obtain⟨j,d,c,i⟩:=id hs;have b:s.TypeIs (.ref sl) "slice":=⟨j,d,c⟩;unfold getItem
 try with_reducible refine wpAny_holding ?_
 first|refine wB1 (wP1 ?_)|skip
 refine wB1 (wpAny_sequenceKey ht.typeIs (by decide) ?_);refine wB1 (wpAny_callSpecial?_slot (name:=Str.ofString "__getitem__") ht.typeIs PyProof.Rows.slot_tuple_getitem
  (wE1 PyProof.Rows.slot_tuple_getitem ht.typeIs entry_tuple_getitem ?_ (args_tuple_getitem _ _)))
 show cU _ _ (Builtin.Tuple.tupleItemsOf (.ref t) >>= _) _ _ s;refine wB1 (tupleItemsOf_ ht ?_);refine wB1 (wpAny_typeOf b ?_);rw[ak (by decide)];refine wB1 (ix hs pl g ?_);have a:((((sIx items.size 0 lo:Nat):Int) == 0&&(1:Int) == 1&&(sIx items.size items.size hi-sIx items.size 0 lo) == items.size)=M):=by
  rw[hw.1,hw.2];simp
 show cU _ _ (if(((sIx items.size 0 lo:Nat):Int) == 0&&(1:Int) == 1&&(sIx items.size items.size hi-sIx items.size 0 lo) == items.size)=M then _ else _) _ _ s;rw[ak a];refine wB1 ?_;unfold Builtin.Tuple.tupleIsExact;refine wB1 (wpAny_typeOf ht.typeIs (wP1 ?_));rw[ak (by decide)]
 first
  |exact wB1 (wpAny_rule (wP1 ⟨_,rfl,wP1 h⟩))
  |exact wB1 (wpAny_rule (wB1 (wP1 ⟨_,rfl,wP1 h⟩)))
end HT
namespace Mi
open PySem PySem.Spec PyProof.Rows L2
def Kj(K:Fg1):V->Option Int->Option Int->Hp->VK->Prop:=λx lo hi H Q=>∃a xs,x = .ref a/\jW K H a xs/\(HT.sIx xs.length 0 lo=0/\HT.sIx xs.length xs.length hi=xs.length)/\Q (.ref a) H
section
variable{X:Cx}
theorem Bt:A3 X (Kj X.K):=by
 intro ag s σ H x v m k lo hi sl Q I g j pl e h;obtain⟨a,xs,rfl,i,f,q⟩:=h;cases g;obtain⟨c,r,d,l⟩:=I.tuple i;have b:c.toArray.size=xs.length:=by rw[aJ];exact r.length.symm
 refine⟨"tuple",_,PyProof.Rows.slot_tuple_getitem.lookup,d.typeIs,?_⟩;exact HT.jZ d j pl e (by rw[b];exact f) ⟨.ref a,H,I,O,q⟩
def EI(S:Sto)(d:D)(lo hi:Option Int):Option (D×Sto):=(dn S d).map λp=>if p.1=M then(.ref S.length,S++[.lst (Mi.iZ p.2 lo hi)])else(.tup (Mi.iZ p.2 lo hi),S)
def qk(m:FE)(lo hi:FO):FE:=λr S=>(m r S).bind λp=>(lo r p.2).bind λa=>(hi r a.2).bind λb=>EI b.2 p.1 a.1 b.1
theorem w1{xs:List D}{lo hi:Option Int}(h:HT.sIx xs.length 0 lo=0/\HT.sIx xs.length xs.length hi=xs.length):Mi.iZ xs lo hi=xs:=by
 unfold Mi.iZ;rw[h.1,h.2,List.drop_zero,Nat.sub_zero,bR]
theorem hH{e:Expr}{lo hi:Option Expr}{m:FE}{a b:FO}{pos p2:Pos}(h:XE X e m)(C:XO X lo a)(am:XO X hi b):XE X (.Subscript e (.Slice lo hi Y p2) pos) (qk m a b):=
 ⟨em (yF (A3.or Bt (A3.or EJ Bu)) h.h C.h am.h) <| by
  rintro σ H Q ⟨r,mu,S,d,P,u,E,f,hc⟩;obtain⟨⟨G,y⟩,L,f⟩:=oB1.mp f;obtain⟨⟨n,z⟩,D,f⟩:=oB1.mp f;obtain⟨⟨l,F⟩,K,f⟩:=oB1.mp f;refine⟨r,mu,S,G,y,u,E,L,λv H1 mu1 w I ao=>?_⟩;refine⟨r,mu1,y,n,z,u.ext w,ao,D,λH2 s x2 B=>?_⟩;refine⟨r,s,z,l,F,(u.ext w).ext x2,B,K,λar g A j=>?_⟩;obtain⟨⟨k,xs⟩,N,f⟩:=oM1.mp f;have o:=(w.trans x2).trans A;obtain⟨c,vs,rfl,q,t⟩:=dA ((I.ext x2).ext A) j N;cases k with
  |true=>
   cases f;right;right;exact⟨c,vs,O,q,λp i=>hc _ _ (g++[p]) (o.trans (Ext.new_ i)) (.ref (gY j.len p)) (j.newL (vW t n l) i)⟩
  |false=>
   simp only[bF1,if_false]at f;cases f;by_cases x:HT.sIx xs.length 0 n=0/\HT.sIx xs.length xs.length l=xs.length
   ·left;rw[w1 x]at hc;exact⟨c,vs,O,q,by rw[<- t.length];exact x,hc _ _ g o (.tup q t) j⟩
   ·right;left;exact⟨c,vs,O,q,by rw[<- t.length];exact x,λp i=>hc _ _ g (o.trans (Ext.fresh i)) (.tup (jW.of d5) ((vW t n l).ext (Ext.fresh i))) (j.fresh i)⟩⟩
end
mutual
inductive gL (h:cW):TK->cK->Prop
 |non:gL h .non .none
 |int (i t):gL h (.int i) (.int i t)
 |tup {a o items n xs}:h.get? a=some o->o.cls = .type "tuple"->o.data = .seq items n->gm h xs items.toList->gL h (.tup xs) (.ref a)
inductive gm (h:cW):List TK->List cK->Prop
 |nil:gm h [] []
 |cons {k v ks vs}:gL h k v->gm h ks vs->gm h (k::ks) (v::vs)
end
section
variable{prog:cO}{w:cQ}{A:cP}{E:cK->cM->Prop}{s:cM}
theorem rD{Q:Int->cM->Prop}(h:Q 0xFCA86420 {s with toks:=s.toks+1}):cU (model prog w) A (pyHash .none) Q E s:=by
 have a:s.TypeIs .none "NoneType":=rfl;unfold pyHash
 first|unfold pyHashByItsType|skip
 have b:[Value.none].any Value.onHeap=J:=rfl;refine wB1 ?_;rw[cRoomFor,aj (by rw[b];exact aI)];refine wP1 ?_;refine wB1 (wpAny_specialOf a F.slot_NoneType_hash.lookup ?_);show cU _ _ (if(Z (Value.builtin "NoneType.__hash__") == Z Value.none)=M then _ else _) Q E s;rw[aj (by rw[beq_builtin_none];exact aI)];refine wB1 (wpAny_specialOf a F.slot_NoneType_hash.lookup ?_);show cU _ _ (callSpecialIfBoundUnlessNone? .none "__hash__" _ >>= _) Q E s;refine wB1 (wpAny_callSpecialIfBoundUnlessNone?_slot a F.slot_NoneType_hash (wE1 F.slot_NoneType_hash a F.entry_NoneType_hash (show cU _ _ (retInt 0xFCA86420) _ _ s from wpAny_ret_mkInt ?_) (F.args_NoneType_hash_1 _)));exact wP1 h
def qS(prog:cO)(w:cQ)(k:TK):Prop:=∀{A:cP} {E:cK->cM->Prop} {s:cM} {v:cK} {Q:Int->cM->Prop},A.units+k.dep<cLine->gL s.heap k v->Q k.hash {s with toks:=s.toks+k.draws}->cU (model prog w) A (pyHash v) Q E s
theorem gm.split{h:cW}:∀{ks:List TK} {vs:List cK},gm h ks vs->ks.length=vs.length:=λa=>a.rec (motive_1:=λ_ _ _=>True) (motive_2:=λks vs _=>ks.length=vs.length) trivial (λ_ _=>trivial) (λ_ _ _ _ _=>trivial) O (λ_ _ _ ih=>congrArg (· + 1) ih)
theorem zK{xs:List TK}(all:∀k∈xs,qS prog w k):qS prog w (.tup xs):=by
 intro A E s v Q u t h;cases t with
 | @tup a o m n _ r hc y hi=>
  have l:s.TypeIs (.ref a) "tuple":=⟨o,r,hc⟩;rw[TK.dep]at u;unfold pyHash
  first|unfold pyHashByItsType|skip
  first|refine wB1 (wpAny_cRoomFor_or (.inr (by lia)) ?_)|skip
  refine wB1 (wpAny_specialOf l F.slot_tuple_hash.lookup ?_);show cU _ _ (if(Z (Value.builtin "tuple.__hash__") == Z Value.none)=M then _ else _) Q E s;rw[aj (by rw[beq_builtin_none];exact aI)];refine wB1 (wpAny_specialOf l F.slot_tuple_hash.lookup ?_);show cU _ _ (callSpecialIfBoundUnlessNone? (.ref a) "__hash__" _ >>= _) Q E s;refine wB1 (wpAny_callSpecialIfBoundUnlessNone?_slot l F.slot_tuple_hash (wE1 F.slot_tuple_hash l F.entry_tuple_hash ?_ (F.args_tuple_hash_1 _)));show cU _ _ (Builtin.Tuple.tupleItemsOf (.ref a) >>= _) _ _ s;refine wB1 (wpAny_tupleItemsOf r y ?_);refine wB1 ?_;rw[<- Array.forIn_toList];refine wpAny_forIn_list _
   (λrest (b:Array Int) s'=>∃c d,xs=c++d/\gm s.heap d rest/\b.toList=TK.hashes c/\s'={s with toks:=s.toks+TK.drawsAll c})
   _ ?_ ?_ _ _ ⟨[],xs,O,hi,O,O⟩
  ·rintro x rest b s' ⟨c,d,e,p,i,rfl⟩;cases p with
   | @cons k _ g _ h1 f=>
    have q:k∈xs:=by rw[e];simp
    refine wB1 (all k q (show A.in1.units+k.dep<cLine by have:=TK.dep_mem q;rw[show A.in1.units=A.units+1 from rfl];lia) h1 ?_)
    first
     |exact wP1 ⟨c++[k],g,by simp[e],f,by rw[TK.hashes_app];simp[i,TK.hashes],by rw[TK.draws_app];simp[TK.drawsAll,bo]⟩
     |exact wB1 (wP1 (wP1 ⟨c++[k],g,by simp[e],f,by rw[TK.hashes_app];simp[i,TK.hashes],by rw[TK.draws_app];simp[TK.drawsAll,bo]⟩))
  ·rintro b s' ⟨c,d,e,p,i,rfl⟩;cases p;rw[aK]at e;subst e;show cU _ _ (retInt (Builtin.Tuple.tupleHashOf b.toList)) _ _ _;rw[i];refine wpAny_ret_mkInt ?_;show cU _ _ (if(decide (-(2:Int)^63<=Builtin.Tuple.tupleHashOf (TK.hashes xs))&&decide (Builtin.Tuple.tupleHashOf (TK.hashes xs)<2^63))=M then _ else _) Q E _;rw[TK.hash,TK.draws]at h;unfold reduceHash at h;by_cases j:(decide (-(2:Int)^63<=Builtin.Tuple.tupleHashOf (TK.hashes xs))&&decide (Builtin.Tuple.tupleHashOf (TK.hashes xs)<2^63))=M
   ·rw[ak j];rw[ak j]at h;exact wP1 (by simpa[bo]using h)
   ·rw[aj j];rw[aj j]at h;exact wB1 (wpAny_rule (wP1 (by simpa[bo]using h)))
mutual
theorem vF:∀k:TK,qS prog w k
 | .non=>λb a h=>by cases a;exact rD h
 | .int i=>λb a h=>by cases a;exact wpAny_pyHash_int h
 | .tup xs=>zK (sv xs)
theorem sv:∀ks:List TK,∀k∈ks,qS prog w k
 |[],k,h=>by simp at h
 |x::xs,k,h=>by
  by_cases e:k=x
  ·rw[e];exact vF x
  ·exact sv xs k ((aD.mp h).resolve_left e)
end
end
theorem gL.inj{h:cW}:∀ {k k':TK} {v:cK},gL h k v->gL h k' v->k=k':=fun i=>i.rec (motive_1:=fun k v _=>∀ k',gL h k' v->k=k') (motive_2:=fun k v _=>∀ k',gm h k' v->k=k')
  (λk' g=>by cases g;rfl) (λ_ _ k' g=>by cases g;rfl)
  (λf n e m ih k' g=>by
   cases g with
   |tup d l c j=>
    rw[f]at d;cases d;rw[e]at c;cases c;rw[ih _ j])
  (λk' g=>by cases g;rfl) (λ_ _ a b k' g=>by cases g with|cons r' t'=>rw[a _ r',b _ t']) _
theorem gm.inj{h:cW}:∀ {k k':List TK} {v:List cK},gm h k v->gm h k' v->k=k':=fun c=>c.rec (motive_1:=fun _ _ _=>True) (motive_2:=fun k v _=>∀ k',gm h k' v->k=k') trivial (fun _ _=>trivial) (fun _ _ _ _ _=>trivial)
  (λk' g=>by cases g;rfl) (λa _ _ b k' g=>by cases g with|cons r' t'=>rw[gL.inj a r',b _ t']) _
theorem gL.keeps{h h':cW}{d:cN}{o:Obj}{es ep}(ho:h.get? d=some o)(hd:o.data = .dict es ep)(hs:Heap.SameBut d h h'):∀ {k:TK} {v:cK},gL h k v->gL h' k v:=fun f=>f.rec (motive_1:=fun k v _=>gL h' k v) (motive_2:=fun k v _=>gm h' k v) .non .int
  (λ{a} _ _ _ _ e g c _ ih=>.tup ((hs.2 a (λz=>by subst z;rw[e]at ho;cases ho;rw[c]at hd;cases hd)).trans e) g c ih) .nil (λ_ _ a b=>.cons a b)
theorem gm.at{h:cW}:∀{ks:List TK} {vs:List cK} (j:Nat) (h1:j<ks.length) (h2:j<vs.length),gm h ks vs->gL h ks[j] vs[j]
 |_::_,_::_,0,_,_,.cons r _=>r
 |_::ks,_::vs,j+1,h1,h2,.cons _ t=>gm.at j (by simpa using h1) (by simpa using h2) t
theorem AQ{xs ys:List TK}(b:xs.length=ys.length):((af (min xs.length ys.length)).all λj=>decide (xs[j]?=ys[j]?))=decide (xs=ys):=by
 by_cases h:xs=ys
 ·subst h;simp
 ·rw[ai h,List.all_eq_false];have:∃j,xs[j]? ≠ ys[j]?:=Classical.byContradiction λz=>h (bT λj=>Classical.byContradiction λq=>z ⟨j,q⟩);obtain⟨j,a⟩:=this;refine⟨j,?_,by simpa using a⟩;rw[aA,b,Nat.min_self];apply Classical.byContradiction;intro c;exact a (by rw[bU (by lia),bU (by lia)])
theorem Jd:∀(n:Nat) {k k':TK} {A:cP} {s:cM} {u v:cK},k.dep<=n->A.units+n<cLine->gL s.heap k u->gL s.heap k' v->SeqAt.EqAt A s u v (decide (k=k')):=by
 intro n
 induction n with
 |zero=>
  intro k k' A s u v I S r g;cases r with
  |tup _ _ _ _=>simp[TK.dep]at I
  |non=>
   cases g with
   |non=>simpa using SeqAt.EqAt.same (A:=A) (s:=s) Value.none
   |int i t=>simpa[tm]using kA (A:=A) (s:=s) (y:=.non) (x:=.int i) O ⟨t,O⟩ O O
   |tup e c d t=>simpa using(ff (A:=A) (s:=s) (b:=J) (v:=.non) (u:=.none) ⟨_,e,c,_,d⟩ O O (by lia)).2.1
  |int i t=>
   cases g with
   |non=>simpa[tm]using kA (A:=A) (s:=s) (y:=.int i) (x:=.non) ⟨t,O⟩ O O O
   |int j G=>
    have:=kA (A:=A) (s:=s) (y:=.int i) (x:=.int j) ⟨t,O⟩ ⟨G,O⟩ O O;have e:tm (.int i) (.int j)=decide (TK.int i=TK.int j):=by
     by_cases h:i=j
     ·subst h;simp[tm]
     ·rw[ai (λz=>h (by injection z))];simp[tm,h]
    rw[e]at this;exact this
   |tup e c d q=>simpa using(ff (A:=A) (s:=s) (b:=J) (v:=.int i) (u:=.int i t) ⟨_,e,c,_,d⟩ ⟨t,O⟩ O (by lia)).2.1
 |succ n ih=>
  intro k k' A s u v I S r g;cases r with
  |non=>
   cases g with
   |non=>simpa using SeqAt.EqAt.same (A:=A) (s:=s) Value.none
   |int i t=>simpa[tm]using kA (A:=A) (s:=s) (y:=.non) (x:=.int i) O ⟨t,O⟩ O O
   |tup e c d t=>simpa using(ff (A:=A) (s:=s) (b:=J) (v:=.non) (u:=.none) ⟨_,e,c,_,d⟩ O O (by lia)).2.1
  |int i t=>
   cases g with
   |non=>simpa[tm]using kA (A:=A) (s:=s) (y:=.int i) (x:=.non) ⟨t,O⟩ O O O
   |int j G=>
    have:=kA (A:=A) (s:=s) (y:=.int i) (x:=.int j) ⟨t,O⟩ ⟨G,O⟩ O O;have e:tm (.int i) (.int j)=decide (TK.int i=TK.int j):=by
     by_cases h:i=j
     ·subst h;simp[tm]
     ·rw[ai (λz=>h (by injection z))];simp[tm,h]
    rw[e]at this;exact this
   |tup e c d q=>simpa using(ff (A:=A) (s:=s) (b:=J) (v:=.int i) (u:=.int i t) ⟨_,e,c,_,d⟩ ⟨t,O⟩ O (by lia)).2.1
  | @tup a o f m xs w B p F=>
   cases g with
   |non=>simpa using(ff (A:=A) (s:=s) (b:=J) (v:=.non) (u:=.none) ⟨_,w,B,_,p⟩ O O (by lia)).1
   |int i t=>simpa using(ff (A:=A) (s:=s) (b:=J) (v:=.int i) (u:=.int i t) ⟨_,w,B,_,p⟩ ⟨t,O⟩ O (by lia)).1
   | @tup a2 T items2 m2 ys K ao L H=>
    by_cases P:a=a2
    ·subst P;have:TK.tup xs=TK.tup ys:=gL.inj (.tup w B p F) (.tup K ao L H);rw[ah this];exact .same _
    ·refine .of_refs P ?_;have am:=F.split;have N:=H.split;have E:=SeqAt.RcAt.tuples (A:=A) (s:=s) (e:=fun j=>decide (xs[j]? = ys[j]?)) ⟨o,w,B,m,p⟩ ⟨T,K,ao,m2,L⟩ (by lia) (fun j h1 h2=>by
      have C:j<xs.length:=by rw[am];simpa using h1
      have ar:j<ys.length:=by rw[N];simpa using h2
      rw[TK.dep]at I;have V:=TK.dep_mem (bN C);have q:=ih (k:=xs[j]) (k':=ys[j]) (A:=A.in1) (s:=s) (by lia) (by show A.units+1+n<cLine;lia) (F.at j C (by simpa using h1)) (H.at j ar (by simpa using h2));have e:decide (xs[j]?=ys[j]?)=decide (xs[j]=ys[j]):=by
       rw[gG1 C,gG1 ar];simp
      rw[e];simpa using q)
     have U:f.size=xs.length:=by rw[am];simp
     have Q:items2.size=ys.length:=by rw[N];simp
     rw[U,Q]at E;have D:((af (min xs.length ys.length)).all (λj=>decide (xs[j]?=ys[j]?))&&xs.length == ys.length)=decide (TK.tup xs=TK.tup ys):=by
      by_cases l:xs.length=ys.length
      ·rw[AQ l,l,beq_self_eq_true,bH];by_cases h:xs=ys
       ·subst h;simp
       ·rw[ai h,ai (λz=>h (by injection z))]
      ·have R:(xs.length == ys.length)=J:=by simpa using l
       rw[R,aZ,ai (λz=>l (by injection z with z;rw[z]))]
     rw[D]at E;exact E
theorem yj{prog:cO}{w:cQ}:∀(n:Nat) {k:TK} {A:cP} {E:cK->cM->Prop} {s:cM} {v:cK} {Q:Bool->cM->Prop},k.dep<=n->gL s.heap k v->Q M s->cU (model prog w) A (eqIsQuiet n v) Q E s:=by
 intro n
 induction n with
 |zero=>
  intro k A E s v Q e r h;cases r with
  |non=>rw[eqIsQuiet_byValue 0 O];exact wP1 h
  |int i t=>rw[eqIsQuiet_byValue 0 O];exact wP1 h
  |tup _ _ _ _=>simp[TK.dep]at e
 |succ n ih=>
  intro k A E s v Q e r h;cases r with
  |non=>rw[eqIsQuiet_byValue _ O];exact wP1 h
  |int i t=>rw[eqIsQuiet_byValue _ O];exact wP1 h
  | @tup a o b m xs f z l u=>
   have g:s.TypeIs (.ref a) "tuple":=⟨o,f,z⟩;rw[TK.dep]at e;unfold eqIsQuiet;refine wB1 (wpAny_specialOf g F.slot_tuple_eq.lookup ?_);show cU _ _ (isInstance (.ref a) (.type "tuple") >>= _) _ _ s;refine wB1 (wpAny_isInstance g isSubtype_tuple_tuple ?_);simp only[bW,bF1,if_false];refine wB1 (wpAny_seqItems f l ?_);refine wB1 ?_;show cU _ _ (forIn b _ _) _ _ s;rw[<- Array.forIn_toList];refine wpAny_forIn_list _ (λrest r s'=>r.1=Y/\s'=s /\ ∃ks,gm s.heap ks rest/\TK.depAll ks<=n) _ ?_ ?_ _ _ ⟨O,O,xs,u,by lia⟩
   ·rintro v rest r s' ⟨d,rfl,ks,p,y⟩;cases p with
    | @cons q _ c _ x j=>
     rw[TK.depAll]at y;refine wB1 (ih (k:=q) (by lia) x ?_);simp only[bW,bF1,if_false];exact wP1 ⟨O,O,c,j,by lia⟩
   ·rintro⟨B,r2⟩ s' ⟨d,rfl,_⟩;simp only at d;subst d;exact wP1 h
def js(prog:cO)(w:cQ):HeapKind prog w TK where
 is:=λh k a=>gL h k (.ref a)/\k.dep<=8
 hash:=TK.hash
 draws:=TK.draws
 room:=λA=>A.units+8<cLine
 inj:=λhx hy=>hx.1.inj hy.1
 keeps:=λx ho hd hs=>⟨x.1.keeps ho hd hs,x.2⟩
 pyHash:=λhu hk h=>vF _ (by have:=hk.2;omega) hk.1 h
 eqBool:=λhu hx hy h=>Jd 8 hx.2 hu hx.1 hy.1 _ _ _ _ h
 quiet:=λhk h=>yj 8 hk.2 hk.1 h
def zS:G2:=λo v S=>match o,v with
 | .ref n,.ref b=>match S[n]?,S[b]? with
  |some (.lst xs),Z (.lst ys)=>if xs.length+ys.length<=cT then Z (.non,S.set n (.lst (xs++ys)))else Y
  |_,_=>Y
 |_,_=>Y
def nK(n:Nat)(k:Int):Nat:=if k<0 then(k+(n:Int)).toNat else min k.toNat n
def uw:G3:=λo i v S=>match o,i with
 | .ref n,.int k=>match S[n]? with
  |some (.lst xs)=>if-(2^63)<=k/\k<2^63/\xs.length<cT then Z (.non,S.set n (.lst (xs.take (nK xs.length k)++v::xs.drop (nK xs.length k))))else Y
  |_=>Y
 |_,_=>Y
section
open PySem.MeetsSeq PySem.MeetsSeq2 PySem.MeetsSeq3 PySem.SeqRoads2
end
section
variable{X:Cx}
theorem Ki{K:Fg1}{H:Hp}{Q:VK}{f:G3}{xs:List V}(h:rN K (b3 f) xs H Q):∃x y z mu S d e g r b,xs=[x,y,z]/\eA K H mu d x/\eA K H mu e y/\eA K H mu g z/\Sim K H mu S/\f d e g S=Z (r,b)/\qT K mu H r b Q:=by
 obtain⟨mu,S,ds,r,b,i,j,a,hc⟩:=h;cases i with
 |nil=>cases a
 |cons q t=>cases t with
  |nil=>cases a
  |cons c t=>cases t with
   |nil=>cases a
   |cons k t=>cases t with
    |nil=>exact⟨_,_,_,mu,S,_,_,_,r,b,O,q,c,k,j,a,hc⟩
    |cons l t=>cases a
theorem HK:Hz X "list.extend" (λx xs H Q=>rN X.K (b2 zS) (x::xs) H Q):=by
 intro ag s σ H x xs v p Q I m q h;obtain⟨z,y,mu,S,d,e,A,B,j,o,r2,g,a,hc⟩:=Bx h;cases j;unfold zS at a;split at a
 ·rename_i n b;split at a
  ·rename_i ys zs u k;split at a
   ·rename_i r;cases a;cases o with
    |ref f=>cases r2 with
     |ref w=>
      obtain⟨vs,c,t⟩:=g.lst u f;obtain⟨ws,l,i⟩:=g.lst k w;refine wB ag s σ H _ _ v p Q I m q ⟨_,_,vs,ws,O,O,c,l,by rw[<- t.length,<- i.length];exact r,?_⟩;exact hc _ _ mu (Ext.put c trivial (gM1 f)) .non (g.putL (t.append i) f c)
   ·cases a
  ·cases a
 ·cases a
theorem HJ:Hz X "list.insert" (λx xs H Q=>rN X.K (b3 uw) (x::xs) H Q):=by
 intro ag s σ H x xs v E Q I p B h;obtain⟨am,y,z,mu,S,d,e,g,K,P,C,w,r2,q,j,b,hc⟩:=Ki h;cases C;unfold uw at b;split at b
 ·rename_i n k;split at b
  ·rename_i ys r;split at b
   ·rename_i m;cases b;cases w with
    |ref i=>
     cases r2;obtain⟨vs,f,t⟩:=j.lst r i;cases p;obtain⟨L,l,rfl,D,o⟩:=B.two;obtain⟨tk,rfl⟩:=D;obtain⟨N,a,A,c,G,e⟩:=I.lstM f;have ao:=t.length;have ar:=c.length;refine call_meets F.slot_list_insert ⟨_,e,O⟩ F.entry_list_insert (F.args_list_insert_3 _ _ _)
      (AutoSeq1.list_insert_list_int_val_1 _ a.toArray A k tk l (by rw[fitsIndex_both m.1 m.2.1];exact aI) (by rw[aJ];omega)) ⟨e,?_⟩
     have x:=Ext.put (u:=.lst (vs.take (nK ys.length k)++z::vs.drop (nK ys.length k))) f trivial (gM1 i);refine⟨.non,_,I.lset (its':=a.take (nK ys.length k)++l::a.drop (nK ys.length k)) f e ?_ ((c.take _).append (.cons o (c.drop _))) ?_,O,hc _ _ mu x .non (j.putL ((t.take _).append (.cons q (t.drop _))) i f)⟩
     ·rw[show ys.length=a.length by omega];simp[nK];exact bX (by simp)
     ·simp;omega
   ·cases b
  ·cases b
 ·cases b
end
mutual
def kD:D->Option TK
 | .non=>Z .non
 | .int i=>Z (.int i)
 | .tup xs=>(IR xs).map .tup
 |_=>Y
def IR:List D->Option (List TK)
 |[]=>Z []
 |x::xs=>(kD x).bind λk=>(IR xs).map (k :: ·)
end
def lI:D->Option TK
 | .tup xs=>(IR xs).bind λks=>if(TK.tup ks).dep<=8 then Z (.tup ks)else Y
 |_=>Y
mutual
theorem IS:∀{d:D} {k:TK},kD d=Z k->om k=d
 | .non,k,h=>by cases h;rfl
 | .int i,k,h=>by cases h;rfl
 | .tup xs,k,h=>by
  rw[kD]at h;obtain⟨ks,e,h⟩:=oM1.mp h;subst h;rw[om,um e]
 | .bl _,k,h=>by simp[kD]at h
 | .str _,k,h=>by simp[kD]at h
 | .rol _,k,h=>by simp[kD]at h
 | .fn _,k,h=>by simp[kD]at h
 | .ref _,k,h=>by simp[kD]at h
theorem um:∀{ds:List D} {ks:List TK},IR ds=Z ks->mz ks=ds
 |[],ks,h=>by cases h;rfl
 |x::xs,ks,h=>by
  rw[IR]at h;obtain⟨k,b,h⟩:=oB1.mp h;obtain⟨t,a,h⟩:=oM1.mp h;subst h;rw[mz,IS b,um a]
end
theorem CH{d:D}{k:TK}(h:lI d=Z k):om k=d/\k.dep<=8 /\ ∃xs,k = .tup xs:=by
 cases d with
 |tup xs=>
  rw[lI]at h;obtain⟨ks,e,h⟩:=oB1.mp h;split at h
  ·rename_i a;cases h;exact⟨by rw[om,um e],a,ks,O⟩
  ·cases h
 |_=>cases h
section
variable{X:Cx}{ag:List (cN×Obj)}{σ:L2.St}{H:Hp}{s:cM}{mu:List cN}
mutual
theorem uV(I:Inv X ag σ H s):∀(k:TK) {v:V} {u:cK},eA X.K H mu (om k) v->dD v u->gL s.heap k u
 | .non,v,u,r,q=>by
  rw[om]at r;cases r;cases q;exact .non
 | .int i,v,u,r,q=>by
  rw[om]at r;cases r;obtain⟨t,rfl⟩:=q;exact .int i t
 | .tup xs,v,u,r,q=>by
  rw[om]at r;cases r with
  |tup h t=>
   cases q;obtain⟨b,c,⟨o,a,e,n,d⟩,_⟩:=I.tuple h;exact .tup a e d (by simpa using xT I xs t c)
theorem xT(I:Inv X ag σ H s):∀(ks:List TK) {vs:List V} {us:List cK},dt X.K H mu (mz ks) vs->dU vs us->gm s.heap ks us
 |[],vs,us,r,q=>by rw[mz]at r;cases r;cases q;exact .nil
 |k::ks,vs,us,r,q=>by
  rw[mz]at r;cases r with
  |cons r t=>cases q with
   |cons q p=>exact .cons (uV I k r q) (xT I ks t p)
end
theorem tZ{α β γ δ:Type}{F:α->β->Prop}{G:γ->δ->Prop}{f:α->γ}{g:β->δ}:∀{l₁:List α} {l₂:List β},Paired F l₁ l₂->(∀a b,F a b->G (f a) (g b))->Paired G (l₁.map f) (l₂.map g):=by
 intro a b h g
 induction h with
 |nil=>exact .nil
 |cons r t ih=>exact .cons (g _ _ r) ih
theorem t0{α β:Type}{F:α->β->Prop}:∀{l₁ e:List α} {l₂ f:List β},Paired F l₁ l₂->Paired F e f->Paired F (l₁++e) (l₂++f):=by
 intro a b c d h g
 induction h with
 |nil=>exact g
 |cons r t ih=>exact .cons r ih
theorem KT.length{K:Fg1}:∀{ks:List (TK×D)} {ws:List (TK×cN×cK)},KT K H mu ks ws->ks.length=ws.length:=λh=>Paired.length h
theorem KT.mem{K:Fg1}:∀{ks:List (TK×D)} {ws:List (TK×cN×cK)},KT K H mu ks ws -> ∀x∈ws,x.1.dep<=8/\eA K H mu (om x.1) (.ref x.2.1):=by
 intro ks ws a x h
 induction a with
 |nil=>cases h
 |cons r t ih=>
  rcases aD.mp h with e|e
  ·subst e;rw[<- r.1];exact⟨r.2.1,r.2.2.1⟩
  ·exact ih e
theorem KT.look{K:Fg1}{k:TK}:∀ {ks:List (TK×D)} {ws:List (TK×cN×cK)},KT K H mu ks ws ->
  (∀d,dB ks k=Z d -> ∃p v,atKey ws k=Z p/\dD v p.2/\eA K H mu d v)/\(atKey ws k).isSome=(dB ks k).isSome:=by
 intro ks ws h
 induction h with
 |nil=>exact⟨λd h=>by simp[dB]at h,O⟩
 | @cons p i ks ws r t ih=>
  obtain⟨b,e⟩:=p;obtain⟨l,a2,c⟩:=i;obtain⟨z,d,q,v,f,r⟩:=r;dsimp only at z q f r;subst z;obtain⟨h1,h2⟩:=ih;by_cases a:b=k
  ·subst a;refine⟨λd h=>?_,by simp[atKey,dB]⟩;have:e=d:=by simpa[dB]using h
   subst this;exact⟨(a2,c),v,by simp[atKey],f,r⟩
  ·have g:dB ((b,e)::ks) k=dB ks k:=by simp[dB,bb,a]
   have j:atKey ((b,a2,c)::ws) k=atKey ws k:=by simp[atKey,bb,a]
   rw[g,j];exact⟨h1,h2⟩
theorem KT.put{K:Fg1}{k:TK}{d:D}{v:V}{a:cN}{u:cK}(hk:k.dep<=8)(l:eA K H mu (om k) (.ref a))(i:dD v u)(q:eA K H mu d v){ks:List (TK×D)}{ws:List (TK×cN×cK)}(h:KT K H mu ks ws):KT K H mu (gE ks k d) (storedH ws k a u):=by
 unfold gE storedH;have e:(ks.any λp=>decide (p.1=k))=(atKey ws k).isSome:=by
  rw[h.look.2];unfold dB;rw[bh,bL,List.find?_isSome,bM]
 rw[e];split
 ·clear e;refine tZ h λp w ⟨z,g,f,j,c,m⟩=>?_;unfold putAt;by_cases b:p.1=k
  ·rw[ak b,ak (by rw[<- z];exact b)];exact⟨z,g,f,v,i,q⟩
  ·rw[aj b,aj (by rw[<- z];exact b)];exact⟨z,g,f,j,c,m⟩
 ·exact t0 h (.cons ⟨O,hk,l,v,i,q⟩ .nil)
theorem vT(I:Inv X ag σ H s){a:cN}{xs:List (TK×cN×cK)}{kvs:List (TK×D)}(e:H a=Z (.ext (i1 a xs)))(h:KT X.K H mu kvs xs):(a == sysModules)=J/\s.heap.DictOfH (js X.prog X.w) a xs:=by
 obtain⟨⟨h1,h2,o,es,ep,f,d,c,g⟩,_⟩:=(show ez X.prog X.w H s.heap a (.ext (i1 a xs))from I.hok a _ e);exact⟨h1,o,es,ep,f,d,c,g,λx b=>⟨uV I _ (h.mem x b).2 O,(h.mem x b).1⟩,h2⟩
theorem vL{h:cW}{a:cN}{xs:List (TK×cN×cK)}(hd:(a == sysModules)=J)(hm:h.DictOfH (js X.prog X.w) a xs):ez X.prog X.w H h a (.ext (i1 a xs)):=by
 obtain⟨o,es,ep,d,i,f,k,m,j⟩:=hm;refine⟨⟨hd,j,o,es,ep,d,i,f,k⟩,⟨o,d⟩,λn p ⟨a1,a2,o',c,b,b3,e,g,l⟩ st=>⟨a1,a2,o',c,b,st _ b3,e,g,l⟩⟩
end
def lM:G2:=λd e S=>match e with
 | .ref n=>match S[n]? with
  |some (.dcT kvs)=>(lI d).map λk=>(.bl (dB kvs k).isSome,S)
  |_=>wS d e S
 |_=>wS d e S
def gk:G2:=λd e S=>match e with
 | .ref n=>match S[n]? with
  |some (.dcT kvs)=>(lI d).map λk=>(.bl (!(dB kvs k).isSome),S)
  |_=>iX d e S
 |_=>iX d e S
def dm:G2:=λd e S=>match d with
 | .ref n=>match S[n]? with
  |some (.dcT kvs)=>(lI e).bind λk=>(dB kvs k).map λx=>(x,S)
  |some (.dcF kvs)=>(lI e).bind λk=>(dB kvs k).map λx=>(x,S)
  |_=>mH d e S
 |_=>mH d e S
def fQ:G3:=λo i v S=>match o with
 | .ref n=>match S[n]? with
  |some (.dcT kvs)=>(lI i).bind λk=>if kvs.length<cT then Z (.non,S.set n (.dcT (gE kvs k v)))else Y
  |some (.dct [])=>match lI i with
   |some k=>Z (.non,S.set n (.dcT [(k,v)]))
   |none=>jG o i v S
  |_=>jG o i v S
 |_=>jG o i v S
section
variable{X:Cx}
theorem sg{κ:Type}[DecidableEq κ](kvs:List (κ×D))(k:κ)(d:D):(gE kvs k d).length<=kvs.length+1:=by
 unfold gE;split
 ·rw[lM1];lia
 ·simp
theorem Af{h:cW}{a:cN}(dd:h.DictOf (eF X.prog X.w) a []):h.DictOfH (js X.prog X.w) a []:=by
 obtain⟨o,es,ep,h1,h2,c,_,b,_⟩:=dd;have e:es.toList=[]:=by
  generalize es.toList=l at b;cases b;rfl
 exact⟨o,es,ep,h1,h2,c,e,(λx d=>by simp at d),br⟩
theorem kT{A:cP}(a:A.units+64<cLine):(js X.prog X.w).room A.in1:=by
 show A.units+1+8<cLine;lia
theorem nG{ag:List (cN×Obj)}{σ:L2.St}{H:Hp}{s:cM}{mu:List cN}(I:Inv X ag σ H s){d:D}{v:V}{u:cK}{k:TK}(r:eA X.K H mu d v)(q:dD v u)(h:lI d=some k):
  ∃a,u = .ref a/\v = .ref a/\eA X.K H mu (om k) (.ref a)/\k.dep<=8/\(js X.prog X.w).is s.heap k a:=by
 obtain⟨e,b,xs,ex⟩:=CH h;subst e;have is:=uV I k r q;subst ex;cases id is with
 | @tup a _ _ _ _ _ _ _ _=>
  rw[om]at r;cases r with
  |tup h1 h2=>
   cases q;exact⟨a,O,O,by rw[om];exact .tup h1 h2,b,is,b⟩
theorem vg(l:X.A.units+64<cLine):fJ X (compareOp .In) (r2 X.K (b2 lM)):=by
 intro ag s σ H x y u w Q I i o h;obtain⟨mu,S,d,e,r,m,j,c,f,b,hc⟩:=oy h;have back:wS d e S=Z (r,m)->cU (model X.prog X.w) X.A (compareOp .In u w) (EP X ag σ Q) X.xe s:=λb=>IB l ag s σ H x y u w Q I i o ⟨mu,S,[d,e],r,m,.cons j (.cons c .nil),f,b,hc⟩;unfold lM at b;split at b
 ·rename_i n;split at b
  ·rename_i kvs v;obtain⟨k,p,b⟩:=oM1.mp b;cases b;cases c with
   |ref q=>
    cases o;obtain⟨xs,t,g,_⟩:=f.dcT v q;obtain⟨z,dd⟩:=vT I t g;obtain⟨a,rfl,rfl,_,_,hi⟩:=nG I j i p;refine wpAny_in_heap (kT l) hi z dd ?_;exact⟨.bl (atKey xs k).isSome,H,I.tok _,O,by rw[g.look.2];exact hc.now (.bl _) f⟩
  ·exact back b
 ·exact back b
theorem k3(l:X.A.units+64<cLine):fJ X (compareOp .NotIn) (r2 X.K (b2 gk)):=by
 intro ag s σ H x y u w Q I i o h;obtain⟨mu,S,d,e,r,m,j,c,f,b,hc⟩:=oy h;have back:iX d e S=Z (r,m)->cU (model X.prog X.w) X.A (compareOp .NotIn u w) (EP X ag σ Q) X.xe s:=λb=>yO l ag s σ H x y u w Q I i o ⟨mu,S,[d,e],r,m,.cons j (.cons c .nil),f,b,hc⟩;unfold gk at b;split at b
 ·rename_i n;split at b
  ·rename_i kvs v;obtain⟨k,p,b⟩:=oM1.mp b;cases b;cases c with
   |ref q=>
    cases o;obtain⟨xs,t,g,_⟩:=f.dcT v q;obtain⟨z,dd⟩:=vT I t g;obtain⟨a,rfl,rfl,_,_,hi⟩:=nG I j i p;refine wpAny_notIn_heap (kT l) hi z dd ?_;exact⟨.bl (!(atKey xs k).isSome),H,I.tok _,O,by rw[g.look.2];exact hc.now (.bl _) f⟩
  ·exact back b
 ·exact back b
theorem G4{ag:List (cN×Obj)}{σ:L2.St}{H:Hp}{s:cM}{mu:List cN}(I:Inv X ag σ H s){a:cN}{xs:List (TK×cN×cK)}{kvs:List (TK×D)}(e:∃o u,H a=Z (.frz o u)/\Ef a xs o)(h:KT X.K H mu kvs xs):(a == sysModules)=J/\s.heap.DictOfH (js X.prog X.w) a xs:=by
 obtain⟨o,u,e,h1,h2,d,es,ep,c,g⟩:=e;obtain⟨f,_⟩:=(show ez X.prog X.w H s.heap a (.frz o u)from I.hok a _ e);exact⟨h1,o,es,ep,f,d,c,g,λx b=>⟨uV I _ (h.mem x b).2 O,(h.mem x b).1⟩,h2⟩
theorem qP(F:X.A.units+64<cLine):Ed X (r2 X.K (b2 dm)):=by
 intro value c ag s σ H x y v u Q I w am h m;obtain⟨mu,S,d,e,r,E,D,o,t,f,hc⟩:=oy h;have back:mH d e S=Z (r,E)->cU (model X.prog X.w) X.A (subscriptTail value c v u) (EP X ag σ Q) X.xe s:=λf=>HE F value c ag s σ H x y v u Q I w am ⟨mu,S,[d,e],r,E,.cons D (.cons o .nil),t,f,hc⟩ m;have g:∀kvs a xs,v = .ref a->KT X.K H mu kvs xs->s.heap.DictOfH (js X.prog X.w) a xs->((lI e).bind λk=>(dB kvs k).map λx=>(x,S))=Z (r,E)->cU (model X.prog X.w) X.A (subscriptTail value c v u) (EP X ag σ Q) X.xe s:=λkvs a xs N j dd f=>by
  obtain⟨k,P,f⟩:=oB1.mp f;obtain⟨z,ao,f⟩:=oM1.mp f;cases f;subst N;obtain⟨b,rfl,rfl,_,_,hi⟩:=nG I o am P;obtain⟨p,L,ep,ar,K⟩:=j.look.1 _ ao;have G:=dd.typeIs;unfold subscriptTail;refine wB1 ?_;rw[getitemInPython_of_ne G.not_modules];refine wB1 (wpAny_specialOf G PySem.F.slot_dict_getitem.lookup ?_);have l:cU (model X.prog X.w) X.A (subscripted c J (.ref a) (.ref b)) (λr i=>cU (model X.prog X.w) X.A (letTemporaryGo value (.ref a) r >>= λ_=>pure r) (EP X ag σ Q) X.xe i) X.xe s:=by
   rw[m];exact wpAny_operating (wpAny_mono (wpAny_getItem_heap (kT F) hi dd ep (show EP X ag σ Q p.2 _ from⟨L,H,I.tok _,ar,hc.now K t⟩)) (λr i q=>wB1 (wpAny_letTemporaryGo (wP1 q))) λ_ _ x=>x)
  first
   |exact wP1 (wB1 l)
   |exact wB1 l
   |exact l
 unfold dm at f;split at f
 ·rename_i n;split at f
  ·rename_i kvs B;cases D with
   | @ref _ a C=>
    cases w;obtain⟨xs,A,j,_⟩:=t.dcT B C;exact g kvs a xs O j (vT I A j).2 f
  ·rename_i kvs B;cases D with
   | @ref _ a C=>
    cases w;obtain⟨xs,A,j,_⟩:=(show ot X.K H mu a (.dcF kvs)from t.ob n _ a B C);exact g kvs a xs O j (G4 I A j).2 f
  ·exact back f
 ·exact back f
theorem iQ(E:X.A.units+64<cLine):uK X (rU X.K (b3 fQ)):=by
 intro ag s σ H o i v R P u Q I B F x h;obtain⟨mu,S,ds,d,T,W,l,a,hc⟩:=id h;cases W with
 |cons L aq=>cases aq with
  |cons A wq=>cases wq with
   |cons w U=>
    cases U;rename_i N ar K;dsimp only[b3]at a;have back:jG N ar K S=Z (d,T)->cU (model X.prog X.w) X.A (setItem R P u) (λ_ s'=>∃H',Inv X ag σ H' s'/\Q H') X.xe s:=λa=>ER E ag s σ H o i v R P u Q I B F x ⟨mu,S,[N,ar,K],d,T,.cons L (.cons A (.cons w .nil)),l,a,hc⟩;unfold fQ at a;split at a
    ·rename_i n;split at a
     ·rename_i kvs C;obtain⟨k,G,a⟩:=oB1.mp a;split at a
      ·rename_i hl;cases a;cases L with
       | @ref _ m f=>
        cases B;obtain⟨xs,p,j,V⟩:=l.dcT C f;obtain⟨ao,dd⟩:=vT I p j;obtain⟨b,rfl,rfl,t,r,hi⟩:=nG I A F G;refine wpAny_setItem_heap (hsz:=V) (kT E) hi dd λh' e c=>?_;have g:∃q,h'.get? _=Z q:=let ⟨q,_,_,g,_⟩:=e;⟨q,g⟩
        have put:Ext mu mu H (upd H m (.ext (i1 m (storedH xs k b u)))):=Ext.put p trivial (gM1 f);refine⟨_,lh I (by rw[p];exact True.intro) c g (vL ao e),hc _ mu put (l.put f p trivial ⟨_,d5,((j.put r t x w).ext put),?_⟩)⟩;rw[<- (j.put r t x w).length];have:=sg kvs k K;lia
      ·cases a
     ·rename_i C;split at a
      ·rename_i k G;cases a;cases L with
       | @ref _ m f=>
        cases B;obtain⟨ws,y,j⟩:=l.dct C f;cases j;obtain⟨z,ao,vs,D,dd⟩:=Aq I.hok y;cases D;obtain⟨b,rfl,rfl,t,r,hi⟩:=nG I A F G;have am:s.heap.DictOfH (js X.prog X.w) _ []:=Af dd;refine wpAny_setItem_heap (hsz:=bj _) (kT E) hi am λh' e c=>?_;have g:∃q,h'.get? _=Z q:=let ⟨q,_,_,g,_⟩:=e;⟨q,g⟩
        have put:Ext mu mu H (upd H m (.ext (i1 m (storedH [] k b u)))):=Ext.put y trivial (gM1 f);exact⟨_,lh I (by rw[y];exact True.intro) c g (vL ao e),hc _ mu put (l.put f y trivial ⟨_,d5,KT.ext put (.cons ⟨O,r,t,v,x,w⟩ .nil),(show 1<=cT by decide)⟩)⟩
      ·exact back a
     ·exact back a
    ·exact back a
end
def ou(S:Sto)(d:D):Option Bool:=match d with
 | .non=>Z J
 | .bl b=>Z b
 | .int i=>Z (i != 0)
 | .str y=>if y.length<=cT then Z ((y.length:Int) != 0)else Y
 | .ref n=>match S[n]? with
  |some (.dct kvs)=>Z (!kvs.isEmpty)
  |_=>(dn S d).map λp=> !p.2.isEmpty
 |_=>(dn S d).map λp=> !p.2.isEmpty
noncomputable def mTr (m:FE):FT:=λr S=>(m r S).bind λp=>(ou p.2 p.1).map λb=>(b,p.2)
section
variable{K:Fg1}{H:Hp}{mu:List cN}{S:Sto}
theorem pO{d:D}{v:V}{b:Bool}(r:eA K H mu d v)(s:Sim K H mu S)(h:((dn S d).map λp=> !p.2.isEmpty)=Z b):AX K v H b:=by
 obtain⟨⟨k,xs⟩,e,h⟩:=oM1.mp h;obtain⟨a,vs,rfl,q,t⟩:=dA r s e;have z:(!xs.isEmpty) = !vs.isEmpty:=by cases t<;>rfl
 dsimp only at h;rw[z]at h;cases k
 ·exact .inr (.inl ⟨vs,q,h.symm⟩)
 ·exact .inl ⟨vs,q,h.symm⟩
theorem xR{d:D}{v:V}{b:Bool}(r:eA K H mu d v)(s:Sim K H mu S)(h:ou S d=Z b):AX K v H b:=by
 cases d with
 |non=>cases r;cases h;rfl
 |bl k=>cases r;cases h;rfl
 |int i=>cases r;cases h;rfl
 |str y=>
  rw[ou]at h;split at h
  ·rename_i e;cases r;cases h;exact⟨e,O⟩
  ·cases h
 |tup xs=>exact pO r s h
 |rol xs=>exact pO r s h
 |fn x=>cases h
 |ref n=>
  rw[ou]at h;split at h
  ·rename_i kvs f;cases h;cases r with
   |ref g=>
    obtain⟨ws,a,c⟩:=s.dct f g;refine .inr (.inr ⟨ws,a,?_⟩);cases c<;>rfl
  ·exact pO r s h
end
theorem dw{X:Cx}{x:Expr}{f:FE}(h:XE X x f)(he:∀a,isTrue x X.env a=(do let v<-a;standAt x.pos;holding [v] (truthy v)):=by intro _;rfl):XT X x (mTr f):=
 ⟨pS (yt h.h he) <| by
  rintro σ H Q ⟨r,mu,S,b,n,he,j,c,hc⟩;obtain⟨⟨l,m⟩,e,c⟩:=oB1.mp c;obtain⟨b1,i,c⟩:=oM1.mp c;cases c;exact⟨r,mu,S,_,_,he,j,e,λv H1 mu1 k g d=>⟨_,xR g d i,hc H1 mu1 k d⟩⟩⟩
section
variable{X:Cx}{ag:List (cN×Obj)}{σ:L2.St}{H:Hp}{s:cM}{mu:List cN}
end
section
variable{X:Cx}
def ky:List D->Option (List Int)
 |[]=>Z []
 | .int i::ds=>(ky ds).map λis=>i::is
 |_=>Y
def ddI(ns:List Int):List Int:=ns.foldl step_dedup []
theorem lg:∀(ns acc:List Int),acc.Nodup->(ns.foldl step_dedup acc).Nodup
 |[],acc,h=>h
 |n::ns,acc,h=>by
  rw[aX];refine lg ns _ ?_;unfold step_dedup;split
  ·exact h
  ·rename_i d;rw[bx];refine⟨h,by simp,λa f b c e=>?_⟩;simp at c;apply d;rw[bM];exact⟨a,f,by simp[e,c]⟩
theorem o2{K:Fg1}{H:Hp}{mu:List cN}:∀{ds:List D} {vs:List V} {us:List cK} {ns:List Int},dt K H mu ds vs->dU vs us->ky ds=Z ns->IntsAre us ns/\ns.length=ds.length:=by
 intro ds vs us ns f a h
 induction f using dt.ind generalizing us ns with
 |hn=>cases h;cases a;exact⟨.nil,O⟩
 | @hc d v ds vs r t ih=>
  cases d with
  |int i=>
   obtain⟨c,e,h⟩:=oM1.mp h;cases h;cases r;cases a with
   |cons r a=>
    obtain⟨g,b⟩:=ih a e;obtain⟨tk,rfl⟩:=r;exact⟨.cons _ _ g,by rw[lC1,lC1,b]⟩
  |_=>cases h
def KE:G1:=λd S=>match dn S d with
 |some (M,xs)=>(ky xs).bind λns=>if ns.length+1<scanBound then Z (.ref S.length,S++[.iset (ddI ns)])else Y
 |_=>Y
def Le:G1:=λd S=>match d with
 | .ref n=>match S[n]? with
  |some (.iset xs)=>Z (.int xs.length,S)
  |_=>dZ d S
 |_=>dZ d S
def ia:G2:=λd e S=>match d,e with
 | .ref n,.int k=>match S[n]? with
  |some (.lst xs)=>if-(2^63)<=k/\k<2^63/\xs.length*k.toNat<=cT then Z (.ref S.length,S++[.lst (aM k.toNat xs).flatten])else Y
  |_=>Y
 |_,_=>Y
theorem dt.rep{K:Fg1}{H:Hp}{mu:List cN}{ds:List D}{vs:List V}(r:dt K H mu ds vs):∀k:Nat,dt K H mu (aM k ds).flatten (aM k vs).flatten
 |0=>.nil
 |k+1=>by rw[aU,aU,aV,aV];exact dt.append r (dt.rep r k)
theorem nz:fJ X (binaryOp .Mult) (r2 X.K (b2 ia)):=by
 intro ag s σ H x y u w Q I j o h;obtain⟨mu,S,d,e,r,q,l,r2,c,a,hc⟩:=oy h;unfold ia at a;split at a
 ·rename_i n k;split at a
  ·rename_i xs m;split at a
   ·rename_i b;cases a;cases l with
    |ref i=>
     cases r2;obtain⟨vs,g,t⟩:=c.lst m i;refine FB ag s σ H _ _ u w Q I j o ⟨_,k,vs,O,O,g,b.1,b.2.1,by rw[<- t.length];exact b.2.2,λp f=>?_⟩;exact hc _ _ (mu++[p]) (Ext.new_ f) (.ref (gY c.len p)) (c.newL (dt.rep t k.toNat) f)
   ·cases a
  ·cases a
 ·cases a
end
@[elab_as_elim] theorem LU {P:List cK->Prop}{us:List cK}(l:us.length=0)(f:P []):P us:=by
 cases us with
 |nil=>exact f
 |cons _ _=>cases l
@[elab_as_elim] theorem Lc {P:List cK->Prop}{us:List cK}(l:us.length=1)(f:∀a,P [a]):P us:=by
 cases us with
 |nil=>cases l
 |cons a us=>exact LU (P:=λus=>P (a::us)) (Nat.succ.inj l) (f a)
@[elab_as_elim] theorem KA {P:List cK->Prop}{us:List cK}(l:us.length=2)(f:∀a b,P [a,b]):P us:=by
 cases us with
 |nil=>cases l
 |cons a us=>exact Lc (P:=λus=>P (a::us)) (Nat.succ.inj l) (f a)
@[elab_as_elim] theorem Lb {P:List cK->Prop}{us:List cK}(l:us.length=3)(f:∀a b c,P [a,b,c]):P us:=by
 cases us with
 |nil=>cases l
 |cons a us=>exact KA (P:=λus=>P (a::us)) (Nat.succ.inj l) (f a)
@[elab_as_elim] theorem LS {P:List cK->Prop}{us:List cK}(l:us.length=4)(f:∀a b c d,P [a,b,c,d]):P us:=by
 cases us with
 |nil=>cases l
 |cons a us=>exact Lb (P:=λus=>P (a::us)) (Nat.succ.inj l) (f a)
end Mi
namespace HT
open PySem PySem.Spec PyProof.Rows
variable{prog:cO}{w:cQ}{A:cP}{E:cK->cM->Prop}{s:cM}
theorem lw{sl:cN}{t:Tok}{n:Nat}{Q:Int×Int×Nat->cM->Prop}(hs:s.heap.IsSliceOf sl .none .none (.int (-1) t))(h:Q ((n:Int)-1,-1,n) s):cU (model prog w) A (Builtin.Slice.sliceApplied (.ref sl) (pure (n:Int))) Q E s:=by
 obtain⟨d,b,c,a⟩:=id hs;unfold Builtin.Slice.sliceApplied Builtin.Slice.sliceFields;refine wB1 (wB1 (wpAny_field b a (x:=.none) O (wB1 (wpAny_field b a (x:=.none) O (wB1 (wpAny_field b a (x:=.int (-1) t) O (wP1 ?_)))))));refine wB1 (hO (.int (-1) t) ?_);show cU _ _ (if((-1:Int) == 0)=M then _ else _) _ _ s;rw[aj (by decide)];refine wB1 (hO .none (wB1 (hO .none (wB1 (wP1 ?_)))));show cU _ _ (pure ((n:Int)-1,(-1:Int),Builtin.Slice.slicePlaces ((n:Int)-1) (-1) (-1))) _ _ s;have e:Builtin.Slice.slicePlaces ((n:Int)-1) (-1) (-1)=n:=by
  unfold Builtin.Slice.slicePlaces;have h1:¬ (-1:Int)>0:=by lia
  have h2: -(-1:Int)=1:=rfl;simp only[h1,if_false,h2,Int.ediv_one];split<;>lia
 rw[e];exact wP1 h
theorem zZ{α β:Type}{f g:α->Option β}:∀l:List α,(∀m,m∈l->f m=g m)->l.filterMap f=l.filterMap g:=by
 intro l
 induction l with
 |nil=>intro _;rfl
 |cons x l ih=>intro h;rw[aC,aC,h x (mS1 ..),ih λm a=>h m (mC1 _ a)]
theorem rF(xs:Array cK):((af xs.size).filterMap λ(m:Nat)=>xs[(((xs.size:Int)-1)+(m:Int)*(-1)).toNat]?).toArray=xs.toList.reverse.toArray:=by
 congr 1
 have e:((af xs.size).filterMap λ(m:Nat)=>xs[(((xs.size:Int)-1)+(m:Int)*(-1)).toNat]?)=(af xs.size).filterMap λm=>xs.toList.reverse[m]?:=by
  apply zZ;intro m a;have a:=aA.mp a;rw[List.getElem?_reverse (by rw[aH];exact a),aT1,aH]
  congr 1
  lia
 rw[e];have:=pick_run xs.toList.reverse.toArray 0 xs.size;rw[aR]at this;have b:((λx=>xs.toList.reverse.toArray[x]?)∘λx=>0+x)=λm=>xs.toList.reverse[m]?:=by funext m;simp
 rw[b]at this;rw[this];simp only[List.drop_zero];exact bX (by simp)
theorem k9 {t sl:cN}{items:Array cK}{tk:Tok}{Q:cK->cM->Prop}(ht:IsTup s.heap t items)(hs:s.heap.IsSliceOf sl .none .none (.int (-1) tk))
  (h:Q (.ref s.heap.objs.size) {s with heap:=s.heap.push {cls:=.type "tuple",data:=.seq items.toList.reverse.toArray}})
  (hsz:items.size<=cT):cU (model prog w) A (getItem (.ref t) (.ref sl)) Q E s:=by
 have a:sizeOk (.seq items.toList.reverse.toArray):=by
  show items.toList.reverse.toArray.size<=cT;rw[aJ,bY,aH];exact hsz
 obtain⟨g,e,d,f⟩:=id hs;have c:s.TypeIs (.ref sl) "slice":=⟨g,e,d⟩;unfold getItem
 try with_reducible refine wpAny_holding ?_
 first|refine wB1 (wP1 ?_)|skip
 refine wB1 (wpAny_sequenceKey ht.typeIs (by decide) ?_);refine wB1 (wpAny_callSpecial?_slot (name:=Str.ofString "__getitem__") ht.typeIs PyProof.Rows.slot_tuple_getitem
  (wE1 PyProof.Rows.slot_tuple_getitem ht.typeIs entry_tuple_getitem ?_ (args_tuple_getitem _ _)))
 show cU _ _ (Builtin.Tuple.tupleItemsOf (.ref t) >>= _) _ _ s;refine wB1 (tupleItemsOf_ ht ?_);refine wB1 (wpAny_typeOf c ?_);rw[ak (by decide)];refine wB1 (lw hs ?_);have b:¬ (((items.size:Int)-1 == 0&&(-1:Int) == 1&&items.size == items.size)=M):=by
  intro q;rw[bA1,bA1]at q;exact absurd (eq_of_beq q.1.2) (by decide)
 show cU _ _ (if((items.size:Int)-1 == 0&&(-1:Int) == 1&&items.size == items.size)=M then _ else _) _ _ s;rw[aj b,rF]
 first
  |exact wB1 (m:=Builtin.Tuple.tupleExact _) (wO1 (wP1 ⟨_,rfl,wP1 h⟩) a)
  |exact wB1 (m:=Builtin.Tuple.tupleExact _) (wO1 (wB1 (wP1 (wP1 ⟨_,rfl,wP1 h⟩))) a)
  |exact wB1 (wB1 (m:=Builtin.Tuple.tupleExact _) (wO1 (wP1 (wP1 ⟨_,rfl,wP1 h⟩)) a))
  |exact wB1 (wB1 (m:=Builtin.Tuple.tupleExact _) (wO1 (wP1 ⟨_,rfl,wP1 h⟩) a))
end HT
namespace Mi
open PySem PySem.Spec PyProof.Rows L2
section
variable{X:Cx}
theorem rh:∀{xs:List V} {us:List cK},dU xs us->dU xs.reverse us.reverse:=by
 intro xs
 induction xs with
 |nil=>intro us r;cases r;exact .nil
 |cons x xs ih=>
  intro us r;cases r with
  |cons a r2=>rw[bq,bq];exact(ih r2).append (.cons a .nil)
end
end Mi
namespace HT
open PySem PySem.Spec PyProof.Rows
section
variable{prog:cO}{w:cQ}{A:cP}{R:Result->cM->Prop}{I ax L:cN}{xs:Array cK}
end
section
variable{prog:cO}{w:cQ}{A:cP}{E:cK->cM->Prop}{s:cM}
end
end HT
namespace Mi
open PySem PySem.Spec PyProof.Rows L2
section
variable{X:Cx}
def zO:G1:=λd S=>match d with
 | .int i=>if i.natAbs.log2<1920 then Z (.str (toString i),S)else Y
 |_=>Y
def zU:G1:=λd S=>match d with
 | .int i=>Z (.bl (i != 0),S)
 | .bl b=>Z (.bl b,S)
 |_=>Y
theorem Jg:eH X (.type "str") (rN X.K (b1 zO)):=by
 intro ag s σ H xs c Q I r h;obtain⟨x,mu,S,d,g,j,rfl,b,f,a,hc⟩:=A1 h;cases d with
 |int i=>
  dsimp only[zO]at a;split at a
  ·rename_i e;cases a;cases b;exact qv ag s σ H _ c Q I r ⟨_,O,e,hc.now (.str _) f⟩
  ·cases a
 |_=>cases a
theorem Hd:eH X (.type "bool") (rN X.K (b1 zU)):=by
 intro ag s σ H xs e Q I r h;obtain⟨x,mu,S,d,g,j,rfl,c,f,a,hc⟩:=A1 h;cases d with
 |int i=>cases a;cases c;exact nZ ag s σ H _ e Q I r (.inl ⟨_,O,hc.now (.bl _) f⟩)
 |bl b=>cases a;cases c;exact nZ ag s σ H _ e Q I r (.inr ⟨_,O,hc.now (.bl _) f⟩)
 |_=>cases a
end
section
variable{elt tg iter tg2 iter2 tg3 iter3:Expr}{ifs ifs2 ifs3:List Expr}{scope:cZ}{pos:Pos}
end
section
variable{X:Cx}
end
def wO(a:Int):List Int->List Int
 |[]=>[a]
 |b::l=>if a<=b then a::b::l else b::wO a l
def fe:List Int->List Int
 |[]=>[]
 |a::l=>wO a (fe l)
theorem lJ(a:Int):∀l:List Int,(wO a l).Perm (a::l)
 |[]=>.refl _
 |b::l=>by
  rw[wO];split
  ·exact .refl _
  ·exact((lJ a l).cons b).trans (.swap _ _ _)
theorem eb:∀l:List Int,(fe l).Perm l
 |[]=>.refl _
 |a::l=>(lJ a _).trans ((eb l).cons a)
theorem vD{a:Int}:∀{l:List Int},l.Pairwise (· <= ·)->(wO a l).Pairwise (· <= ·)
 |[],_=>List.pairwise_singleton _ _
 |b::l,h=>by
  rw[bZ]at h;rw[wO];split
  ·rename_i c;rw [bZ,bZ];exact ⟨fun x d=>by
    rcases aD.mp d with z|z
    ·lia
    ·have:=h.1 x z;lia,h.1,h.2⟩
  ·rename_i c;rw[bZ];refine⟨λx d=>?_,vD h.2⟩;rcases aD.mp ((lJ a l).mem_iff.mp d)with z|z
   ·lia
   ·exact h.1 x z
theorem hM:∀l:List Int,(fe l).Pairwise (· <= ·)
 |[]=>.nil
 |a::l=>vD (hM l)
theorem kW:∀{a b:List Int},a.Perm b->a.Pairwise (· <= ·)->b.Pairwise (· <= ·)->a=b
 |[],b,p,_,_=>(List.nil_perm.mp p).symm
 |x::a,[],p,_,_=>absurd p.length_eq (by simp)
 |x::a,y::b,p,h1,h2=>by
  rw[bZ]at h1 h2;have e:x=y:=by
   have f:=p.mem_iff.mp (mS1 (a:=x) (l:=a));have d:=p.mem_iff.mpr (mS1 (a:=y) (l:=b));rcases aD.mp f with z|z
   ·exact z
   ·rcases aD.mp d with c|c
    ·exact c.symm
    ·have:=h2.1 x z;have:=h1.1 y c;lia
  subst e;rw[kW (List.perm_cons x |>.mp p) h1.2 h2.2]
def o8:List D->Option (List Int)
 |[]=>Z []
 | .int i::l=>(o8 l).map λt=>i::t
 |_=>Y
def lc:G1:=λd S=>match d with
 | .ref n=>match S[n]? with
  |some (.lst xs)=>(o8 xs).bind λns=>if ns.length<64 then Z (.ref S.length,S++[.lst ((fe ns).map D.int)])else Y
  |_=>Y
 |_=>Y
section
variable{X:Cx}
theorem wM{K:Fg1}{H:Hp}{mu:List cN}:∀{ds:List D} {vs:List V} {us:List cK} {ns:List Int},dt K H mu ds vs->dU vs us->o8 ds=Z ns->IntsAre us ns:=by
 intro ds
 induction ds with
 |nil=>intro vs us ns r v h;cases r;cases v;cases h;exact .nil
 |cons d ds ih=>
  intro vs us ns r v h;cases r with
  |cons b t=>
   cases v with
   |cons c a=>
    cases b
    case int i=>
     obtain⟨m,e,h⟩:=oM1.mp h;subst h;obtain⟨tk,rfl⟩:=c;exact .cons i tk (ih t a e)
    all_goals cases h
theorem oZ:∀{us:List cK} {ns:List Int},IntsAre us ns->dU (ns.map V.int) us:=by
 intro us ns h
 induction h with
 |nil=>exact .nil
 |cons i t _ ih=>exact .cons ⟨t,O⟩ ih
theorem wN:∀{ds:List D} {ns:List Int},o8 ds=Z ns->ns.length=ds.length:=by
 intro ds
 induction ds with
 |nil=>intro ns h;cases h;rfl
 |cons d ds ih=>
  intro ns h;cases d with
  |int i=>
   obtain⟨m,e,h⟩:=oM1.mp h;subst h;rw[lC1,lC1,ih e]
  |_=>cases h
theorem AA:eH X (.builtin "sorted") (rN X.K (b1 lc)):=by
 intro ag s σ H xs F Q I r h;obtain⟨x,mu,S,d,am,ao,rfl,C,k,c,hc⟩:=A1 h;cases d with
 |ref n=>
  dsimp only[lc]at c;split at c
  ·rename_i ds A;obtain⟨ns,z,c⟩:=oB1.mp c;split at c
   ·rename_i G;cases c;have f:dn S (.ref n)=Z (M,ds):=by simp only[dn,A]
    obtain⟨a,vs,rfl,q,t⟩:=dA C k f;obtain⟨u,rfl,r2⟩:=hI r;cases r2;obtain⟨e,y,D,K⟩:=I.list q;have B:=wM t y z;have w:e.length=ns.length:=by
     rw[<- y.length,<- t.length,wN z]
    refine sorted_ints D.isList B (by lia) λi p j E l=>?_;have m:p=fe ns:=kW (E.trans (eb ns).symm) l (hM ns);subst m;obtain⟨ep,v⟩:=sortedAll_at s.heap e i;have g:=I.hok.fresh (bF s.heap.objs.size);refine⟨.ref (s.heap.objs.size+1),_,I.laid (t':=s.toks) (o:=.lst ((fe ns).map V.int)) (λb L q=>sortedAll_old q) (bF _) ?_,O,hc _ _ (mu++[_]) (Ext.new_ g) (.ref (gY k.len _)) (k.newL (iA _) g)⟩;refine⟨?_,i.toList,ep,oZ j,by rw[Array.toArray_toList];exact v⟩;rw[lM1,(eb ns).length_eq,sizeLine_eq];lia
   ·cases c
  ·cases c
 |_=>cases c
end
end Mi
namespace Mi
open PySem PySem.Spec PyProof.Rows L2
theorem wu(its:List cK):slicePick its.toArray Y Y (Z (-1))=its.reverse.toArray:=by
 have h:=HT.rF its.toArray;rw[aJ]at h;unfold slicePick;have b:sliceBounds Y Y (Z (-1)) its.toArray.size=(((its.length:Nat):Int)-1,-1,-1):=by
  rw[aJ];unfold sliceBounds;have h1:¬ ((Z (-1:Int)).getD 1>0):=by decide
  simp only[h1,if_false];rfl
 rw[b];unfold sliceRange;have hc:(if((its.length:Nat):Int)-1 > -1 then(((its.length:Nat):Int)-1 - -1 - -1-1)/(- -1)else 0).toNat=its.length:=by
  have h2: - (-1:Int)=1:=rfl;rw[h2,Int.ediv_one];split<;>lia
 dsimp only;rw[aj (by decide),hc,aR];have e:((λx=>its.toArray[x]?)∘λ(k:Nat)=>((its.length:Int)-1 + -1*(k:Int)).toNat)=λ(m:Nat)=>its.toArray[(((its.length:Int)-1)+(m:Int)*(-1)).toNat]?:=by
  funext m
  have a:((its.length:Int)-1 + -1*(m:Int)).toNat=(((its.length:Int)-1)+(m:Int)*(-1)).toNat:=by rw[Int.mul_comm]
  show its.toArray[((its.length:Int)-1 + -1*(m:Int)).toNat]?=its.toArray[(((its.length:Int)-1)+(m:Int)*(-1)).toNat]?;rw[a]
 rw[e,h]
section
variable{X:Cx}
def HM(K:Fg1)(te tk:TE):TE:=fun σ H Q=>te σ H λx H1=>tk σ H1 λk H2=>k = .int (-1)/\((∃a xs,x = .ref a/\jW K H2 a xs /\ ∀p,H2 p=Y->Q (.ref p) (upd H2 p (.tup xs.reverse)))\/(∃a xs,x = .ref a/\lp K H2 a xs /\ ∀p,H2 p=Y->Q (.ref p) (upd H2 p (.lst xs.reverse))))
theorem tY{e j:Expr}{te tk:TE}{pos p2:Pos}(he:PE X e te)(hk:PE X j tk):PE X (.Subscript e (.Slice Y Y (Z j) p2) pos) (HM X.K te tk):=by
 intro ag s σ H Q I h;refine Subscript_ (eN (he ag s σ H _ I h) λv z ⟨x,H1,A,p,B⟩=>?_);refine wpAny_Slice ?_;rw[evalPart_none];refine wP1 ?_;refine wP1 ?_;rw[evalPart_some];refine eN (hk ag z σ H1 _ A B) λu c ⟨k,H2,y,C,m⟩=>?_;obtain⟨rfl,m⟩:=m;obtain⟨t,rfl⟩:=C;have f:Inv X ag σ H2 {c with heap:=c.heap.push {cls:=.type "slice",data:=.fields #[.none,.none,.int (-1) t]}}:=y.kept (t':=c.toks) λb w q=>hP1 _ q;rcases m with⟨a,xs,rfl,n,q⟩|⟨a,xs,rfl,n,q⟩
 ·cases p;obtain⟨g,r,i,l⟩:=f.tuple n;have d:g.toArray.size=xs.length:=by rw[aJ];exact r.length.symm
  show cU (model X.prog X.w) X.A (subscriptTail e (.Slice Y Y (Z j) p2) (.ref a) (.ref c.heap.objs.size)) (EP X ag σ Q) X.xe {c with heap:=c.heap.push {cls:=.type "slice",data:=.fields #[.none,.none,.int (-1) t]}};refine tail_any (ops:=[.ref a,.ref c.heap.objs.size]) i.typeIs PyProof.Rows.slot_tuple_getitem.lookup ?_ (by with_unfolding_all rfl);refine HT.k9 i (Heap.IsSliceOf.new ..) ?_ (by rw[d];exact l);refine⟨.ref _,_,f.laid (t':=c.toks) (o:=.tup xs.reverse) (λb w q=>hP1 _ q) (nR1 _) ?_,O,q _ (f.hok.fresh (nR1 _))⟩;exact⟨by rw[bY];exact l,_,rh r,IsTup.new _ _⟩
 ·cases p;obtain⟨g,r,i,l⟩:=f.list n;have d:=r.length;show cU (model X.prog X.w) X.A (subscriptTail e (.Slice Y Y (Z j) p2) (.ref a) (.ref c.heap.objs.size)) (EP X ag σ Q) X.xe {c with heap:=c.heap.push {cls:=.type "slice",data:=.fields #[.none,.none,.int (-1) t]}};refine tail_any (ops:=[.ref a,.ref c.heap.objs.size]) i.isList.typeIs slot_list_getitem.lookup ?_ (by with_unfolding_all rfl);refine wpAny_getItem_list_slice i.isList (Heap.IsSliceOf.new ..) .none .none (.int (-1) t) (by decide) ?_ (by rw[aJ];lia);rw[wu];refine⟨.ref _,_,f.laid (t':=c.toks) (o:=.lst xs.reverse) (λb w q=>hP1 _ q) (nR1 _) ?_,O,q _ (f.hok.fresh (nR1 _))⟩;exact⟨by rw[bY];exact l,_,0,rh r,hS1 _ O⟩
def Ia(S:Sto)(d k:D):Option (D×Sto):=match k with
 | .int i=>if i = -1 then(dn S d).map λp=>if p.1=M then(.ref S.length,S++[.lst p.2.reverse])else(.tup p.2.reverse,S)else Y
 |_=>Y
def zj(m a:FE):FE:=λr S=>(m r S).bind λp=>(a r p.2).bind λb=>Ia b.2 p.1 b.1
theorem rd{e n:Expr}{m a:FE}{pos p2:Pos}(h:XE X e m)(x:XE X n a):XE X (.Subscript e (.Slice Y Y (Z n) p2) pos) (zj m a):=
 ⟨em (tY h.h x.h) <| by
  rintro σ H Q ⟨r,mu,S,d,G,s,z,b,hc⟩;obtain⟨⟨A,w⟩,D,b⟩:=oB1.mp b;obtain⟨⟨o,C⟩,y,b⟩:=oB1.mp b;refine⟨r,mu,S,A,w,s,z,D,λv H1 mu1 l B E=>?_⟩;refine⟨r,mu1,w,o,C,s.ext l,E,y,λu H2 g x2 r2 j=>?_⟩;cases o with
  |int i=>
   dsimp only[Ia]at b;split at b
   ·rename_i hi;subst hi;cases r2;refine⟨O,?_⟩;obtain⟨⟨k,xs⟩,F,b⟩:=oM1.mp b;obtain⟨c,vs,rfl,q,t⟩:=dA (B.ext x2) j F;cases k with
    |true=>
     cases b;right;exact⟨c,vs,O,q,λp f=>hc _ _ (g++[p]) ((l.trans x2).trans (Ext.new_ f)) (.ref (gY j.len p)) (j.newL t.reverse f)⟩
    |false=>
     simp only[bF1,if_false]at b;cases b;left;exact⟨c,vs,O,q,λp f=>hc _ _ g ((l.trans x2).trans (Ext.fresh f)) (.tup (jW.of d5) (t.reverse.ext (Ext.fresh f))) (j.fresh f)⟩
   ·cases b
  |_=>cases b⟩
end
theorem jP(n:Nat):∀ns:List Int,D.unds n (ns.map D.int)=M
 |[]=>rfl
 |_::ns=>by rw[mP1,D.unds,jP n ns];rfl
theorem CY{n:Nat}{d:D}{S:Sto}(h:S.length=n):gc n (d,S)=(d,S):=by
 unfold gc;split
 ·rw[show(d,S).2=S from rfl,<- h,bR]
 ·rfl
theorem pi{n:Nat}{f:FN}{ds:List D}{S S1:Sto}{d:D}(h:f ds []=Z (d,S1))(hn:ds.length=n)(a:D.unds 0 ds=M)(hd:d.und 0=M):db n f ds S=Z (d,S):=by
 unfold db pp;rw[ak hn,ak a,h,oP1,ak hd]
theorem Aw{n:Nat}{f:FN}{ds:List D}{S S1:Sto}{d:D}(h:f ds []=Z (d,S1))(hn:ds.length=n)(a:D.unds 0 ds=M)(hd:d.und 0=J):db n f ds S=Z (d.sh S.length,S++S1.map (Ob.sh S.length)):=by
 unfold db pp;rw[ak hn,ak a,h,oP1,aj (by dsimp only;rw[hd];decide)]
theorem pj{n:Nat}{f:FN}{ds:List D}{S S1:Sto}{d:D}(h:f ds S=Z (d,S1))(hn:ds.length=n)(a:D.unds 0 ds=J):db n f ds S=Z (gc S.length (d,S1)):=by
 unfold db pp;rw[ak hn,aj (by rw[a];decide),h,oP1]
theorem xa{n:Nat}{f:FN}{ds:List D}{S S1:Sto}{d:D}(h:f ds S=Z (d,S1))(hn:ds.length=n)(b:D.unds 0 ds=J)(a:S1.length=S.length):db n f ds S=Z (d,S1):=by
 rw[pj h hn b,CY a]
theorem y1{i j:Int}(h1: -(2^64)<i)(h2:i<2^64):gf i j=M:=by
 unfold gf;simp only[bJ,bA1,al];exact .inl (.inl ⟨h1,h2⟩)
theorem vo{i j:Int}(h1: -(2^64)<j)(h2:j<2^64):gf i j=M:=by
 unfold gf;simp only[bJ,bA1,al];exact .inl (.inr ⟨h1,h2⟩)
theorem h9{S:Sto}{n:Nat}{xs:List D}(h:S[n]?=Z (.lst xs)):q9 S [(n,xs)]=M:=by
 rw[q9,h];simp[D.sames_refl,q9]
def jX(n:Nat):Nat->List D
 |0=>[]
 |k+1=>.ref n::jX (n+1) k
open Classical in
def rkV(ws:List cK)(x:cK):Nat:=ws.findIdx λy=>decide (y=x)
theorem E2{ws:List cK}{x:cK}(h:x∈ws):ws[rkV ws x]?=Z x:=by
 have a:rkV ws x<ws.length:=List.findIdx_lt_length_of_exists ⟨x,h,by simp⟩;rw[gG1 a];have:=List.findIdx_getElem (w:=a);have e:ws[rkV ws x]=x:=of_decide_eq_true this;rw[e]
def kR(ws:List cK)(xs:Array Keyed)(i:Nat):Nat:=(xs[i]?.map λp=>rkV ws p.1).getD 0
structure JS (prog:cO)(w:cQ)(A:cP)(s:cM)(κ:SortKind)(ws:List cK)(a₀:Array Keyed):Prop where
 nd:ws.Nodup
 keys:(a₀.toList.map (·.1)).Perm ws
 lt:∀(x y:cK) (i j:Nat),ws[i]?=some x->ws[j]?=some y->i≠j -> ∀(E:cK->cM->Prop) (Q:Bool->cM->Prop),Q (decide (i<j)) s->cU (model prog w) A (keyLt' κ x y) Q E s
section
variable{prog:cO}{w:cQ}{A:cP}{E:cK->cM->Prop}{s:cM}{κ:SortKind}{ws:List cK}{a₀:Array Keyed}
theorem JS.at_(C:JS prog w A s κ ws a₀){xs:Array Keyed}(p:xs.Perm a₀){i:Nat}(hi:i<a₀.size):∃x q,xs[i]?=Z (x,q)/\ws[kR ws xs i]?=Z x:=by
 have a:i<xs.size:=by rw[p.size_eq];exact hi
 refine⟨xs[i].1,xs[i].2,aG1 a,?_⟩;have b:xs[i]∈a₀.toList:=(Array.perm_iff_toList_perm.mp p).mem_iff.mp (by simp);have:=E2 (C.keys.mem_iff.mp (b0.mpr ⟨_,b,O⟩));unfold kR;rw[aG1 a];exact this
theorem JS.inj(C:JS prog w A s κ ws a₀){xs:Array Keyed}(p:xs.Perm a₀){i j:Nat}(hi:i<a₀.size)(g:j<a₀.size)(h:kR ws xs i=kR ws xs j):i=j:=by
 obtain⟨x,q,c,a⟩:=C.at_ p hi;obtain⟨y,r,f,d⟩:=C.at_ p g;rw[h,d]at a;cases a;have e:(xs.toList.map (·.1)).Nodup:=(((Array.perm_iff_toList_perm.mp p).map (·.1)).trans C.keys).nodup_iff.mpr C.nd;have b:(xs.toList.map (·.1))[i]?=Z x:=by rw[gP1,aT1,c];rfl
 have k:(xs.toList.map (·.1))[j]?=Z x:=by rw[gP1,aT1,f];rfl
 exact(List.getElem?_inj (gE1.mp b).1 e).mp (b.trans k.symm)
end
section
variable{prog:cO}{w:cQ}{A:cP}{E:cK->cM->Prop}{s:cM}
end
section
variable{prog:cO}{w:cQ}{A:cP}{E:cK->cM->Prop}{R:Result->cM->Prop}
end
section
variable{prog:cO}{w:cQ}{A:cP}{E:cK->cM->Prop}{s:cM}
end
structure Pr where
 k:TK
 d:D
 ka:cN
 u:cK
 vv:V
 a:cN
def Pr.Ok(K:Fg1)(H:Hp)(mu:List cN)(h:cW)(lo:Nat)(y:Pr):Prop:=lo<=y.a/\eA K H mu (om y.k) (.ref y.ka)/\dD y.vv y.u/\eA K H mu y.d y.vv/\h.get? y.a=Z {cls:=.type "tuple",data:=.seq #[.ref y.ka,y.u]}
section
variable{X:Cx}
end
section
variable{prog:cO}{w:cQ}{A:cP}{E:cK->cM->Prop}{s:cM}
end
section
variable{prog:cO}{w:cQ}{A:cP}{E:cK->cM->Prop}{R:Result->cM->Prop}
end
section
variable{X:Cx}
theorem KT.keys{K:Fg1}{H:Hp}{mu:List cN}:∀{ks:List (TK×D)} {ws:List (TK×cN×cK)},KT K H mu ks ws->dt K H mu (ks.map λp=>om p.1) (ws.map λx=>V.ref x.2.1)
 |_,_,.nil=>.nil
 |_,_,.cons ⟨z,d,k,_⟩ t=>.cons k (KT.keys t)
end
section
variable{X:Cx}{ag:List (cN×Obj)}{σ:L2.St}{H:Hp}{s:cM}{a:cN}{u v:HO}
end
section
variable{K:Fg1}{H H':Hp}{mu mu':List cN}{S:Sto}{n:Nat}{a:cN}{o:Obj}{u:HO}
end
theorem Ris.lt{xs:Array Nat}(h:Ris xs){a b u v:Nat}(e:a<b)(d:xs[a]?=Z u)(c:xs[b]?=Z v):u<v:=by
 rw[<- aT1]at d c;obtain⟨f,d⟩:=gE1.mp d;obtain⟨g,c⟩:=gE1.mp c;have:=b7.mp h a b f g e;rw[d,c]at this;exact this
structure Bs (xs:Array Nat)(j i:Nat):Prop where
 le:i<=xs.size
 lo:∀k v,xs[k]?=some v->k<i->v<j
 hi:∀k v,xs[k]?=some v->i<=k->j<=v
theorem Bs.uniq{xs:Array Nat}{j i i':Nat}(h:Bs xs j i)(h':Bs xs j i'):i=i':=by
 rcases Nat.lt_trichotomy i i' with z|z|z
 ·have a:i<xs.size:=nL1 z h'.le;have e:=aG1 a;have:=h.hi _ _ e (nR1 _);have:=h'.lo _ _ e z;lia
 ·exact z
 ·have a:i'<xs.size:=nL1 z h.le;have e:=aG1 a;have:=h'.hi _ _ e (nR1 _);have:=h.lo _ _ e z;lia
theorem AF{xs:Array Nat}{j:Nat}(hr:Ris xs):∀n lo hi:Nat,lo<=hi->hi<=xs.size->hi-lo<=n->(∀k v,xs[k]?=Z v->k<lo->v<j)->(∀k v,xs[k]?=Z v->hi<=k->j<=v)->Bs xs j (SetTable.below.go xs j n lo hi)
 |0,lo,hi,h1,h2,h,b,a=>by
  have:lo=hi:=by lia
  subst this;exact⟨h2,b,a⟩
 |n + 1,lo,hi,h1,h2,h,b,a=>by
  rw[SetTable.below.go];by_cases d:lo<hi
  ·rw[ak d];have f:(lo+hi)/2<xs.size:=by lia
   have c:=aG1 f;have i:xs.getD ((lo+hi)/2) j=xs[(lo+hi)/2]:=by simp[Array.getD,f]
   dsimp only;rw[i];by_cases hc:xs[(lo+hi)/2]<j
   ·rw[ak hc];refine AF hr n _ _ (by lia) h2 (by lia) (λk v e g=>?_) a;rcases bP k ((lo+hi)/2)with z|z
    ·have:=hr.lt z e c;lia
    ·have:k=(lo+hi)/2:=by lia
     subst this;rw[c]at e;cases e;exact hc
   ·rw[aj hc];refine AF hr n _ _ (by lia) (by lia) (by lia) b λk v e g=>?_;rcases bP ((lo+hi)/2) k with z|z
    ·have:=hr.lt z c e;lia
    ·have:k=(lo+hi)/2:=by lia
     subst this;rw[c]at e;cases e;lia
  ·rw[aj d];have:lo=hi:=by lia
   subst this;exact⟨h2,b,a⟩
theorem n2{xs:Array Nat}(hr:Ris xs)(j:Nat):Bs xs j (SetTable.below xs j):=
 AF hr _ 0 _ (bj _) (nR1 _) (by lia) (λ_ _ _ h=>absurd h (bw _)) λk v e h=>by
  have:=(Array.getElem?_eq_some_iff.mp e).1;lia
theorem zF{α:Type}(xs:Array α)(p:Nat)(x:α):(SetTable.insertAt xs p x).toList=xs.toList.take p++x::xs.toList.drop p:=by
 unfold SetTable.insertAt;rw[Array.toList_append,b8,Array.toList_extract,Array.toList_extract];simp[List.extract_eq_drop_take];rw[bX (by simp)]
theorem By{xs:Array Nat}(hr:Ris xs){j:Nat}(hn:xs[SetTable.below xs j]? ≠ Z j):Ris (SetTable.insertAt xs (SetTable.below xs j) j):=by
 have b:=n2 hr j;unfold Ris;rw[zF,List.pairwise_append,bZ];have lo:∀v∈xs.toList.take (SetTable.below xs j),v<j:=λv f=>by
  obtain⟨k,d⟩:=bt f;rw[List.getElem?_take]at d;split at d
  ·rename_i h;exact b.lo k v (by rw[<- aT1];exact d) h
  ·cases d
 have hi:∀v∈xs.toList.drop (SetTable.below xs j),j<v:=λv f=>by
  obtain⟨k,d⟩:=bt f;rw[List.getElem?_drop,aT1]at d;have h1:=b.hi _ v d (Nat.le_add_right _ _);rcases bP j v with z|z
  ·exact z
  ·exfalso;have g:v=j:=by lia
   subst g;cases k with
   |zero=>exact hn d
   |succ k=>
    have l:SetTable.below xs v<xs.size:=by have:=(Array.getElem?_eq_some_iff.mp d).1;lia
    have e:=aG1 l;have:=b.hi _ _ e (nR1 _);have:=hr.lt (by lia) e d;lia
 refine⟨hr.sublist (List.take_sublist _ _),⟨hi,hr.sublist (List.drop_sublist _ _)⟩,λa i c hc=>?_⟩;rcases aD.mp hc with z|z
 ·rw[z];exact lo a i
 ·exact bi (lo a i) (hi c z)
structure TS (l:Bool)(t:SetTable):Prop where
 up:Ris t.place
 du:t.dummies = #[]
 ld:t.led=l
theorem rY{t:SetTable}(hd:t.dummies = #[])(j:Nat):SetTable.has t.dummies j=J:=by rw[hd];rfl
theorem oI{t:SetTable}(hd:t.dummies = #[]){f:Nat->Int}{h:Int}:∀(n:Nat) (p:SetTable.Probe) (j:Nat) (d:Option Nat),p.dummy=Y->SetTable.probe.go t f h n p=Z (.empty j d)->d=Y/\t.place[SetTable.below t.place j]? ≠ Z j
 |0,p,j,d,_,e=>by rw[SetTable.probe.go]at e;cases e
 |n+1,p,j,d,hp,e=>by
  have a:(t.advance p).dummy=Y:=by
   unfold SetTable.advance;split
   ·exact hp
   ·dsimp only;exact hp
  rw[SetTable.probe.go]at e;unfold SetTable.slot at e;dsimp only at e;rw[rY hd]at e;by_cases hc:(t.place[SetTable.below t.place p.j]? == Z p.j)=M
  ·rw[ak hc]at e;dsimp only at e;split at e
   ·cases e
   ·exact oI hd n _ j d a e
  ·rw[aj hc,aj (by decide)]at e;dsimp only at e;cases e;refine⟨hp,λz=>hc ?_⟩;rw[z];simp
theorem C2{t:SetTable}(hd:t.dummies = #[]){h:Int}{j:Nat}{b:Bool}(e:t.freeSlot h=Z (j,b)):t.place[SetTable.below t.place j]? ≠ Z j:=by
 unfold SetTable.freeSlot at e;split at e
 ·rename_i c d ep;obtain⟨rfl,a⟩:=oI hd _ _ _ _ O ep;cases e;exact a
 ·cases e
theorem kK{l:Bool}{t:SetTable}(h:TS l t)(n:Nat):TS l (t.standIn n):=by
 refine⟨?_,O,h.ld⟩;show(Array.range n).toList.Pairwise (· < ·);rw[Array.toList_range];exact b9
theorem HI{l:Bool}{t:SetTable}(h:TS l t)(n:Nat):TS l (t.orStandIn n):=by
 unfold SetTable.orStandIn;split
 ·exact h
 ·exact kK h n
theorem Ey{l:Bool}{t:SetTable}(ht:TS l t)(es:Array (Int×cK))(h:Int)(x:cK):TS l (layNew t es h x).2.1:=by
 unfold layNew;split
 ·rename_i j b e;show TS l ((t.put j).1.orStandIn _);refine HI (t:=(t.put j).1) ⟨?_,?_,ht.ld⟩ _
  ·exact By ht.up (C2 ht.du e)
  ·show(if SetTable.has t.dummies j=M then _ else t.dummies) = #[];rw[rY ht.du,aj (by decide)];exact ht.du
 ·exact kK ht _
theorem qu{α:Type}(f:Nat->Option α):∀l:List Nat,((l.filterMap λj=>(f j).map (j,·)).map (·.1)).Sublist l
 |[]=>.slnil
 |a::l=>by
  rw[aC];cases f a with
  |none=>exact(qu f l).cons a
  |some x=>exact(qu f l).cons₂ a
theorem Bl{l p:Bool}{m c b:Nat}{hs:Array Int}{t:SetTable}{ord:Array Nat}(e:SetTable.laid m c b l p hs=Z (t,ord)):TS l t:=by
 unfold SetTable.laid at e;obtain⟨a,_,e⟩:=oB1.mp e;cases e;refine⟨?_,O,O⟩;unfold Ris;dsimp only;exact List.pairwise_lt_range.sublist (by simpa using qu (λj=>a.getD j Y) (af (m+1)))
theorem xP{l:Bool}{t:SetTable}(ht:TS l t)(es:Array (Int×cK))(n:Nat):TS l (relayAll t es n).2.1:=by
 unfold relayAll;split
 ·rename_i a ord e;dsimp only;split
  ·have:=Bl e;rw[ht.ld]at this;exact this
  ·exact kK ht _
 ·exact kK ht _
theorem rk(l:Bool):TS l (SetTable.fresh 0 0 l):=⟨List.Pairwise.nil,O,O⟩
theorem Dl{xs:Array Nat}(hr:Ris xs){i:Nat}(hi:i<xs.size):SetTable.below xs (xs[i]+1)=i+1:=by
 refine(n2 hr _).uniq ⟨hi,λk v e a=>?_,λk v e a=>?_⟩
 ·rcases bP k i with z|z
  ·have:=hr.lt z e (aG1 hi);lia
  ·have:k=i:=by lia
   subst this;rw[aG1 hi]at e;cases e;lia
 ·have:=hr.lt (show i<k by lia) (aG1 hi) e;lia
theorem AE{xs:Array Nat}(hr:Ris xs):SetTable.below xs 0=0:=
 (n2 hr _).uniq ⟨bj _,λk v e a=>absurd a (bw _),λk v e a=>bj _⟩
def KC(e:Int×cK):Int:=match e.2 with
 | .int k _=>k
 |_=>0
structure Els (es:Array (Int×cK))(ns:List Int):Prop where
 el:∀e∈es.toList,∃k t,e=(hashInt k,Value.int k t)
 pm:(es.toList.map KC).Perm ns
theorem Els.of{P:cO}{w:cQ}{es:Array (Int×cK)}{ns:List Int}(h:Els es ns):ElemsOf (intKind P w) es.toList:=λe a=>by
 obtain⟨k,t,rfl⟩:=h.el e a;exact⟨⟨k,intKind_is _ _ _ _,O⟩,O⟩
theorem Els.size{es:Array (Int×cK)}{ns:List Int}(h:Els es ns):es.size=ns.length:=by
 have:=h.pm.length_eq;rw[lM1,aH]at this;exact this
theorem Els.perm{es fs:Array (Int×cK)}{ns:List Int}(h:Els es ns)(p:fs.toList.Perm es.toList):Els fs ns:=
 ⟨λe a=>h.el e (p.mem_iff.mp a),(p.map _).trans h.pm⟩
theorem Els.add{es fs:Array (Int×cK)}{ns:List Int}(h:Els es ns){k:Int}{t:Tok}(p:fs.toList.Perm (es.push (hashInt k,.int k t)).toList):Els fs (ns++[k]):=by
 rw[b8]at p;refine⟨λe a=>?_,?_⟩
 ·rcases aE.mp (p.mem_iff.mp a)with z|z
  ·exact h.el e z
  ·simp at z;exact⟨k,t,z⟩
 ·refine(p.map _).trans ?_;rw[ca];exact h.pm.append (.refl _)
def gZ(b:Bool)(p:cN)(ns:List Int)(h:cW):Prop:=∃es ep t l,h.get? p=Z (stO es ep t)/\Els es ns/\es.size<scanBound/\t.fits es.size=M/\TS l t/\(b=J->l=M)
section
variable{P:cO}{w:cQ}{A:cP}{E:cK->cM->Prop}{s:cM}{b:Bool}{p:cN}{ns:List Int}
theorem yr{es fs:Array (Int×cK)}{ep:Nat}{t u:SetTable}{h:cW}(e:h.get? p=Z (stO es ep t)):(h.update p (Obj.putSet fs u)).get? p=Z (stO fs (ep+1) u):=by
 have:=hW1 (Obj.putSet fs u) e (by rw[putSet_of fs u O];rfl);rw[putSet_of fs u O]at this;exact this
theorem gw{c:Bool}{Q:Unit->cM->Prop}(q:Q () s):cU (model P w) A (match c with
  |true=>rule "set.scan.the-table-gave-way"
  |false=>pure ()) Q E s:=by cases c<;>first|exact wP1 q|exact wpAny_rule q
theorem Jj{k:Int}{tk:Tok}{Q:Bool->cM->Prop}(X:gZ b p ns s.heap)(hr:ns.length+1<scanBound)(q:∀c h',Heap.SameBut p s.heap h'->gZ b p (step_dedup ns k) h'->Q c {s with heap:=h'}):cU (model P w) A (setAddHashed p (.int k tk) (hashInt k)) Q E s:=by
 obtain⟨es,ep,t,l,i,a,R,G,T,C⟩:=X;have hz:=a.size;have V:ElemsOf (intKind P w) es.toList:=a.of;unfold setAddHashed setAddHashedIn;refine wpAny_holding (wB1 (wpAny_setState_of i O G ?_));dsimp only;rw[byScan_of (knd:=intKind P w) O R V,ak O];unfold setAddByScan;refine wB1 (wB1 (wpAny_rule (wB1 (wpAny_setScan_of (knd:=intKind P w) (k:=k) (intKind_is _ _ _ _) i O G V ?_))));cases hx:List.findIdx? (λe=>(intKind P w).is k e.2) es.toList with
 |some j=>
  obtain⟨S,g,_⟩:=List.findIdx?_eq_some_iff_getElem.mp hx;have B:k∈ns:=by
   refine a.pm.mem_iff.mp (b0.mpr ⟨_,bN S,?_⟩);obtain⟨k',wq,e⟩:=a.el _ (bN S);rw[e]at g ⊢;exact((intKind P w).inj _ _ _ g (intKind_is P w k' wq)).symm
  have K:step_dedup ns k=ns:=by unfold step_dedup;rw[ak (bM.mpr ⟨k,B,by simp⟩)]
  rw[K]at q;exact wP1 (wP1 (q _ s.heap (Heap.SameBut.refl p s.heap) ⟨es,ep,t,l,i,a,R,G,T,C⟩))
 |none=>
  have K:step_dedup ns k=ns++[k]:=by
   unfold step_dedup;rw[aj λz=>?_];obtain⟨k',B,e⟩:=bM.mp z;have e:=beq_iff_eq.mp e;subst e;obtain⟨x,h,d⟩:=b0.mp (a.pm.mem_iff.mpr B);obtain⟨n,m,rfl⟩:=a.el x h;have d:n=k':=d;subst d;have:=List.findIdx?_eq_none_iff.mp hx _ h;rw[show(intKind P w).is n (hashInt n,Value.int n m).2=M from intKind_is _ _ _ _]at this;cases this
  rw[K]at q;have F:=layNew_perm t es (hashInt k) (.int k tk);have I:=layNew_fits t es (hashInt k) (.int k tk);have o:=Ey T es (hashInt k) (.int k tk);dsimp only;generalize layNew t es (hashInt k) (.int k tk)=L at F I o ⊢;obtain⟨fs,u,W,gv⟩:=L;dsimp only at F I o ⊢;have y:Els fs (ns++[k]):=a.add F;have am:fs.size<scanBound:=by rw[y.size,lA1];exact hr
  refine wB1 (gw ?_);have tail:∀ (c:Bool),cU (model P w) A (do
    storeSet p fs u
    if (!W&&u.tooFull)=true then do
      (match (relayAll u fs (SetTable.grown fs.size)).2.2 with
       |true=>rule "set.scan.the-table-gave-way"
       |false=>pure ())
      storeSet p (relayAll u fs (SetTable.grown fs.size)).1 (relayAll u fs (SetTable.grown fs.size)).2.1
      pure (Z M)
     else pure (Z M)) (λr s'=>cU (model P w) A (match r with
      |some f=>pure f
      |none=>setAddHashedIn p (.int k tk) (hashInt k) 99999) Q E s') E s:=λ_=>by
   refine wB1 (wpAny_storeSet_of i O ?_ (fits_of_scanBound am));have H:=yr (fs:=fs) (u:=u) i;have N:=Heap.SameBut.update s.heap p (Obj.putSet fs u);split
   ·have p2:=relayAll_perm u fs (SetTable.grown fs.size);have D:=relayAll_fits u fs (SetTable.grown fs.size);have m:=xP o fs (SetTable.grown fs.size);generalize relayAll u fs (SetTable.grown fs.size)=L2 at p2 D m ⊢;obtain⟨U,v,aq⟩:=L2;dsimp only at p2 D m ⊢;have ao:=y.perm p2;have ar:U.size<scanBound:=by rw[ao.size,<- y.size];exact am
    refine wB1 (gw (wB1 (wpAny_storeSet_of H O ?_ (fits_of_scanBound ar))));exact wP1 (wP1 (q _ _ (N.trans (Heap.SameBut.update _ p _)) ⟨U,_,v,l,yr H,ao,ar,D,m,C⟩))
   ·exact wP1 (wP1 (q _ _ N ⟨fs,_,u,l,H,y,am,I,o,C⟩))
  split
  ·refine wB1 (wP1 ?_);exact tail M
  ·refine wB1 (wP1 ?_);exact tail M
end
section
variable{P:cO}{w:cQ}{A:cP}{E:cK->cM->Prop}{s:cM}
def byT(w:cQ):Bool:=w.params.followText "set-order"
theorem vm(x:cK){G:cK->cM->Prop}(q:G (.ref s.heap.objs.size) {s with heap:=s.heap.push (stO #[] 0 (.fresh 0 0 (!byT w)))}):
  cV (model P w) A (.call (.builtin "set.__new__") ⟨[.type "set",x],[]⟩) (wants G E) s:=by
 refine codeAny_of_tree (?_:cU _ A.in1 (do checkBuiltinCall "set.__new__" ⟨[.type "set",x],[]⟩;again (.builtin "set.__new__" ⟨[.type "set",x],[]⟩)) _ _ s);refine wB1 (wpAny_of_eq (PySem.F.newCall_set_1 x) (wP1 ⟨plainId_quiet PySem.F.plain_set_new _,wD1 PySem.F.entry_set_new (?_:_)⟩));rw[Around.under_plainId PySem.F.plain_set_new _];unfold Builtin.«set.__new__» Builtin.Frozenset.newClass;have a:=sub_set_self;obtain⟨b,g,d,tk,c⟩:=s;dsimp only
 wp_walk
 refine wpAny_askSetting (wP1 (?_:_));dsimp only;simp only[newObj];exact wB1 (wpAny_alloc (wP1 (wP1 q)))
set_option maxHeartbeats 3200000 in
theorem uE {l:cN}{its:Array cK}{Q:cK->cM->Prop}(u:s.heap.IsList l its)
  (g:∀d:cP,d.handled=A.handled->d.units<=A.units+2 -> ∀R:Result->cM->Prop,(∀s',Q (.ref s.heap.objs.size) s'->R (.ok (.ret .none)) s') ->
   cV (model P w) d (.builtin "set.update.loop" ⟨[.ref s.heap.objs.size,.ref (s.heap.objs.size+1)],[]⟩) R {s with heap:=(s.heap.push (stO #[] 0 (.fresh 0 0 (!byT w)))).push {cls:=.type "list_iterator",data:=.fields #[.ref l,.int 0 0]}}):
  cU (model P w) A (call (.type "set") [.ref l]) Q E s:=by
 obtain⟨U,ao,n⟩:=PySem.F.called_set.mro;have h:=PySem.F.called_set.made;have m:=PySem.F.called_set.sub
 refine wpAny_call (codeAny_of_tree (?_:cU _ _ (callAny (.type "set") _) _ _ _));refine wP1 ⟨Code.quiet_builtin _ (by decide+kernel),wD1 PySem.F.entry_type_call (?_:_)⟩;rw[Around.under_plain (weight_type_call_type "set" [.ref l] []) O];have W:=PySem.F.called_set.notType;have L:=PySem.F.called_set.canCreate;have X:=PySem.F.typeCall_set_1 (.ref l)
 repeat(any_goals (first|wp_step|assumption))
 refine codeAny_mono (vm (.ref l) (E:=E) (G:=λx t=>x = .ref s.heap.objs.size/\t={s with heap:=s.heap.push (stO #[] 0 (.fresh 0 0 (!byT w)))}) ⟨O,O⟩) λr t i=>?_;cases r with
 |error e=>exact i
 |ok v=>
  cases v with
  |ret x=>
   obtain⟨rfl,rfl⟩:=i;have o:(s.heap.push (stO #[] 0 (.fresh 0 0 (!byT w)))).get? s.heap.objs.size=Z (stO #[] 0 (.fresh 0 0 (!byT w))):=hS1 _ O;have I:Shared.TypeIs {s with heap:=s.heap.push (stO #[] 0 (.fresh 0 0 (!byT w)))} (.ref s.heap.objs.size) "set":=⟨_,o,O⟩;have am:=PySem.F.called_set.init.lookup;have N:=PySem.F.called_set.init.bind (.ref s.heap.objs.size)
   repeat(any_goals (first|wp_step|assumption))
   refine codeAny_mono (codeAny_call_builtin (R:=wants (λr k=>r = .none/\Q (.ref s.heap.objs.size) k) E) PySem.F.called_set.init.plain PySem.F.entry_set_init (check_set_init_1 I (?_:_))) λr2 k a=>?_
   ·obtain⟨D,j,b,p,c⟩:=u;obtain⟨K,B,V,C⟩:=D;simp only at b c;subst b;subst c;have y:(s.heap.push (stO #[] 0 (.fresh 0 0 (!byT w)))).get? l=Z {cls:=.type "list",dict:=B,data:=.seq its p,slots:=C}:=hP1 _ j;have S:=PySem.F.sub_list_set;have ar:=PySem.F.sub_list_frozenset;have T:(Value.type "list" == Value.type "dict")=J:=by decide
    have H:(s.heap.push (stO #[] 0 (.fresh 0 0 (!byT w)))).IsList l its:=⟨_,y,O,p,O⟩;have F:(s.heap.push (stO #[] 0 (.fresh 0 0 (!byT w)))).get? s.heap.objs.size=Z {cls:=.type "set",dict:=Y,data:=.set #[] 0 (.fresh 0 0 (!byT w)),slots:= #[]}:=o;unfold Builtin.«set.__init__» noKeywords Builtin.Frozenset.updateFrom;generalize f:pyIter=PI
    wp_walk
    subst f;refine wpAny_pyIter_list H (wB1 (wpAny_runValue (?_:_)));dsimp only;rw[show(s.heap.push (stO #[] 0 (.fresh 0 0 (!byT w)))).objs.size=s.heap.objs.size+1 from by rw[hZ1]];refine g A.in1.in1 (by simp) (nR1 _) _ λs' q=>?_;exact wP1 (wP1 ⟨O,q⟩)
   ·cases r2 with
    |error e=>exact a
    |ok z=>
     cases z with
     |ret r=>
      obtain⟨rfl,q⟩:=a
      repeat(any_goals (first|wp_step|assumption))
     |_=>exact a.elim
  |_=>exact i.elim
theorem w8 {l:cN}{its:Array cK}{Q:cK->cM->Prop}(c:s.heap.IsList l its)
  (b:∀a:cP,a.handled=A.handled -> ∀R:Result->cM->Prop,(∀s',Q (.ref s.heap.objs.size) s'->R (.ok (.ret .none)) s') ->
   cV (model P w) a (.builtin "set.update.loop" ⟨[.ref s.heap.objs.size,.ref (s.heap.objs.size+1)],[]⟩) R {s with heap:=(s.heap.push (stO #[] 0 (.fresh 0 0 (!byT w)))).push {cls:=.type "list_iterator",data:=.fields #[.ref l,.int 0 0]}}):
  cU (model P w) A (call (.type "set") [.ref l]) Q E s:=uE c λa h _=>b a h
end
section
variable{P:cO}{w:cQ}{A:cP}{E:cK->cM->Prop}{b:Bool}
theorem gZ.old{p:cN}{ns:List Int}{h h':cW}(x:gZ b p ns h)(k:∀o,h.get? p=Z o->h'.get? p=Z o):gZ b p ns h':=by
 obtain⟨es,ep,t,l,e,r⟩:=x;exact⟨es,ep,t,l,k _ e,r⟩
theorem lf:∀(ns acc:List Int),(ns.foldl step_dedup acc).length<=acc.length+ns.length
 |[],acc=>by simp
 |n::ns,acc=>by
  rw[aX];have h1:=lf ns (step_dedup acc n);have h2:(step_dedup acc n).length<=acc.length+1:=by unfold step_dedup;split<;>simp
  rw[lC1];lia
theorem yb{p l it:cN}{its:Array cK}{ns:List Int}{R:Result->cM->Prop}(I:A.handled=none)(D:IntsAre its.toList ns)(hb:ns.length+1<scanBound)(ao:p≠l)(j:p≠it)(H:it≠l):
  ∀(k i:Nat) (s:cM),its.size-i=k->i<=its.size->s.heap.IsListIter it l i->s.heap.IsList l its->gZ b p ((ns.take i).foldl step_dedup []) s.heap ->
  (∀h' tk,(∀c o,c≠p->c≠it->s.heap.get? c=Z o->h'.get? c=Z o)->gZ b p (ddI ns) h'->R (.ok (.ret .none)) {s with heap:=h',toks:=tk})->cV (model P w) A (.builtin "set.update.loop" ⟨[.ref p,.ref it],[]⟩) R s:=by
 have a:its.size=ns.length:=by rw[<- aH];exact D.length
 intro k
 induction k with
 |zero=>
  intro i s F hi st h n q;have e:i=its.size:=by lia
  subst e;refine wD1 PyProof.Rows.F.entry_set_update_loop (?_:_);rw[Around.under_plainId PyProof.Rows.F.plain_set_update_loop _];show cU _ A.in1 (pyNext (.ref it) >>= _) _ _ s;refine wB1 (wpAny_pyNext_list_end (by simpa using I) st h (by simp) λh' B=>wP1 ?_);refine q h' s.toks (λc o _ hc e=>B c o hc e) ?_;have:=n.old (h':=h') λo e=>B p o j e;rw[a,bR]at this;exact this
 |succ k ih=>
  intro i s F hi st h n q;have d:i<its.size:=by lia
  have y:=aG1 d;obtain⟨t,K⟩:=PyProof.Rows.IntsAre.int_at D i its[i] (by rw[aT1];exact y);refine wD1 PyProof.Rows.F.entry_set_update_loop (?_:_);rw[Around.under_plainId PyProof.Rows.F.plain_set_update_loop _];show cU _ A.in1 (pyNext (.ref it) >>= _) _ _ s;refine wB1 (wpAny_pyNext_list_item st h y λh' u C=>?_);rw[K];show cU _ A.in1 (holding [Value.int (ns.getD i 0) t] (setAdd p (.int (ns.getD i 0) t)) >>= _) _ _ _;refine wB1 (wpAny_holding ?_);unfold setAdd;refine wpAny_holding (wB1 (wpAny_pyHash_int ?_));have x:gZ b p ((ns.take i).foldl step_dedup []) h':=n.old λo e=>by rw[C.2 p j];exact e
  have v:=lf (ns.take i) [];refine Jj (s:={s with heap:=h',toks:=s.toks+1}) (k:=ns.getD i 0) x (by rw[aO,bf]at v;lia) λc h2 g f=>?_;have G:ns[i]?=Z (ns.getD i 0):=by rw[gG1 (by lia)];simp[List.getD,show i<ns.length by lia]
  have L:step_dedup ((ns.take i).foldl step_dedup []) (ns.getD i 0)=(ns.take (i+1)).foldl step_dedup []:=by
   rw[cb,G,List.foldl_append];rfl
  rw[L]at f;have E:∀c o,c≠p->c≠it->s.heap.get? c=Z o->h2.get? c=Z o:=λc o h1 m e=>by rw[g.2 c h1];show h'.get? c=_;rw[C.2 c m];exact e
  have keepIt:∀o,h'.get? it=Z o->h2.get? it=Z o:=λo e=>by rw[g.2 it (Ne.symm j)];exact e
  refine wP1 ⟨plainId_quiet PyProof.Rows.F.plain_set_update_loop _,ih (i+1) {s with heap:=h2,toks:=s.toks+1} (by lia) d (u.at keepIt) ?_ f λm tk am N=>?_⟩
  ·obtain⟨o,e,r⟩:=h;exact⟨o,E l o (Ne.symm ao) (Ne.symm H) e,r⟩
  ·exact q m tk (λc o h1 z e=>am c o h1 z (E c o h1 z e)) N
theorem w9{s:cM}{l:cN}{its:Array cK}{ns:List Int}{Q:cK->cM->Prop}(m:A.handled=Y)(d:s.heap.IsList l its)(p:IntsAre its.toList ns)(hb:ns.length+1<scanBound)(q:∀h' tk,(∀c o,s.heap.get? c=Z o->h'.get? c=Z o)->gZ (byT w) s.heap.objs.size (ddI ns) h'->Q (.ref s.heap.objs.size) {s with heap:=h',toks:=tk}):cU (model P w) A (call (.type "set") [.ref l]) Q E s:=by
 have a:l<s.heap.objs.size:=by obtain⟨o,e,_⟩:=d;exact hL1 e
 refine w8 d λt f R g=>?_;have i:(s.heap.push (stO #[] 0 (.fresh 0 0 (!byT w)))).objs.size=s.heap.objs.size+1:=by rw[hZ1]
 have j:(s.heap.push (stO #[] 0 (.fresh 0 0 (!byT w)))).get? s.heap.objs.size=Z (stO #[] 0 (.fresh 0 0 (!byT w))):=hS1 _ O;refine yb (its:=its) (ns:=ns) (b:=byT w) (f.trans m) p hb (nG1 a) (nN1 (bB _)) (nG1 (cc a)) _ 0 _ O (bj _) ?_ ?_ ?_ λh' tk k x=>g _ (q h' tk (λc o e=>k c o (nN1 (hL1 e)) (nN1 (cc (hL1 e))) (hP1 _ (hP1 _ e))) x)
 ·refine⟨{cls:=.type "list_iterator",data:=.fields #[.ref l,.int 0 0]},?_,O,O⟩;have this:((s.heap.push (stO #[] 0 (.fresh 0 0 (!byT w)))).push {cls:=.type "list_iterator",data:=.fields #[.ref l,.int 0 0]}).get? (s.heap.push (stO #[] 0 (.fresh 0 0 (!byT w)))).objs.size=Z {cls:=.type "list_iterator",data:=.fields #[.ref l,.int 0 0]}:=hS1 _ O;rw[i]at this;exact this
 ·obtain⟨o,e,r⟩:=d;exact⟨o,hP1 _ (hP1 _ e),r⟩
 ·refine⟨#[],0,_,!byT w,hP1 _ j,⟨λe n=>by simp at n,.refl _⟩,by decide,O,rk _,λh=>by rw[h];rfl⟩
end
theorem jv:Slot "set_iterator" "__next__" "set_iterator.__next__":=
 .of (owner:="set_iterator") (n:="__next__") (by rw[typeLookup_type,builtinLookup_eq_fast];kernel_rfl) (by decide+kernel) (by decide+kernel) (by decide+kernel) (by first|exact .inl (by decide+kernel)|exact .inr (by decide+kernel)) (by rw[isSubtype_type];kernel_rfl)
theorem pf:entryFor table "set_iterator.__next__"=Z Builtin.«set_iterator.__next__» :=entryFor_of_tree (by kernel_rfl)
theorem sO(x:cK):argsOk "set_iterator.__next__" ⟨[x],[]⟩:=by unfold argsOk;kernel_rfl
theorem sE:entryFor table "set.__iter__"=Z Builtin.«frozenset.__iter__» :=entryFor_alias (id':="frozenset.__iter__") (by kernel_rfl) O (by decide+kernel) (by kernel_rfl)
abbrev Hs(h:cW)(it a:cN)(f:cK)(i n ep:Nat):Prop:=h.get? it=Z {cls:=.type "set_iterator",dict:=Y,data:=.fields #[f,.int i 0,.ref a,.int n 0,.int ep 0],slots:= #[]}
def lv(t:SetTable)(i:Nat):Nat:=match i with
 |0=>0
 |i+1=>t.place.getD i 0+1
inductive sQ (w:cQ)(h:cW)(a:cN)(es:Array (Int×cK))(ep:Nat)(t:SetTable):cK->Nat->List cK->Prop
 |txt (b:byT w=true) (i:Nat) (sl:Nat):sQ w h a es ep t (.int sl 0) i ((pickOrder (w.params.setOrder a ep) es).toList.map (·.2))
 |drw (b:byT w=false) (d:(!t.plain&&decide (es.size>1))=true) (i:Nat) (tp:cN) (ps:List Nat) (e:h.get? tp=some {cls:=.type "tuple",data:=.seq (ps.map λj=>Value.int (j:Nat) 0).toArray}) (pm:ps.Perm (af es.size)):sQ w h a es ep t (.ref tp) i (ps.map λj=>(es[j]?.map (·.2)).getD .none)
 |plc (b:byT w=false) (d:(!t.plain&&decide (es.size>1))=false) (ld:t.led=true) (up:Ris t.place) (i:Nat):sQ w h a es ep t (.int (lv t i) 0) i (es.toList.map (·.2))
theorem oQ{α:Type}(f:Nat->Nat):∀(n k:Nat) (l:List α) (out:Array α),l.length=n->(pickOrder.go f n k l out).toList.Perm (out.toList++l)
 |0,k,l,out,h=>by
  rw[pickOrder.go,List.length_eq_zero_iff.mp h,aK]
 |n+1,k,l,out,h=>by
  have b:f k%l.length<l.length:=Nat.mod_lt _ (by lia);rw[pickOrder.go,gG1 b];refine(oQ f n (k+1) _ _ (by rw[List.length_eraseIdx_of_lt b];lia)).trans ?_;rw[b8,aW];refine List.Perm.append_left _ ?_;have c:l=l.take (f k%l.length)++l[f k%l.length]::l.drop (f k%l.length+1):=by rw[List.getElem_cons_drop,cf]
  rw[List.eraseIdx_eq_take_drop_succ];refine List.Perm.trans ?_ (List.Perm.of_eq c.symm);exact(cg (l₁:=l.take (f k%l.length)) (l₂:=l.drop (f k%l.length+1)) (a:=l[f k%l.length])).symm
theorem sQ.perm{w:cQ}{h:cW}{a:cN}{es:Array (Int×cK)}{ep:Nat}{t:SetTable}{f:cK}{i:Nat}{pl:List cK}(y:sQ w h a es ep t f i pl):pl.Perm (es.toList.map (·.2)):=by
 cases y with
 |txt=>exact(oQ _ _ _ _ _ O).map _
 |drw _ _ _ d ps e c=>
  refine(c.map _).trans ?_;have:(af es.size).map (λj=>(es[j]?.map (·.2)).getD .none)=es.toList.map (·.2):=by
   apply bT;intro j;rw[gP1,gP1,aT1 (xs:=es)];by_cases b:j<es.size
   ·rw[ci b,oP1,aG1 b];rfl
   ·rw[bU (by simpa using b),cj (by lia)];rfl
  rw[this]
 |plc=>exact .refl _
theorem sQ.len{w:cQ}{h:cW}{a:cN}{es:Array (Int×cK)}{ep:Nat}{t:SetTable}{f:cK}{i:Nat}{pl:List cK}(y:sQ w h a es ep t f i pl):pl.length=es.size:=by
 rw[y.perm.length_eq,lM1,aH]
section
variable{P:cO}{w:cQ}{A:cP}{E:cK->cM->Prop}{s:cM}{it a:cN}{f:cK}{i ep:Nat}{es:Array (Int×cK)}{t:SetTable}{pl:List cK}
theorem pB{Q:Bool->cM->Prop}(q:Q (byT w) s):cU (model P w) A setsByText Q E s:=by unfold setsByText;exact wB1 (wpAny_askSetting (wP1 q))
theorem x9{sl:Nat}{Q:Option (cK×Nat)->cM->Prop}(b:byT w=M)(ho:s.heap.get? a=Z (stO es ep t))(hf:t.fits es.size=M)(q:Q (((pickOrder (w.params.setOrder a ep) es)[i]?).map λe=>(e.2,sl)) s):cU (model P w) A (setNext a sl i ep) Q E s:=by
 unfold setNext;refine wB1 (wpAny_setState_of ho O hf (wB1 (pB ?_)));rw[b,ak O,aj (by simp)];refine wB1 ?_;unfold setWalk;refine wB1 (wpAny_setState_of ho O hf (wB1 (pB ?_)));rw[b,ak O];exact wB1 (wpAny_askSetting (wP1 (wP1 q)))
theorem Dm(up:Ris t.place)(hi:i<=t.place.size):SetTable.below t.place (lv t i)=i:=by
 cases i with
 |zero=>exact AE up
 |succ j=>
  have a:j<t.place.size:=hi;show SetTable.below t.place (t.place.getD j 0+1)=j+1;rw[show t.place.getD j 0=t.place[j]from by simp[Array.getD,a]];exact Dl up a
theorem ya{Q:Option (cK×Nat)->cM->Prop}(b:byT w=J)(d:(!t.plain&&decide (es.size>1))=J)(h:t.led=M)(up:Ris t.place)(ho:s.heap.get? a=Z (stO es ep t))(hf:t.fits es.size=M)(hi:i<=es.size)(q:Q ((es[i]?).map λe=>(e.2,lv t (i+1))) s):cU (model P w) A (setNext a (lv t i) i ep) Q E s:=by
 have j:t.place.size=es.size:=by
  unfold SetTable.fits at hf;rw[bA1,beq_iff_eq]at hf;exact hf.1
 unfold setNext;refine wB1 (wpAny_setState_of ho O hf (wB1 (pB ?_)));rw[b,aj (by decide)];rw[aj (λz=>by have f:(!t.plain&&decide (es.size>1))=M:=z;rw[d]at f;cases f)];refine wB1 ?_;show cU _ _ (if(!t.led && !es.isEmpty)=M then _ else _) _ _ _;rw[aj (by rw[h];simp)];refine wP1 ?_;dsimp only;rw[Dm up (by omega)];by_cases c:i<es.size
 ·rw [aG1 c] at q ⊢;rw [aG1 (show i<t.place.size by omega)];have g:lv t (i+1)=t.place[i]+1:=by
   show t.place.getD i 0+1=_;rw[show t.place.getD i 0=t.place[i]from by simp[Array.getD,show i<t.place.size by omega]]
  rw[g]at q;exact wP1 q
 ·rw[cj (by omega)]at q ⊢;exact wP1 q
theorem A9{Q:Option cK->cM->Prop}(k:Hs s.heap it a f i es.size ep)(ho:s.heap.get? a=Z (stO es ep t))(hf:t.fits es.size=M)(y:sQ w s.heap a es ep t f i pl){x:cK}(hx:pl[i]? = Z x)(ao:∀ g,f = .ref g->g≠it)(q:∀h' h,Hs h' it a h (i+1) es.size ep->(∀c o,c≠it->s.heap.get? c=Z o->h'.get? c=Z o)->sQ w h' a es ep t h (i+1) pl->(∀g,h = .ref g->f = .ref g)->Q (Z x) {s with heap:=h'}):cU (model P w) A (pyNext (.ref it)) Q E s:=by
 have I:s.TypeIs (.ref it) "set_iterator":=⟨_,k,O⟩;unfold pyNext;refine wB1 (wpAny_attempt (wpAny_callSpecial?_slot (name:=Str.ofString "__next__") I jv (wE1 jv I pf ?_ (sO _))));refine wB1 (wP1 (wB1 (wpAny_fieldsOf k O ?_)));dsimp only;refine wB1 (wpAny_setEntries_of ho O hf ?_);rw[aj (by simp)];have am:i<es.size:=by have:=(gE1.mp hx).1;rw[y.len]at this;exact this
 have two:∀ (h:cK),(∀ g,h = .ref g->f = .ref g)->(∀ h',(∀ c o,c≠it->s.heap.get? c=some o->h'.get? c=some o)->sQ w h' a es ep t h (i+1) pl) ->
   cU (model P w) A.in1 (setField (.ref it) 0 h >>= fun _=>setField (.ref it) 1 (rawInt ((i:Int)+1)) >>= fun _=>ret x) (fun r s'=>∃ v,r=Fin.done (Flow.ret v)/\cU (model P w) A (pure (some v)) Q E s') (fun e s'=>cU (model P w) A (do
     let y<-isInstance e (.type "StopIteration")
     if y=M then pure Y else throw e) Q E s') s:=λh L N=>by
  refine wB1 (wS1 k (by simp) λh1 K p=>wB1 (wS1 (s:={s with heap:=h1}) K (by simp) λh2 B l=>wP1 ⟨_,O,wP1 ?_⟩));have n:∀c o,c≠it->s.heap.get? c=Z o->h2.get? c=Z o:=λc o hc e=>l.extBut c o hc (p.extBut c o hc e);refine q h2 h ?_ n (N h2 n) L;have e:((i+1:Nat):Int)=(i:Int)+1:=by lia
  unfold Hs;rw[e];simpa[rawInt]using B
 cases y with
 |txt b _ sl=>
  refine wB1 (x9 (i:=i) (sl:=sl) (ep:=ep) b ho hf ?_);rw[gP1,aT1]at hx;obtain⟨e,u,rfl⟩:=oM1.mp hx;rw[u];exact two (.int sl 0) (λg z=>by cases z) λh' _=>.txt b _ sl
 |plc b d F up _=>
  refine wB1 (ya (i:=i) b d F up ho hf (by lia) ?_);rw[gP1,aT1]at hx;obtain⟨e,u,rfl⟩:=oM1.mp hx;rw[u];exact two (.int (lv t (i+1)) 0) (λg z=>by cases z) λh' _=>.plc b d F up _
 |drw b d _ g ps e D=>
  rw[gP1]at hx;obtain⟨j,G,rfl⟩:=oM1.mp hx;have m:j<es.size:=by have:=D.mem_iff.mp (gM1 G);simpa using this
  refine wB1 (wpAny_seqItems e O ?_);have C:((ps.map λj=>Value.int (j:Nat) 0).toArray)[((i:Int)).toNat]?=Z (.int (j:Nat) 0):=by
   rw[Int.toNat_natCast,List.getElem?_toArray,gP1,G];rfl
  dsimp only;rw[C];dsimp only;refine wB1 ?_;unfold setNextDrawn;refine wB1 (wpAny_setState_of ho O hf ?_);dsimp only;rw[aj (by simp),Int.toNat_natCast,aG1 m];refine wP1 (wB1 (wS1 k (by simp) λh2 B l=>wP1 ⟨_,O,wP1 ?_⟩));have n:∀c o,c≠it->s.heap.get? c=Z o->h2.get? c=Z o:=λc o hc e=>l.extBut c o hc e;have H:=q h2 (.ref g) ?_ n (.drw b d _ g ps (n g _ (ao g O) e) D) λ_ z=>z
  ·rw[aG1 m]at H;exact H
  ·have e:((i+1:Nat):Int)=(i:Int)+1:=by lia
   unfold Hs;rw[e];simpa[rawInt]using B
theorem tS{Q:Option cK->cM->Prop}{G:Fin->cM->Prop}(d:A.handled=none)(q:∀ h',(∀ c o,s.heap.get? c=some o->h'.get? c=some o)->Q none {s with heap:=h'}):
  cU (model P w) A.in1 (newExc (.type "StopIteration") [] >>= fun e=>raiseNew e) G (fun e s'=>cU (model P w) A (do
     let y<-isInstance e (.type "StopIteration")
     if y=M then pure Y else throw e) Q E s') s:=by
 refine wB1 ?_;simp only[newExc,newTuple];refine wB1 (wO1 ?_ (by size_fits));refine wB1 (m:=firstArgMember _ _) (wpAny_of_eq (a:=Value.none) (by first|rfl|(simp only[firstArgMember];rfl)) ?_);refine wO1 ?_ (by size_fits);simp only[raiseNew];refine wB1 (wpAny_handled ?_);rw[show A.in1.handled=Y from d];refine wB1 (wP1 (wpAny_throw (?_:_)));refine wB1 (wpAny_isInstance (b:=M) (T:="StopIteration") ⟨_,hS1 _ O,O⟩ isSubtype_stop (?_:_));exact wP1 (q _ λb o e=>hP1 _ (hP1 _ e))
theorem El{Q:Option cK->cM->Prop}(p:A.handled=Y)(g:Hs s.heap it a f es.size es.size ep)(ho:s.heap.get? a=Z (stO es ep t))(hf:t.fits es.size=M)(y:sQ w s.heap a es ep t f es.size pl)(q:∀h',(∀c o,c≠it->s.heap.get? c=Z o->h'.get? c=Z o)->Q Y {s with heap:=h'}):cU (model P w) A (pyNext (.ref it)) Q E s:=by
 have u:s.TypeIs (.ref it) "set_iterator":=⟨_,g,O⟩;unfold pyNext;refine wB1 (wpAny_attempt (wpAny_callSpecial?_slot (name:=Str.ofString "__next__") u jv (wE1 jv u pf ?_ (sO _))));refine wB1 (wP1 (wB1 (wpAny_fieldsOf g O ?_)));dsimp only;refine wB1 (wpAny_setEntries_of ho O hf ?_);rw[aj (by simp)];have l:=y.len;cases y with
 |txt b _ sl=>
  refine wB1 (x9 (i:=es.size) (sl:=sl) (ep:=ep) b ho hf ?_);rw[cj (by rw[lM1,aH]at l;lia)];refine wB1 (wS1 g (by simp) λh1 r h=>?_);exact tS (s:={s with heap:=h1}) p λh' k=>q h' λc o hc e=>k c o (h.extBut c o hc e)
 |plc b d v up _=>
  refine wB1 (ya (i:=es.size) (ep:=ep) b d v up ho hf (nR1 _) ?_);rw[cj (nR1 _)];refine wB1 (wS1 g (by simp) λh1 r h=>?_);exact tS (s:={s with heap:=h1}) p λh' k=>q h' λc o hc e=>k c o (h.extBut c o hc e)
 |drw b d _ B ps e x=>
  refine wB1 (wpAny_seqItems e O ?_);have m:((ps.map λj=>Value.int (j:Nat) 0).toArray)[((es.size:Int)).toNat]?=Y:=by
   rw[Int.toNat_natCast,List.getElem?_toArray,bU (by rw[lM1]at l ⊢;lia)]
  dsimp only;rw[m];dsimp only;refine wB1 (wS1 g (by simp) λh1 r h=>?_);refine wB1 (wS1 (s:={s with heap:=h1}) r (by simp) λh2 z n=>?_);exact tS (s:={s with heap:=h2}) p λh' k=>q h' λc o hc e=>k c o (n.extBut c o hc (h.extBut c o hc e))
theorem Av{a:Source}{n:Nat}{Q:Nat->cM->Prop}(hn:n≠0)(q:∀i c,i<n->Q i {s with drawn:=c}):cU (model P w) A (choose a n) Q E s:=fun Γ p b=>by
 unfold choose;rw[Sem.wp_choose];refine⟨hn,?_⟩;exact wP1 (A:=A) (E:=E) (q _ _ (Nat.mod_lt _ (Nat.pos_of_ne_zero hn))) Γ p b
theorem Ah{α:Type}:∀(n:Nat) (xs:List α) (s:cM) (Q:List α->cM->Prop),xs.length=n->(∀ys b,ys.Perm xs->Q ys {s with drawn:=b})->cU (model P w) A (drawOrder n xs) Q E s
 |0,xs,s,Q,h,q=>by
  have:=List.length_eq_zero_iff.mp h;subst this;exact wP1 (q [] s.drawn (.refl _))
 |n+1,[],s,Q,h,q=>by simp at h
 |n+1,x::xs,s,Q,h,q=>by
  rw[drawOrder];refine wB1 (Av (by simp) λi b hi=>?_);rw[gG1 hi];dsimp only;refine wB1 (Ah n _ _ _ (by rw[List.length_eraseIdx_of_lt hi];lia) λys a d=>wP1 (q _ a ?_));refine(d.cons _).trans ?_;have c:x::xs=(x::xs).take i++(x::xs)[i]::(x::xs).drop (i+1):=by rw[List.getElem_cons_drop,cf]
  rw[List.eraseIdx_eq_take_drop_succ];refine List.Perm.trans ?_ (List.Perm.of_eq c.symm);exact cg.symm
  all_goals simp
theorem Bb{l:Bool}{Q:cK->cM->Prop}(ho:s.heap.get? a=some (stO es ep t))(hf:t.fits es.size=true)(hz:es.size<scanBound)(D:TS l t)(F:byT w=false->l=true)(q:∀it h' h f pl,(∀c o,s.heap.get? c=some o->h'.get? c=some o)->s.heap.objs.size<=it->Hs h' it a f 0 es.size ep->sQ w h' a es ep t f 0 pl->(∀b,f = .ref b->b≠it/\s.heap.objs.size<=b)->Q (.ref it) {s with heap:=h',drawn:=h}):
  cU (model P w) A (pyIter (.ref a)) Q E s:=by
 have C:s.TypeIs (.ref a) "set":=⟨_,ho,rfl⟩;refine wpAny_pyIter_slot C PySem.F.slot_set_iter (wE1 PySem.F.slot_set_iter C sE ?_ (PySem.F.args_set_iter_1 _));unfold Builtin.«frozenset.__iter__»;refine wB1 (m:=Builtin.Frozenset.slot0 _ _) (wP1 ?_);unfold Builtin.Frozenset.sizeOf;refine wB1 (wB1 (wpAny_setEntries_of ho rfl hf (wP1 ?_)));unfold setDrawn;refine wB1 (wB1 (wpAny_setState_of ho rfl hf (wB1 (pB (wP1 ?_)))));show cU _ _ (if (!byT w&&(!t.plain&&decide (es.size>1)))=true then _ else _) _ _ _;have d:∀ (h1:cW) (h:Drawn) (f:cK) (pl:List cK),(∀ c o,s.heap.get? c=some o->h1.get? c=some o)->s.heap.objs.size<=h1.objs.size->(∀ b,f = .ref b->b<h1.objs.size/\s.heap.objs.size<=b)->(∀ h',(∀ c o,h1.get? c=some o->h'.get? c=some o)->sQ w h' a es ep t f 0 pl) ->
   cU (model P w) A.in1 (setEpoch a >>= λe=>newFields "set_iterator" [f,rawInt 0,.ref a,rawInt es.size,rawInt e] >>= λr=>ret r) (λd s'=>∃r,d=Fin.done (Flow.ret r) /\ ∃T g,s'.TypeIs r T/\typeLookup (.type T) "__next__"=pure (Z g)/\Q r s') E {s with heap:=h1,drawn:=h}:=by
  intro h1 h f pl y v u G;refine wB1 (wpAny_setEpoch_of (y a _ ho) O hf (wB1 (wO1 (wP1 ⟨_,O,"set_iterator",_,⟨_,hS1 _ O,O⟩,jv.lookup,?_⟩) (by size_fits))));refine q h1.objs.size _ h f pl (λc o e=>hP1 _ (y c o e)) v ?_ (G _ λc o e=>hP1 _ e) λb e=>⟨nN1 (u b e).1,(u b e).2⟩;have:=hS1 h1 (o:={cls:=.type "set_iterator",data:=.fields #[f,.int 0 0,.ref a,.int es.size 0,.int ep 0]}) O;exact this
 by_cases n:byT w=M
 ·rw[aj (by rw[n];simp)];refine wB1 (wP1 ?_);exact d s.heap s.drawn _ _ (λ_ _ e=>e) (nR1 _) (λb z=>by cases z) λh' _=>.txt n 0 0
 ·have n:byT w=J:=by simpa using n
  by_cases p:(!t.plain&&decide (es.size>1))=M
  ·rw[ak (by rw[n,p];rfl)];refine wB1 (Ah es.size (af es.size) s _ (by simp) λys h B=>?_);refine wB1 (m:=newTuple _) (wO1 (s:={s with drawn:=h}) ?_ ?_)
   ·refine d (s.heap.push {cls:=.type "tuple",data:=.seq (ys.map λ(i:Nat)=>rawInt i).toArray}) h (.ref s.heap.objs.size) (ys.map λj=>(es[j]?.map (·.2)).getD .none) (λc o e=>hP1 _ e) (by rw[hZ1];exact bF _) (λb z=>by cases z;exact⟨by rw[hZ1];exact bB _,nR1 _⟩) λh' k=>?_;exact .drw n p 0 _ ys (k _ _ (hS1 _ O)) B
   ·have:=B.length_eq;have x:=fits_of_scanBound hz;simp[sizeOk,this,x]
  ·have p:(!t.plain&&decide (es.size>1))=J:=by simpa using p
   rw[aj (by rw[p];simp)];refine wB1 (wP1 ?_);exact d s.heap s.drawn _ _ (λ_ _ e=>e) (nR1 _) (λb z=>by cases z) λh' _=>.plc n p (by rw[D.ld];exact F n) D.up 0
end
theorem sQ.keep{w:cQ}{h h':cW}{a:cN}{es:Array (Int×cK)}{ep:Nat}{t:SetTable}{f:cK}{i:Nat}{pl:List cK}(y:sQ w h a es ep t f i pl)(k:∀c o,f = .ref c->h.get? c=Z o->h'.get? c=Z o):sQ w h' a es ep t f i pl:=by
 cases y with
 |txt b _ sl=>exact .txt b _ sl
 |drw b d _ c ps e j=>exact .drw b d _ c ps (k c _ O e) j
 |plc b d g up _=>exact .plc b d g up _
section
variable{P:cO}{w:cQ}{A:cP}{E:cK->cM->Prop}
theorem Ba{it a S:cN}{ep:Nat}{es:Array (Int×cK)}{t:SetTable}{pl:List cK}{v:cK}{R:Result->cM->Prop}(U:A.handled=none)(hf:t.fits es.size=true)(h1:it≠a)(h2:S≠a)(K:S≠it)(hn:es.size<=cT):
  ∀(k i:Nat) (s:cM) (f:cK) (acc:Array cK) (c:Nat),es.size-i=k->i<=es.size->Hs s.heap it a f i es.size ep->s.heap.get? a=Z (stO es ep t)->sQ w s.heap a es ep t f i pl->(∀g,f = .ref g->g≠it/\g≠S) ->
  s.heap.get? S=Z {cls:=.type "list",dict:=Y,data:=.seq acc c,slots:= #[]}->acc.toList=pl.take i ->
  (∀h' d F,(∀b u,b≠it->b≠S->s.heap.get? b=Z u->h'.get? b=Z u)->h'.get? S=Z {cls:=.type "list",dict:=Y,data:=.seq d F,slots:= #[]}->d.toList=pl->R (.ok (.ret v)) {s with heap:=h'}) ->
  cV (model P w) A (.builtin "list.extend.loop" ⟨[.ref S,.ref it,v],[]⟩) R s:=by
 intro k
 induction k with
 |zero=>
  intro i s f acc c Q hi l C y E L D am;have e:i=es.size:=by lia
  subst e;have j:=y.len;refine wD1 PySem.F.entry_extend_loop (?_:_);rw[Around.under_plainId PySem.F.plain_extend_loop _];show cU _ A.in1 (pyNext (.ref it) >>= _) _ _ s;refine wB1 (El U l C hf y λh' keep=>wP1 ?_);exact am h' acc c (λb u n _ e=>keep b u n e) (keep S _ K L) (by rw[D,<- j,bR])
 |succ k ih=>
  intro i s f acc c Q hi l C y E L D am;have G:i<es.size:=by lia
  have j:=y.len;obtain⟨x,N⟩:∃x,pl[i]?=some x:=⟨_,gG1 (by lia)⟩;have p:acc.size=i:=by rw[<- aH,D,aO];lia
  refine wD1 PySem.F.entry_extend_loop (?_:_);rw[Around.under_plainId PySem.F.plain_extend_loop _];show cU _ A.in1 (pyNext (.ref it) >>= _) _ _ s;refine wB1 (A9 l C hf y N (λg e=>(E g e).1) λh' T r keep V ar=>?_);have z:=keep S _ K L;show cU _ A.in1 (updateSeq S (·.push x) >>= _) _ _ _;refine wB1 (wpAny_updateSeq (s:={s with heap:=h'}) z O ?_ (by rw[p];lia) (by show(acc.push _).size<=cT+1;rw[Array.size_push,p];lia));have h:∀b u,b≠S->h'.get? b=Z u->(h'.update S (Obj.mapSeq (·.push x))).get? b=Z u:=λb u n e=>by rw[hU1 _ _ _ _ n];exact e
  refine wP1 ⟨plainId_quiet PySem.F.plain_extend_loop _,ih (i+1) {s with heap:=h'.update S (Obj.mapSeq (·.push x))} T (acc.push x) _ (by lia) G (h it _ (Ne.symm K) r) (h a _ (Ne.symm h2) (keep a _ (Ne.symm h1) C)) (V.keep λg o e q=>h g o (E g (ar g e)).2 q) (λg e=>E g (ar g e)) (hW1 _ z O) ?_ ?_⟩
  ·rw[b8,D,cb,N];rfl
  ·intro ao d F m H I;exact am ao d F (λb u n B e=>m b u n B (h b u B (keep b u n e))) H I
theorem yd:typeLookup (.type "set") "__len__"=pure (Z (.builtin "set.__len__")):=by rw[typeLookup_type,builtinLookup_eq_fast];kernel_rfl
theorem Bc {s:cM}{v:cN}{Q:Bool->cM->Prop}(c:s.TypeIs (.ref v) "set")(q:Q J s):cU (model P w) A (Builtin.List.listLengthHint (.ref v)) Q E s:=by
 unfold Builtin.List.listLengthHint;refine wB1 (wpAny_specialOf c yd (?_:_));generalize a:("set.__len__":String)=id0
 wp_delta
 rw[show splitId id0=Z ("set","__len__")from by subst a;decide+kernel];subst a;refine wB1 (wpAny_isInstance (b:=M) c (by rw[isSubtype_type];kernel_rfl) (?_:_));rw[aj (by decide)];dsimp only;rw[ak (by decide+kernel)];exact wB1 (wpAny_typeOf c (wP1 q))
theorem tD{s:cM}{a:cN}{ns:List Int}{Q:List cK->cM->Prop}(W:A.handled=Y)(hx:gZ (byT w) a ns s.heap)(q:∀h' p vs ao,(∀b u,s.heap.get? b=Z u->h'.get? b=Z u)->s.heap.objs.size<=h'.objs.size->IntsAre vs ao->ao.Perm ns->Q vs {s with heap:=h',drawn:=p}):cU (model P w) A (collect (.ref a)) Q E s:=by
 obtain⟨es,ep,t,l,F,R,N,S,aq,U⟩:=hx;have m:a<s.heap.objs.size:=hL1 F;unfold collect;refine wB1 (wpAny_runValue (wD1 PySem.F.entry_proto_collect (?_:_)));rw[Around.under_plainId PySem.F.plain_proto_collect _];show cU _ A.in1 (newList [] >>= λl=>again (.builtin "list.__iadd__" ⟨[l,.ref a],[]⟩)) _ _ s;refine wB1 (wO1 (?_:_));refine wP1 ⟨plainId_quiet PySem.F.plain_list_iadd _,wD1 PySem.F.entry_list_iadd (?_:_)⟩;rw[Around.under_plainId PySem.F.plain_list_iadd _];have x:(s.heap.push {cls:=.type "list",data:=.seq ([]:List cK).toArray}).get? s.heap.objs.size=Z {cls:=.type "list",data:=.seq ([]:List cK).toArray}:=hS1 _ O;have h:∀b u,s.heap.get? b=Z u->(s.heap.push {cls:=.type "list",data:=.seq ([]:List cK).toArray}).get? b=Z u:=λb u e=>hP1 _ e;have r:(s.heap.push {cls:=.type "list",data:=.seq ([]:List cK).toArray}).objs.size=s.heap.objs.size+1:=by rw[hZ1]
 have L:s.heap.objs.size≠a:=nG1 m;have h1:Builtin.List.listSameRef (.ref s.heap.objs.size) (.ref a)=J:=by simp[Builtin.List.listSameRef,L]
 show cU _ A.in1 (Builtin.List.listExtendWith (.ref s.heap.objs.size) (.ref a) (.ref s.heap.objs.size)) _ _ {s with heap:=s.heap.push {cls:=.type "list",data:=.seq ([]:List cK).toArray}};generalize s.heap.push {cls:=.type "list",data:=.seq ([]:List cK).toArray}=h₁ at *
 unfold Builtin.List.listExtendWith;refine wB1 (wpAny_typeOf (T:="set") ⟨_,h a _ F,O⟩ ?_);rw[aj (by rw[h1];decide)];refine wB1 (Bb (s:={s with heap:=h₁}) (h a _ F) S N aq U λit c p f pl g d K y G=>?_);dsimp only at g d G;have i:=g _ _ x;have z:Shared.TypeIs {s with heap:=c,drawn:=p} (.ref a) "set":=⟨_,g _ _ (h a _ F),O⟩;refine wB1 (wpAny_holding (Bc z ?_));rw[ak (by decide+kernel)];refine wB1 (wpAny_rule (wB1 ?_));show cU _ A.in1 (updateSeq s.heap.objs.size (·.push .none) >>= λ_=>updateSeq s.heap.objs.size (·.pop)) _ _ _;refine wB1 (wpAny_updateSeq (s:={s with heap:=c,drawn:=p}) i O ?_);have j:=hW1 (Obj.mapSeq (·.push Value.none)) i O;refine wpAny_updateSeq (s:={s with heap:=c.update s.heap.objs.size (Obj.mapSeq (·.push Value.none)),drawn:=p}) j O ?_;have B:=hW1 (Obj.mapSeq (·.pop)) j O;have n:∀b u,b≠s.heap.objs.size->c.get? b=Z u->((c.update s.heap.objs.size (Obj.mapSeq (·.push Value.none))).update s.heap.objs.size (Obj.mapSeq (·.pop))).get? b=Z u:=λb u C e=>by
  rw[hU1 _ _ _ _ C,hU1 _ _ _ _ C];exact e
 rw[r]at d G;have ar:=y.perm;refine wP1 ⟨plainId_quiet PySem.F.plain_extend_loop _,Ba (it:=it) (pl:=pl) W S (nG1 (bi m d)) (nG1 m) (nN1 d) (fits_of_scanBound N) es.size 0
  {s with heap:=(c.update s.heap.objs.size (Obj.mapSeq (·.push Value.none))).update s.heap.objs.size (Obj.mapSeq (·.pop)),drawn:=p} f _ _ O (bj _) (n _ _ (nG1 d) K) (n a _ (nN1 m) (g _ _ (h a _ F))) (y.keep λH o e q=>n H o (nG1 (G H e).2) q) (λH e=>⟨(G H e).1,nG1 (G H e).2⟩) B O λh' D c' keep I wq=>?_⟩
 show cU _ A (load s.heap.objs.size >>= _) _ _ {s with heap:=h',drawn:=p};refine wB1 (wpAny_load I ?_);have V:∀v∈pl,∃k t,v=Value.int k t:=λv am=>by
  obtain⟨e,X,rfl⟩:=b0.mp (ar.mem_iff.mp am);obtain⟨k,t,rfl⟩:=R.el e X;exact⟨k,t,O⟩
 have all:∀vs:List cK,(∀v∈vs,∃k t,v=Value.int k t)->IntsAre vs (vs.map λv=>KC (0,v)):=by
  intro vs
  induction vs with
  |nil=>intro _;exact .nil
  |cons v vs ih=>
   intro am;obtain⟨k,t,rfl⟩:=am v mS1;exact .cons k t (ih λu hu=>am u (mC1 _ hu))
 refine wP1 (q h' p D.toList (pl.map λv=>KC (0,v)) (λb u e=>?_) (Nat.le_of_lt (hL1 I)) (by rw[wq];exact all pl V) ?_)
 ·have C:=hL1 e;exact keep b u (nN1 (bi C d)) (nN1 C) (n b u (nN1 C) (g _ _ (h b u e)))
 ·refine(ar.map _).trans ?_;rw[bu];exact R.pm
theorem ro {s:cM}{a:cN}{ns:List Int}{Q:cK->cM->Prop}(t:A.handled=none)(hx:gZ (byT w) a ns s.heap)(i:ns.length<64)
  (q:∀h' f L n c,(∀b u,s.heap.get? b=Z u->h'.get? b=Z u)->s.heap.objs.size<=L->h'.get? L=Z (seqObj "list" c n)->IntsAre c.toList (fe ns)->Q (.ref L) {s with heap:=h',drawn:=f}):
  cU (model P w) A (call (.builtin "sorted") [.ref a]) Q E s:=by
 refine Calls.call_function_entry kind_sorted plain_sorted entry_sorted (args_sorted1 _) (?_:_);unfold Builtin.«sorted»;refine wB1 (m:=checkCount "sorted" 1 1 _) (wP1 (wB1 (tD t hx λh' f vs v keep p o l=>?_)));have g:vs.length<64:=by rw[o.length,l.length_eq];exact i
 refine wB1 (wpAny_newList (hsz:=by rw[sizeLine_eq];lia) ?_);have d:(h'.push (seqObj "list" vs.toArray 0)).get? h'.objs.size=Z (seqObj "list" vs.toArray 0):=hS1 _ O;show cU _ _ _ _ _ {s with heap:=h'.push (seqObj "list" vs.toArray 0),drawn:=f};refine wB1 (wpAny_holding (wE1 slot_list_sort ⟨_,d,O⟩ entry_list_sort (list_sort_tree (s:={s with heap:=h'.push (seqObj "list" vs.toArray 0),drawn:=f}) d o g λc h a1 a2 a3=>⟨_,O,?_⟩) (args_list_sort _)));have r:h=fe ns:=kW (a2.trans (l.trans (eb ns).symm)) a3 (hM ns);subst r;obtain⟨n,j⟩:=sortedHeap_at (out:=c) d;refine wP1 ⟨_,O,q _ f h'.objs.size n c (λb u e=>?_) p j a1⟩;have k:=keep b u e;show(sortedHeap (h'.push (seqObj "list" vs.toArray 0)) h'.objs.size vs c).get? b=Z u;rw[sortedHeap_old (nN1 (hL1 k)) (by rw[hZ1];exact cc (hL1 k))];exact hP1 _ k
end
def jF:G1:=λd S=>match dn S d with
 |some (M,xs)=>(ky xs).bind λns=>if ns.length<64 then Z (.ref S.length,S++[.lst ((fe (ddI ns)).map D.int)])else Y
 |_=>Y
section
variable{X:Cx}
def Ib(X:Cx)(vs:List V)(H:Hp)(Q:VK):Prop:=∃a xs ns,vs=[.ref a]/\lp X.K H a xs/\(∀us,dU xs us->IntsAre us ns)/\ns.length+1<scanBound /\ ∀p,H p=Y->Q (.ref p) (upd H p (.ext (gZ (byT X.w) p (ddI ns))))
def E4(X:Cx)(vs:List V)(H:Hp)(Q:VK):Prop:=∃a ns,vs=[.ref a]/\H a=Z (.ext (gZ (byT X.w) a ns))/\ns.length<64 /\ ∀p,H p=Y->Q (.ref p) (upd H p (.lst ((fe ns).map V.int)))
theorem wL{ag:List (cN×Obj)}{σ:L2.St}{H:Hp}{s:cM}(I:Inv X ag σ H s)(d:Drawn):Inv X ag σ H {s with drawn:=d}:=⟨I.ok,I.os,I.bare,I.base,I.loc,I.cell,I.free,I.freeC,I.pin,I.hok,I.len⟩
theorem Hb(hc:X.calm=M):eH X (.type "set") (Ib X):=by
 intro ag s σ H xs n Q I r h;obtain⟨a,vs,ns,rfl,i,hi,f,q⟩:=h;obtain⟨u,rfl,r2⟩:=hI r;cases r2;obtain⟨b,g,p,m⟩:=I.list i;have j:=hi b g;refine w9 (I.ok.hd hc) p.isList (by simpa using j) f λh' tk keep d=>?_;have c:=I.hok.fresh (nR1 s.heap.objs.size);refine⟨.ref s.heap.objs.size,_,I.laid (t':=tk) (o:=.ext (gZ (byT X.w) s.heap.objs.size (ddI ns))) keep (nR1 _) ⟨d,?_,λh1 h2 x k=>x.old k⟩,O,q _ c⟩;obtain⟨es,ep,t,l,e,_⟩:=d;exact⟨_,e⟩
theorem vY(hc:X.calm=M):eH X (.builtin "sorted") (E4 X):=by
 intro ag s σ H xs l Q I r h;obtain⟨a,ns,rfl,g,j,q⟩:=h;obtain⟨u,rfl,r2⟩:=hI r;cases r2;obtain⟨i,_⟩:=(show ez X.prog X.w H s.heap a (.ext (gZ (byT X.w) a ns))from I.hok a _ g);refine ro (I.ok.hd hc) i j λh' f L n b keep e d k=>?_;have c:=I.hok.fresh e;refine⟨.ref L,_,wL (I.laid (t':=s.toks) (o:=.lst ((fe ns).map V.int)) keep e ⟨?_,b.toList,n,oZ k,by rw[Array.toArray_toList];exact d⟩) f,O,q _ c⟩;rw[lM1,(eb ns).length_eq,sizeLine_eq];lia
theorem D8(ns:List Int):(ddI ns).length<=ns.length:=by
 have:=lf ns [];unfold ddI;simpa using this
theorem wd (hc:X.calm=true){o:Expr}{m:FE}{p p2 pos b:Pos}(hg:Gl X "sorted")(hm:X.mg "sorted"=none)(hg2:Gl X "set")(hm2:X.mg "set"=none)(ho:XE X o m)
  (he:cS [.Call (.Name "set" p2) [o] [] b] X.env=[(J,eval (.Call (.Name "set" p2) [o] [] b) X.env)]:=by rfl) (e:cS [o] X.env=[(J,eval o X.env)]:=by rfl):XE X (.Call (.Name "sorted" p) [.Call (.Name "set" p2) [o] [] b] [] pos) (mN (b1 jF) (c9 m da)):=
 ⟨em (kX (vY hc) hg hm (by decide+kernel) (iR (lz (Hb hc) hg2 hm2 (by decide+kernel) (iR ho.h lA e) (he:=e)) lA he) (he:=he)) <| by
  rintro σ H Q ⟨r,mu,S,d,F,he,s,hm,f⟩;obtain⟨⟨ds,D⟩,g,hm⟩:=oB1.mp hm;obtain⟨⟨x,E⟩,l,g⟩:=oB1.mp g;cases g;dsimp only[b1,jF]at hm;split at hm
  ·rename_i xs n;obtain⟨ns,w,hm⟩:=oB1.mp hm;split at hm
   ·rename_i i;cases hm;refine⟨r,mu,S,x,_,he,s,l,λv H1 mu1 z y k=>?_⟩;obtain⟨a,vs,rfl,q,t⟩:=dA y k n;refine⟨a,vs,ns,O,q,λC A=>(o2 t A w).1,bi (Nat.succ_lt_succ i) (by decide),λp j=>?_⟩;refine⟨p,ddI ns,O,d5,bD (D8 ns) i,λp2 c=>?_⟩;have B:Ext mu1 mu1 H1 (upd H1 p (.ext (gZ (byT X.w) p (ddI ns)))):=Ext.fresh j;have h:=k.fresh (u:=.ext (gZ (byT X.w) p (ddI ns))) j;exact f _ _ (mu1++[p2]) (z.trans (B.trans (Ext.new_ c))) (.ref (gY h.len _)) (h.newL (iA _) c)
   ·cases hm
  ·cases hm⟩
end
section
variable{X:Cx}{ag:List (cN×Obj)}{σ:L2.St}{H:Hp}{s:cM}{a:cN}{kvs:List (Key×V)}{k:Key}{v:V}{u r:cK}{A:cP}{E:cK->cM->Prop}
end
section
variable{X:Cx}
end
open AutoSeq1 (wpAny_loadPart')
section
variable{prog:cO}{w:cQ}{A:cP}{E:cK->cM->Prop}{s:cM}
end
section
variable{X:Cx}
end
section
variable{P:cO}{w:cQ}{A:cP}{E:cK->cM->Prop}{s:cM}
set_option maxHeartbeats 3200000 in
theorem w6 {l:cN}{its:Array cK}{Q:cK->cM->Prop}(u:s.heap.IsTuple l its)
  (f:∀k:cP,k.handled=A.handled -> ∀R:Result->cM->Prop,(∀s',Q (.ref s.heap.objs.size) s'->R (.ok (.ret .none)) s') ->
   cV (model P w) k (.builtin "set.update.loop" ⟨[.ref s.heap.objs.size,.ref (s.heap.objs.size+1)],[]⟩) R {s with heap:=(s.heap.push (stO #[] 0 (.fresh 0 0 (!byT w)))).push {cls:=.type "tuple_iterator",data:=.fields #[.ref l,.int 0 0]}}):
  cU (model P w) A (call (.type "set") [.ref l]) Q E s:=by
 obtain⟨U,ao,n⟩:=PySem.F.called_set.mro;have g:=PySem.F.called_set.made;have m:=PySem.F.called_set.sub
 refine wpAny_call (codeAny_of_tree (?_:cU _ _ (callAny (.type "set") _) _ _ _));refine wP1 ⟨Code.quiet_builtin _ (by decide+kernel),wD1 PySem.F.entry_type_call (?_:_)⟩;rw[Around.under_plain (weight_type_call_type "set" [.ref l] []) O];have W:=PySem.F.called_set.notType;have L:=PySem.F.called_set.canCreate;have X:=PySem.F.typeCall_set_1 (.ref l)
 repeat(any_goals (first|wp_step|assumption))
 refine codeAny_mono (vm (.ref l) (E:=E) (G:=λx t=>x = .ref s.heap.objs.size/\t={s with heap:=s.heap.push (stO #[] 0 (.fresh 0 0 (!byT w)))}) ⟨O,O⟩) λr t h=>?_;cases r with
 |error e=>exact h
 |ok v=>
  cases v with
  |ret x=>
   obtain⟨rfl,rfl⟩:=h;have o:(s.heap.push (stO #[] 0 (.fresh 0 0 (!byT w)))).get? s.heap.objs.size=Z (stO #[] 0 (.fresh 0 0 (!byT w))):=hS1 _ O;have I:Shared.TypeIs {s with heap:=s.heap.push (stO #[] 0 (.fresh 0 0 (!byT w)))} (.ref s.heap.objs.size) "set":=⟨_,o,O⟩;have am:=PySem.F.called_set.init.lookup;have N:=PySem.F.called_set.init.bind (.ref s.heap.objs.size)
   repeat(any_goals (first|wp_step|assumption))
   refine codeAny_mono (codeAny_call_builtin (R:=wants (λr j=>r = .none/\Q (.ref s.heap.objs.size) j) E) PySem.F.called_set.init.plain PySem.F.entry_set_init (check_set_init_1 I (?_:_))) λr2 j a=>?_
   ·obtain⟨D,i,b,p,c⟩:=u;obtain⟨K,B,V,C⟩:=D;simp only at b c;subst b;subst c;have y:(s.heap.push (stO #[] 0 (.fresh 0 0 (!byT w)))).get? l=Z {cls:=.type "tuple",dict:=B,data:=.seq its p,slots:=C}:=hP1 _ i;have S:=PySem.F.sub_tuple_set;have ar:=PySem.F.sub_tuple_frozenset;have T:(Value.type "tuple" == Value.type "dict")=J:=by decide
    have H:(s.heap.push (stO #[] 0 (.fresh 0 0 (!byT w)))).IsTuple l its:=⟨_,y,O,p,O⟩;have F:(s.heap.push (stO #[] 0 (.fresh 0 0 (!byT w)))).get? s.heap.objs.size=Z {cls:=.type "set",dict:=Y,data:=.set #[] 0 (.fresh 0 0 (!byT w)),slots:= #[]}:=o;unfold Builtin.«set.__init__» noKeywords Builtin.Frozenset.updateFrom;generalize d:pyIter=PI
    wp_walk
    subst d;refine wpAny_pyIter_tuple H (wB1 (wpAny_runValue (?_:_)));dsimp only;rw[show(s.heap.push (stO #[] 0 (.fresh 0 0 (!byT w)))).objs.size=s.heap.objs.size+1 from by rw[hZ1]];refine f A.in1.in1 (by simp) _ λs' q=>?_;exact wP1 (wP1 ⟨O,q⟩)
   ·cases r2 with
    |error e=>exact a
    |ok z=>
     cases z with
     |ret r=>
      obtain⟨rfl,q⟩:=a
      repeat(any_goals (first|wp_step|assumption))
     |_=>exact a.elim
  |_=>exact h.elim
end
section
variable{X:Cx}
end
section
variable{X:Cx}{a b:Expr}{rest:List Expr}{pos:Pos}{ta tb:TE}{f g:FE}
theorem Fo(ha:PE X a ta)(hb:PE X (.BoolOp .Or (b::rest) pos) tb):PE X (.BoolOp .Or (a::b::rest) pos) (fun σ H Q=>ta σ H λx H'=>∃k,AX X.K x H' k/\if k=M then Q x H' else tb σ H' Q):=by
 intro ag s σ H Q I h;refine BoolOp_or (eN (ha ag s σ H _ I h) λv l ⟨x,H1,m,f,e⟩=>?_);obtain⟨k,tk,e⟩:=e;refine eN (xQ ag l σ H1 x v (λj H'=>if j=M then Q x H' else tb σ H' Q) m f ⟨k,tk,e⟩) λc i ⟨H2,g,d⟩=>?_;cases c with
 |false=>rw[aj (by decide)]at d ⊢;exact hb ag i σ H2 Q g d
 |true=>rw[ak O]at d ⊢;exact⟨x,H2,g,f,d⟩
def Cs(a b:FE):FE:=λr S=>(a r S).bind λp=>(ou p.2 p.1).bind λk=>if k=M then Z p else b r p.2
theorem A6(ha:XE X a f)(hb:XE X (.BoolOp .Or (b::rest) pos) g):XE X (.BoolOp .Or (a::b::rest) pos) (Cs f g):=
 ⟨em (Fo ha.h hb.h) <| by
  rintro σ H Q ⟨r,mu,S,d,s,m,u,c,hc⟩;obtain⟨⟨p,j⟩,q,c⟩:=oB1.mp c;obtain⟨k,t,c⟩:=oB1.mp c;refine⟨r,mu,S,p,j,m,u,q,λv H1 mu1 i l h=>⟨k,xR l h t,?_⟩⟩;cases k with
  |true=>rw[ak O]at c ⊢;cases c;exact hc _ H1 mu1 i l h
  |false=>rw[aj (by decide)]at c ⊢;exact⟨r,mu1,j,d,s,m.ext i,h,c,λn H2 e x2 r2 o=>hc n H2 e (i.trans x2) r2 o⟩⟩
end
section
variable{X:Cx}
end
section
variable{P:cO}{w:cQ}{A:cP}{E:cK->cM->Prop}{b:Bool}
theorem wo{p l it:cN}{its:Array cK}{ns:List Int}{R:Result->cM->Prop}(I:A.handled=none)(D:IntsAre its.toList ns)(hb:ns.length+1<scanBound)(ao:p≠l)(j:p≠it)(H:it≠l):
  ∀(k i:Nat) (s:cM),its.size-i=k->i<=its.size->s.heap.IsTupleIter it l i->s.heap.IsTuple l its->gZ b p ((ns.take i).foldl step_dedup []) s.heap ->
  (∀h' tk,(∀c o,c≠p->c≠it->s.heap.get? c=Z o->h'.get? c=Z o)->gZ b p (ddI ns) h'->R (.ok (.ret .none)) {s with heap:=h',toks:=tk})->cV (model P w) A (.builtin "set.update.loop" ⟨[.ref p,.ref it],[]⟩) R s:=by
 have a:its.size=ns.length:=by rw[<- aH];exact D.length
 intro k
 induction k with
 |zero=>
  intro i s F hi st h n q;have e:i=its.size:=by lia
  subst e;refine wD1 PyProof.Rows.F.entry_set_update_loop (?_:_);rw[Around.under_plainId PyProof.Rows.F.plain_set_update_loop _];show cU _ A.in1 (pyNext (.ref it) >>= _) _ _ s;refine wB1 (wpAny_pyNext_tuple_end (by simpa using I) st h (by simp) λh' B=>wP1 ?_);refine q h' s.toks (λc o _ hc e=>B c o hc e) ?_;have:=n.old (h':=h') λo e=>B p o j e;rw[a,bR]at this;exact this
 |succ k ih=>
  intro i s F hi st h n q;have d:i<its.size:=by lia
  have y:=aG1 d;obtain⟨t,K⟩:=PyProof.Rows.IntsAre.int_at D i its[i] (by rw[aT1];exact y);refine wD1 PyProof.Rows.F.entry_set_update_loop (?_:_);rw[Around.under_plainId PyProof.Rows.F.plain_set_update_loop _];show cU _ A.in1 (pyNext (.ref it) >>= _) _ _ s;refine wB1 (wpAny_pyNext_tuple_item st h y λh' u C=>?_);rw[K];show cU _ A.in1 (holding [Value.int (ns.getD i 0) t] (setAdd p (.int (ns.getD i 0) t)) >>= _) _ _ _;refine wB1 (wpAny_holding ?_);unfold setAdd;refine wpAny_holding (wB1 (wpAny_pyHash_int ?_));have x:gZ b p ((ns.take i).foldl step_dedup []) h':=n.old λo e=>by rw[C.2 p j];exact e
  have v:=lf (ns.take i) [];refine Jj (s:={s with heap:=h',toks:=s.toks+1}) (k:=ns.getD i 0) x (by rw[aO,bf]at v;lia) λc h2 g f=>?_;have G:ns[i]?=Z (ns.getD i 0):=by rw[gG1 (by lia)];simp[List.getD,show i<ns.length by lia]
  have L:step_dedup ((ns.take i).foldl step_dedup []) (ns.getD i 0)=(ns.take (i+1)).foldl step_dedup []:=by
   rw[cb,G,List.foldl_append];rfl
  rw[L]at f;have E:∀c o,c≠p->c≠it->s.heap.get? c=Z o->h2.get? c=Z o:=λc o h1 m e=>by rw[g.2 c h1];show h'.get? c=_;rw[C.2 c m];exact e
  have keepIt:∀o,h'.get? it=Z o->h2.get? it=Z o:=λo e=>by rw[g.2 it (Ne.symm j)];exact e
  refine wP1 ⟨plainId_quiet PyProof.Rows.F.plain_set_update_loop _,ih (i+1) {s with heap:=h2,toks:=s.toks+1} (by lia) d (u.at keepIt) ?_ f λm tk am N=>?_⟩
  ·obtain⟨o,e,r⟩:=h;exact⟨o,E l o (Ne.symm ao) (Ne.symm H) e,r⟩
  ·exact q m tk (λc o h1 z e=>am c o h1 z (E c o h1 z e)) N
theorem uF{s:cM}{l:cN}{its:Array cK}{ns:List Int}{Q:cK->cM->Prop}(m:A.handled=Y)(d:s.heap.IsTuple l its)(p:IntsAre its.toList ns)(hb:ns.length+1<scanBound)(q:∀h' tk,(∀c o,s.heap.get? c=Z o->h'.get? c=Z o)->gZ (byT w) s.heap.objs.size (ddI ns) h'->Q (.ref s.heap.objs.size) {s with heap:=h',toks:=tk}):cU (model P w) A (call (.type "set") [.ref l]) Q E s:=by
 have a:l<s.heap.objs.size:=by obtain⟨o,e,_⟩:=d;exact hL1 e
 refine w6 d λt f R g=>?_;have i:(s.heap.push (stO #[] 0 (.fresh 0 0 (!byT w)))).objs.size=s.heap.objs.size+1:=by rw[hZ1]
 have j:(s.heap.push (stO #[] 0 (.fresh 0 0 (!byT w)))).get? s.heap.objs.size=Z (stO #[] 0 (.fresh 0 0 (!byT w))):=hS1 _ O;refine wo (its:=its) (ns:=ns) (b:=byT w) (f.trans m) p hb (nG1 a) (nN1 (bB _)) (nG1 (cc a)) _ 0 _ O (bj _) ?_ ?_ ?_ λh' tk k x=>g _ (q h' tk (λc o e=>k c o (nN1 (hL1 e)) (nN1 (cc (hL1 e))) (hP1 _ (hP1 _ e))) x)
 ·refine⟨{cls:=.type "tuple_iterator",data:=.fields #[.ref l,.int 0 0]},?_,O,O⟩;have this:((s.heap.push (stO #[] 0 (.fresh 0 0 (!byT w)))).push {cls:=.type "tuple_iterator",data:=.fields #[.ref l,.int 0 0]}).get? (s.heap.push (stO #[] 0 (.fresh 0 0 (!byT w)))).objs.size=Z {cls:=.type "tuple_iterator",data:=.fields #[.ref l,.int 0 0]}:=hS1 _ O;rw[i]at this;exact this
 ·obtain⟨o,e,r⟩:=d;exact⟨o,hP1 _ (hP1 _ e),r⟩
 ·refine⟨#[],0,_,!byT w,hP1 _ j,⟨λe n=>by simp at n,.refl _⟩,by decide,O,rk _,λh=>by rw[h];rfl⟩
end
def iH:G1:=λd S=>match dn S d with
 |some (J,xs)=>(ky xs).bind λns=>if ns.length<64 then Z (.ref S.length,S++[.lst ((fe (ddI ns)).map D.int)])else Y
 |_=>Y
section
variable{X:Cx}
def E5(X:Cx)(vs:List V)(H:Hp)(Q:VK):Prop:=∃a xs ns,vs=[.ref a]/\jW X.K H a xs/\(∀us,dU xs us->IntsAre us ns)/\ns.length+1<scanBound /\ ∀p,H p=Y->Q (.ref p) (upd H p (.ext (gZ (byT X.w) p (ddI ns))))
theorem Dj(hc:X.calm=M):eH X (.type "set") (E5 X):=by
 intro ag s σ H xs n Q I r h;obtain⟨a,vs,ns,rfl,i,hi,f,q⟩:=h;obtain⟨u,rfl,r2⟩:=hI r;cases r2;obtain⟨b,g,p,m⟩:=I.tuple i;have j:=hi b g;refine uF (I.ok.hd hc) p (by simpa using j) f λh' tk keep d=>?_;have c:=I.hok.fresh (nR1 s.heap.objs.size);refine⟨.ref s.heap.objs.size,_,I.laid (t':=tk) (o:=.ext (gZ (byT X.w) s.heap.objs.size (ddI ns))) keep (nR1 _) ⟨d,?_,λh1 h2 x k=>x.old k⟩,O,q _ c⟩;obtain⟨es,ep,t,l,e,_⟩:=d;exact⟨_,e⟩
theorem tw (hc:X.calm=true){o:Expr}{m:FE}{p p2 pos b:Pos}(hg:Gl X "sorted")(hm:X.mg "sorted"=none)(hg2:Gl X "set")(hm2:X.mg "set"=none)(ho:XE X o m)
  (he:cS [.Call (.Name "set" p2) [o] [] b] X.env=[(J,eval (.Call (.Name "set" p2) [o] [] b) X.env)]:=by rfl) (e:cS [o] X.env=[(J,eval o X.env)]:=by rfl):XE X (.Call (.Name "sorted" p) [.Call (.Name "set" p2) [o] [] b] [] pos) (mN (b1 iH) (c9 m da)):=
 ⟨em (kX (vY hc) hg hm (by decide+kernel) (iR (lz (Dj hc) hg2 hm2 (by decide+kernel) (iR ho.h lA e) (he:=e)) lA he) (he:=he)) <| by
  rintro σ H Q ⟨r,mu,S,d,F,he,s,hm,f⟩;obtain⟨⟨ds,D⟩,g,hm⟩:=oB1.mp hm;obtain⟨⟨x,E⟩,l,g⟩:=oB1.mp g;cases g;dsimp only[b1,iH]at hm;split at hm
  ·rename_i xs n;obtain⟨ns,w,hm⟩:=oB1.mp hm;split at hm
   ·rename_i i;cases hm;refine⟨r,mu,S,x,_,he,s,l,λv H1 mu1 z y k=>?_⟩;obtain⟨a,vs,rfl,q,t⟩:=dA y k n;refine⟨a,vs,ns,O,q,λC A=>(o2 t A w).1,bi (Nat.succ_lt_succ i) (by decide),λp j=>?_⟩;refine⟨p,ddI ns,O,d5,bD (D8 ns) i,λp2 c=>?_⟩;have B:Ext mu1 mu1 H1 (upd H1 p (.ext (gZ (byT X.w) p (ddI ns)))):=Ext.fresh j;have h:=k.fresh (u:=.ext (gZ (byT X.w) p (ddI ns))) j;exact f _ _ (mu1++[p2]) (z.trans (B.trans (Ext.new_ c))) (.ref (gY h.len _)) (h.newL (iA _) c)
   ·cases hm
  ·cases hm⟩
end
section
variable{prog:cO}{w:cQ}{A:cP}{E:cK->cM->Prop}{s:cM}
end
section
variable{X:Cx}{ag:List (cN×Obj)}{σ:L2.St}{H:Hp}{s:cM}{mu:List cN}
end
section
variable{X:Cx}
end
section
variable{X:Cx}{f:cN}{fd:cX}{ps:List Str}{k n:Nat}{sp:Sp}{dvs:List V}{ds:List cK}{CX:xu}{E:XK}{t:TA}{e:Expr}{es:List Expr}{p pos:Pos}{i:Nat}{v x:Str}
end
section
variable{prog:cO}{w:cQ}{K:Type} [DecidableEq K] {knd:HeapKind prog w K}{A:cP}{E:cK->cM->Prop}{s:cM}
end
section
variable{X:Cx}
end
def Kg(h:cW)(k:TK)(e:Int×cK):Prop:=∃a,e=(k.hash,.ref a)/\gL h k (.ref a)/\k.dep<=8
section
variable{prog:cO}{w:cQ}{A:cP}{E:cK->cM->Prop}{s:cM}
end
theorem gL.keepsS{h h':cW}{p:cN}{es:Array (Int×cK)}{ep:Nat}{t:SetTable}(ho:h.get? p=some (stO es ep t))(hs:∀ a o,a≠p->h.get? a=some o->h'.get? a=some o):∀ {k:TK} {v:cK},gL h k v->gL h' k v:=fun e=>e.rec (motive_1:=fun k v _=>gL h' k v) (motive_2:=fun k v _=>gm h' k v) .non .int
  (λ{a} _ _ _ _ d f c _ ih=>.tup (hs a _ (λz=>by subst z;rw[d]at ho;cases ho;cases c) d) f c ih) .nil (λ_ _ a b=>.cons a b)
theorem Kg.keep{h h':cW}{p:cN}{es:Array (Int×cK)}{ep:Nat}{t:SetTable}(ho:h.get? p=Z (stO es ep t))(hs:∀a o,a≠p->h.get? a=Z o->h'.get? a=Z o){k:TK}{e:Int×cK}(x:Kg h k e):Kg h' k e:=by
 obtain⟨a,d,c,b⟩:=x;exact⟨a,d,c.keepsS ho hs,b⟩
section
variable{P:cO}{w:cQ}{A:cP}{E:cK->cM->Prop}{s:cM}{p:cN}{xs:List (TK×cN×cK)}
end
section
variable{P:cO}{w:cQ}{A:cP}{E:cK->cM->Prop}
end
section
variable{X:Cx}
end
section
variable{X:Cx}{pos:Pos}
theorem ce{op:CmpOp}{x y:Expr}{f:FN}{a b:FE}(ho:fJ X (compareOp op) (r2 X.K f))(hx:XE X x a)(hy:XE X y b)(hm:behindInMarks op y=J:=by exact yS _):XE X (.Compare x [op] [y] pos) (m2 f a b):=A7 ho hx hy hm
theorem ct{op:CmpOp}{x y:Expr}{f:FN}{a b:FE}(ho:fJ X (compareOp op) (r2 X.K f))(hx:XE X x a)(hy:XE X y b)(hm:behindInMarks op y=J:=by exact yS _):XT X (.Compare x [op] [y] pos) (mB (m2 f a b)):=qX ho hx hy hm
theorem kc{a:cZ}{i:Nat}{l:List Nat}(x:Str)(r:∀i∈l,∃x,X.N[i]?=Z x/\a.names.lookup x=Z .free/\(X.env.kindOf x=Z .cell\/X.env.kindOf x=Z .free)/\(x,NameKind.cell)∉a.names)(h1:X.N[i]?=Z x:=by rfl)(h2:a.names.lookup x=Z .free:=by rfl)(b:X.env.kindOf x=Z .cell\/X.env.kindOf x=Z .free:=by first|exact Or.inl rfl|exact Or.inr rfl)(c:(x,NameKind.cell)∉a.names:=by decide+kernel):∀j∈i::l,∃x,X.N[j]?=Z x/\a.names.lookup x=Z .free/\(X.env.kindOf x=Z .cell\/X.env.kindOf x=Z .free)/\(x,NameKind.cell)∉a.names:=List.forall_mem_cons.mpr ⟨⟨x,h1,h2,b,c⟩,r⟩
end
structure dH (K:Fg1)(x:Str)(st:cY)(f:cN):Prop where
 ns:wN1 K cR x=some (some (.ref f))
 fn:∃fd,wa K x x st f fd
theorem Jc{K:Fg1}{x:Str}{st:cY}{f:cN}{g:cK}{h j:Option cN}{e:Array (Option cK)}{kV d i b ct:cK}(a:wN1 K cR x=Z (Z (.ref f)))(l:K.lookup f=Z ⟨g,h,.func (wF1 x x (ij st) (fh st) (dE st) .none kV d i j b ct),e⟩)(c:wC1 K b x=M)(k:wK1 K (.ref f)=M):dH K x st f:=⟨a,_,zY l c k⟩
theorem xo{P:cO}{w:cQ}{K:Fg1}{mg:Str->Option cK}{base h:cW}{x:Str}{st:cY}{f:cN}{N ps:List Str}{k n:Nat}{b:FS}(X:K.In h)(G:h.Ns cR mg)(F:dH K x st f)(S:gC N ps (dE st))(hb:∀(kV e i:cK) (j:Option cN) (a ct:cK) (us:List cK),us.length=ps.length->bindArgs (wF1 x x (ij st) (fh st) (dE st) .none kV e i j a ct) ⟨us,[]⟩=pure (ps.zip us))(d:∀(f:cN) (a:cK) (A:cP) (c:List Env) (s:cM) (H:Hp) (E:XK),ga k (A.deeper (envOfC x (dE st) s.heap.objs.size f a)) ->
   uI (mJ sZ P w K mg base N x (dE st) f a A c s H E).nox (fh st) b)(hn:ps.length=n:=by rfl):Own P w K mg base (k+1) x n (gz N.length b):=by
 obtain⟨fd,g⟩:=F.fn;exact uM g (g.binds hb) (wM1 X G F.ns) S hn (d f)
section
variable{X:Cx}{ag:List (cN×Obj)}{σ:L2.St}{H:Hp}{s:cM}{mu:List cN}
end
section
variable{P:cO}{w:cQ}{A:cP}{E:cK->cM->Prop}{s:cM}{a x:cN}{xs:List (TK×cN×cK)}{k:TK}
end
section
variable{X:Cx}
end
section
variable{X:Cx}{o e:Expr}{es:List Expr}{to:TE}{t:TA}{name:Str}{apos cpos:Pos}{id:String}{r:V->List V->Hp->VK->Prop}
end
section
variable{X:Cx}
end
section
variable{X:Cx}{x y z u:Expr}{pos:Pos}{f g k:FN}{a b c d:FE}{op op' op'':CmpOp}{ta tb tc td:TE}
end
structure Blt (L:List Str)(mg:Str->Option cK):Prop where
 h:∀x∈L,mg x=none
theorem bz{L:List Str}{mg:Str->Option cK}{x:Str}(B:Blt L mg)(h:x∈L:=by decide):mg x=Y:=B.h x h
theorem sk{N P:List Str}{sc:cZ}(h1:sc.kind = .function:=by rfl)(h2:sc.isCoroutine=J:=by rfl)(d:sc.isGenerator=J:=by rfl)(b:N.Nodup:=by decide+kernel)(a:N.take P.length=P:=by rfl)(e:∀x∈P,sc.names.lookup x=Z .local\/sc.names.lookup x=Z .cell:=by decide+kernel)(c:∀y∈sc.names,y.2 ≠ .free:=by decide+kernel):gC N P sc:=⟨h1,h2,d,b,a,e,c⟩
def Ju(K:Fg1):List Str->Prop
 |[]=>True
 |x::l=>wN1 K cR x=Z Y/\Ju K l
theorem Ju.blt{K:Fg1}{mg:Str->Option cK}{h:cW}(X:K.In h)(G:h.Ns cR mg):∀{L:List Str},Ju K L->Blt L mg
 |[],_=>⟨λ_ m=>nomatch m⟩
 |_::_,z=>⟨λ_ m=>match m with
  | .head _=>PySem.W.mg_none_of X G z.1
  | .tail _ m=>(Ju.blt X G z.2).h _ m⟩
def JJ:List Str->Bool
 |[]=>M
 |x::l=> !l.contains x&&JJ l
theorem kj:∀{l:List Str},JJ l=M->l.Nodup
 |[],_=>br
 |x::l,h=>by
  obtain⟨a,b⟩:=(bA1 _ _).mp h;exact aL.mpr ⟨λm=>(by rw[List.contains_iff_mem.mpr m]at a;cases a),kj b⟩
section
variable{X:Cx}{pos:Pos}{k:Nat}{x:Str}{i:Nat}{e y:Expr}{es:List Expr}{m b:FE}{a:FA}{p:Pos}
theorem xv (hN:X.N[i]?=Z x:=by rfl)(hv:Vis X.env.scope x:=by first|exact Or.inl rfl|exact Or.inr (Or.inl rfl)|exact Or.inr (Or.inr rfl))(hd:(x == ("__debug__":Str))=J:=by decide)(hcd:(x == ("__classdict__":Str))=J:=by decide):XE X (.Name x pos) (mV i):=Ll i hN hv hd hcd
theorem gq(hN:JJ X.N=M:=by rfl)(hi:X.N[i]?=Z x:=by rfl)(hx:uL X.env.scope x:=by first|exact Or.inl rfl|exact Or.inr rfl)(hf:X.fn x=M\/X.env.scope.names.lookup x=Z .local:=by first|exact .inl rfl|exact .inr rfl|assumption):XG X (.Name x pos) (gN i):=qO i (kj hN) hi hx hf
theorem sq(he:XE X e m)(hN:JJ X.N=M:=by rfl)(hi:X.N[i]?=Z x:=by rfl)(hx:uL X.env.scope x:=by first|exact Or.inl rfl|exact Or.inr rfl)(hs:swapsWith e (Z (.Name x p)) pos.line X.env=pure J:=by rfl)(hf:X.fn x=M\/X.env.scope.names.lookup x=Z .local:=by first|exact .inl rfl|exact .inr rfl|assumption):XS X (.Assign [.Name x p] e pos) (dY m (gN i)):=qY i (kj hN) hi hx he hs hf
theorem jq(hx:XE X e m)(hy:XE X y b)(hr:ga k X.A:=by assumption)(hs:mY y:=by intro _ _;rfl):XE X (.Subscript e y pos) (m2 (b2 dm) m b):=qJ (qP hr.units) hx hy hs
theorem oq{ar:Prop}(o:X.A.units+64<cLine->ar)(hr:ga k X.A:=by assumption):ar:=o hr.units
theorem wn {k' n:Nat}{f:FN}(h:Own X.prog X.w X.K X.mg X.base k x n f)(ha:XA X (e::es) a)(hr:ga k' X.A:=by assumption)(hk:k<=k':=by first|decide|omega)(hg:Gl X x:=by rfl)(hdb:(x == ("__debug__":Str))=J:=by decide)(he:cS (e::es) X.env=(J,eval e X.env)::cS es X.env:=by rfl)(hpl:(backTo pos (cS es X.env)).any (·.1)=J:=by rfl):XE X (.Call (.Name x p) (e::es) [] pos) (mN (db n f) a):=qH h hr hk hg ha hdb he hpl
theorem cn {id:String}{f:FN}(hc:eH X (.builtin id) (rN X.K f))(ha:XA X (e::es) a)(hm:X.mg x=Y:=by exact bz (by assumption))(hg:Gl X x:=by rfl)(hv:bootBuiltins x=Z (.builtin id):=by decide+kernel)(hn:x≠"__name__":=by decide)(hdb:(x == ("__debug__":Str))=J:=by decide)(he:cS (e::es) X.env=(J,eval e X.env)::cS es X.env:=by rfl)(hpl:(backTo pos (cS es X.env)).any (·.1)=J:=by rfl):XE X (.Call (.Name x p) (e::es) [] pos) (mN f a):=qD hc hg hm hv ha hn hdb he hpl
theorem cz {T:String}{f:FN}(hc:eH X (.type T) (rN X.K f))(ha:XA X (e::es) a)(hm:X.mg x=Y:=by exact bz (by assumption))(hg:Gl X x:=by rfl)(hv:bootBuiltins x=Z (.type T):=by decide+kernel)(hn:x≠"__name__":=by decide)(hdb:(x == ("__debug__":Str))=J:=by decide)(he:cS (e::es) X.env=(J,eval e X.env)::cS es X.env:=by rfl)(hpl:(backTo pos (cS es X.env)).any (·.1)=J:=by rfl):XE X (.Call (.Name x p) (e::es) [] pos) (mN f a):=qE hc hg hm hv ha hn hdb he hpl
theorem a1(h:XE X e m)(hs:cS [e] X.env=(J,eval e X.env)::cS [] X.env:=by rfl):XA X [e] (c9 m da):=qA h qN hs
theorem a2(h:XE X e m)(g:XE X y b)(hs:cS [e,y] X.env=(J,eval e X.env)::cS [y] X.env:=by rfl)(hs2:cS [y] X.env=(J,eval y X.env)::cS [] X.env:=by rfl):XA X [e,y] (c9 m (c9 b da)):=qA h (a1 g hs2) hs
theorem a3{z:Expr}{c:FE}(h:XE X e m)(g:XE X y b)(l:XE X z c)(hs:cS [e,y,z] X.env=(J,eval e X.env)::cS [y,z] X.env:=by rfl)(hs2:cS [y,z] X.env=(J,eval y X.env)::cS [z] X.env:=by rfl)(a:cS [z] X.env=(J,eval z X.env)::cS [] X.env:=by rfl):XA X [e,y,z] (c9 m (c9 b (c9 c da))):=qA h (a2 g l hs2 a) hs
theorem ir (ha:XA X [e] a)(hm:X.mg "range"=Y:=by exact bz (by assumption))(hg:Gl X "range":=by rfl)(hs:cS [e] X.env=[(J,eval e X.env)]:=by rfl):XI X y (.Call (.Name "range" p) [e] [] pos) (pa a):=tu hg hm ha hs
theorem ie {elts:List Expr}{b:Nat}{tpos:Pos}(ha:XA X [e] a)(hm:X.mg "enumerate"=Y:=by exact bz (by assumption))(hg:Gl X "enumerate":=by rfl)(hs:cS [e] X.env=[(J,eval e X.env)]:=by rfl):XI X (.Tuple elts b tpos) (.Call (.Name "enumerate" p) [e] [] pos) (vE a):=xA hg hm ha hs
theorem ii {T:Ty}{p2:Pos}(h:XE X e m)(hm:X.mg "isinstance"=Y:=by exact bz (by assumption))(hm2:X.mg x=Y:=by exact bz (by assumption))(hg:Gl X "isinstance":=by rfl)(hg2:Gl X x:=by rfl)(hv2:bootBuiltins x=Z (.type T.nm):=by decide+kernel)(hn:x≠"__name__":=by decide)(hd:(x == ("__debug__":Str))=J:=by decide)(hs1:cS [e,.Name x p2] X.env=(J,eval e X.env)::cS [.Name x p2] X.env:=by rfl)(hs2:cS [.Name x p2] X.env=(J,eval (.Name x p2) X.env)::cS [] X.env:=by rfl)(hpl:(backTo pos (cS [.Name x p2] X.env)).any (·.1)=J:=by rfl):XE X (.Call (.Name "isinstance" p) [e,.Name x p2] [] pos) (d7 T m):=tz T hg hm hg2 hm2 hv2 h hn hd hs1 hs2 hpl
structure Lm (X:Cx)(name:Str)(id:String)(f:FN):Prop where
 s:Slot "list" name id
 t:typeOf (.builtin id)=pure (.type "method_descriptor")
 m:Hz X id (λx xs H Q=>rN X.K f (x::xs) H Q)
theorem ap:Lm X "append" "list.append" (b2 mI):=⟨PySem.F.slot_list_append,PySem.F.type_list_append,HL⟩
theorem lq{f:FN}{name:Str}{apos:Pos}{id:String}(s:Lm X name id f)(ho:XE X y m)(ha:XA X (e::es) a)(hbase:attributeBase y name X.env (eval y X.env)=eval y X.env:=by rfl)(hfew:((backTo pos (cS (e::es) X.env)).all (λx=> !x.1)&&(backToKw pos (keywordEach [] X.env)).all (λx=>x.1.isSome)&&decide ((e::es).length+([]:List Keyword).length+(if([]:List Keyword).isEmpty then 0 else 1)<30))=M:=by rfl)(hline:(apos.endLine == pos.line)=M:=by rfl)(hs:cS (e::es) X.env=(J,eval e X.env)::cS es X.env:=by rfl)(hplain:(backTo pos (cS es X.env)).any (·.1)=J:=by rfl):XS X (.Expr (.Call (.Attribute y name apos) (e::es) [] pos) p) (iF (vr f m a)):=xy (qe s.s s.t s.m ho ha hbase hfew hline hs hplain)
theorem fo{tg iter:Expr}{a:List cY}{m:FI}{g:FG}{b:FS}(hi:XI X tg iter m)(hg:XG X tg g)(hb:uI X a b)(hp:PassesOwn (model X.prog X.w) X.A X.env X.xe:=by exact PassesOwn.never)(hc:X.calm=M:=by rfl)(hs:∀x,foldedSetIterable iter X.env x=pure x:=by intro _;rfl):XS X (.For tg iter a [] pos) (gJ m g b):=qW hp hc hi hg hb hs
theorem tg2{d:Expr}{g h:FG}{a:Nat}(h1:XG X e g)(h2:XG X d h)(hc:X.calm=M:=by rfl)(hs:(assignEach [e,d] X.env).map (·.2)=assign e X.env::(assignEach [d] X.env).map (·.2):=by rfl)(hs2:(assignEach [d] X.env).map (·.2)=assign d X.env::(assignEach [] X.env).map (·.2):=by rfl)(hn:(assignEach [e,d] X.env).length=2:=by rfl)(hst:(assignEach [e,d] X.env).findIdx? (·.1)=Y:=by rfl):XG X (.Tuple [e,d] a pos) (gT 2 (gn g (gn h mh))):=pA hc (ee h1 (ee h2 mZ hs2) hs) hn hst
def JK(x:Str):List (Str×NameKind)->Bool
 |[]=>M
 |(y,.cell)::l=> !(y == x)&&JK x l
 |_::l=>JK x l
omit k i in
theorem y0:∀{l:List (Str×NameKind)},JK x l=M->(x,NameKind.cell)∉l
 |[],_,m=>nomatch m
 |(y,c)::l,h,m=>by
  rcases aD.mp m with e|a
  ·cases e;have h:=((bA1 _ _).mp h).1;rw[beq_self_eq_true]at h;cases h
  ·cases c with
   |cell=>exact y0 ((bA1 _ _).mp h).2 a
   |_=>exact y0 (l:=l) h a
theorem kz{a:cZ}{l:List Nat}(r:∀i∈l,∃x,X.N[i]?=Z x/\a.names.lookup x=Z .free/\(X.env.kindOf x=Z .cell\/X.env.kindOf x=Z .free)/\(x,NameKind.cell)∉a.names)(h1:X.N[i]?=Z x:=by rfl)(h2:a.names.lookup x=Z .free:=by rfl)(b:X.env.kindOf x=Z .cell\/X.env.kindOf x=Z .free:=by first|exact Or.inl rfl|exact Or.inr rfl)(c:JK x a.names=M:=by rfl):∀j∈i::l,∃x,X.N[j]?=Z x/\a.names.lookup x=Z .free/\(X.env.kindOf x=Z .cell\/X.env.kindOf x=Z .free)/\(x,NameKind.cell)∉a.names:=kc x r h1 h2 b (y0 c)
def Lf(X:Cx)(sc:cZ):List (Str×cN):=(jI X.env.cells sc.names []).getD []
theorem fk{elt tg iter:Expr}{ifs:List Expr}{scope:cZ}(T:List Str){keep:List Nat}{m:FI}{g:FG}{t:FT}{e:FE}(hi:XI X tg iter m)(hb:∀ {s H d},KS (cxC X scope (Lf X scope) T keep s H d) X.K tg ifs elt g t e)(free:∀i∈keep,∃x,X.N[i]?=Z x/\scope.names.lookup x=Z .free/\(X.env.kindOf x=Z .cell\/X.env.kindOf x=Z .free)/\(x,NameKind.cell)∉scope.names:=by first|exact ck _|exact kz (ck _)|exact kz (kz (ck _))|exact kz (kz (kz (ck _)))|exact kz (kz (kz (kz (ck _)))))(hc:X.calm=M:=by rfl)(b:scope.kind = .function:=by rfl)(a:∀x∈scope.names,x.2 = .local->scope.names.lookup x.1=Z .local:=by decide+kernel)(c:jI X.env.cells scope.names []=Z (Lf X scope):=by rfl)(hs:∀x,foldedSetIterable iter X.env x=pure x:=by intro _;rfl):XE X (.ListComp elt [⟨tg,iter,ifs,0⟩] scope pos) (ed T.length keep m g t (d1 e)):=qZ hc ⟨b,a,free⟩ c hi (λ_ _ _=>hb) hs
end
theorem xq{P:cO}{w:cQ}{K:Fg1}{mg:Str->Option cK}{base h:cW}{x:Str}{st:cY}{f:cN}{k n:Nat}{b:FS}(N:List Str)(X:K.In h)(G:h.Ns cR mg)(F:dH K x st f)(d:∀{f:cN} {a:cK} {A:cP} {c:List Env} {s:cM} {H:Hp} {E:XK},ga k (A.deeper (envOfC x (dE st) s.heap.objs.size f a)) ->
   uI (mJ sZ P w K mg base N x (dE st) f a A c s H E).nox (fh st) b)(S:gC N (N.take n) (dE st):=by exact sk)(hb:∀(kV g j:cK) (l:Option cN) (a ct:cK) (us:List cK),us.length=(N.take n).length->bindArgs (wF1 x x (ij st) (fh st) (dE st) .none kV g j l a ct) ⟨us,[]⟩=pure ((N.take n).zip us):=by
   intro _ _ _ _ _ _ us e;first|exact Lc e λ_=>rfl|exact KA e λ_ _=>rfl|exact Lb e λ_ _ _=>rfl|exact LS e λ_ _ _ _=>rfl)(hn:(N.take n).length=n:=by rfl):Own P w K mg base (k+1) x n (gz N.length b):=xo X G F S hb (λ_ _ _ _ _ _ _ i=>d i) hn
open AutoSeq1 (wpAny_loadPart')
section
variable{X:Cx}
end
def W{α:Type}(o:Option α)(Q:α->Prop):Prop:=∃x,o=Z x/\Q x
section
variable{α β:Type}{Q:α->Prop}
theorem dv{x:α}:W (Z x) Q↔Q x:=⟨λ⟨_,e,h⟩=>(by cases e;exact h),λh=>⟨x,O,h⟩⟩
theorem kE:W (Y:Option α) Q↔False:=⟨λ⟨_,e,_⟩=>(by cases e),False.elim⟩
theorem dk{o:Option β}{f:β->Option α}:W (o.bind f) Q↔W o λx=>W (f x) Q:=by
 cases o with
 |none=>exact⟨λ⟨_,e,_⟩=>(by cases e),λ⟨_,e,_⟩=>(by cases e)⟩
 |some x=>exact⟨λh=>⟨x,O,h⟩,λ⟨_,e,h⟩=>by cases e;exact h⟩
theorem jM{o:Option β}{f:β->α}:W (o.map f) Q↔W o λx=>Q (f x):=by
 cases o with
 |none=>exact⟨λ⟨_,e,_⟩=>(by cases e),λ⟨_,e,_⟩=>(by cases e)⟩
 |some x=>exact⟨λ⟨_,e,h⟩=>(by cases e;exact⟨x,O,h⟩),λ⟨_,e,h⟩=>(by cases e;exact⟨_,O,h⟩)⟩
theorem oj{c:Prop}[Decidable c]{a b:Option α}:W (if c then a else b) Q↔if c then W a Q else W b Q:=by split<;>exact Iff.rfl
theorem W.mono{o:Option α}{Q':α->Prop}(h:W o Q)(k:∀x,Q x->Q' x):W o Q':=let ⟨x,e,q⟩:=h;⟨x,e,k x q⟩
theorem W.of{o:Option α}{x:α}(e:o=Z x)(h:Q x):W o Q:=⟨x,e,h⟩
end
theorem eu{a b:FS}{r:Ev}{S:Sto}{Q:Fl×Ev×Sto->Prop}(R:Ev->Sto->Prop)(h1:W (a r S) λp=>p.1 = .nx/\R p.2.1 p.2.2)(h2:∀r S,R r S->W (b r S) Q):W (dq a b r S) Q:=by
 obtain⟨⟨f,g,h⟩,e,d,c⟩:=h1;dsimp only at d c;subst d;unfold dq;rw[e];exact h2 g h c
theorem ib{n:Nat}{b:FS}{ds:List D}{S:Sto}{Q:D×Sto->Prop}(h:W (b (ju n ds) S) fun p=>match p.1 with
  | .rt d=>Q (d,p.2.2)
  | .nx=>Q (.non,p.2.2)
  |_=>False):W (gz n b ds S) Q:=by
 obtain⟨⟨f,a,c⟩,e,q⟩:=h;unfold gz;rw[e];cases f with
 |rt d=>exact⟨_,O,q⟩
 |nx=>exact⟨_,O,q⟩
 |bk=>exact q.elim
 |ct=>exact q.elim
theorem sK{n:Nat}{f:FN}{ds:List D}{S:Sto}{Q:D×Sto->Prop}(hn:ds.length=n)(a:D.unds 0 ds=J)(h:W (f ds S) λp=>Q (gc S.length p)):W (db n f ds S) Q:=by
 obtain⟨⟨d,b⟩,e,q⟩:=h;exact⟨_,pj e hn a,q⟩
theorem jg{n:Nat}{f:FN}{ds:List D}{S:Sto}{Q:D×Sto->Prop}(hn:ds.length=n)(c:D.unds 0 ds=M)(h:W (f ds []) λp=>p.1.und 0=M/\Q (p.1,S)):W (db n f ds S) Q:=by
 obtain⟨⟨d,g⟩,e,a,b⟩:=h;exact⟨_,pi e hn c a,b⟩
mutual
theorem kI{n:Nat}:∀{d:D},d.und 0=M->d.und n=M
 | .non,_=>rfl
 | .bl _,_=>rfl
 | .int _,_=>rfl
 | .str _,_=>rfl
 | .tup xs,h=>by rw[D.und]at h ⊢;exact dI h
 | .rol xs,h=>by rw[D.und]at h ⊢;exact dI h
 | .fn _,_=>rfl
 | .ref k,h=>by simp[D.und]at h
theorem dI{n:Nat}:∀{ds:List D},D.unds 0 ds=M->D.unds n ds=M
 |[],_=>rfl
 |d::ds,h=>by
  rw[D.unds,bA1]at h ⊢;exact⟨kI h.1,dI h.2⟩
end
theorem fR{c:List (Nat×List D)}{g:FG}{b:FS}{Q:Fl×Ev×Sto->Prop}(I:Nat->Ev->Sto->Prop):∀ (items:List D) (k:Nat) (r:Ev) (S:Sto),I k r S ->
  (∀i r S,I i r S->q9 S c=M) ->
  (∀i d,items[i]?=Z d -> ∀r S,I (k+i) r S->W (g d r S) λp=>W (b p.1 p.2) λq=>q.1 = .nx/\I (k+i+1) q.2.1 q.2.2) ->
  (∀r S,I (k+items.length) r S->Q (.nx,r,S))->W (jd c g b items r S) Q
 |[],k,r,S,hi,hok,_,hq=>by rw[jd];dsimp only;rw[ak (hok _ _ _ hi),dv];exact hq r S (by simpa using hi)
 |d::ds,k,r,S,hi,hok,hs,hq=>by
  rw[jd];dsimp only;rw[ak (hok _ _ _ hi),dk];obtain⟨p,j,h1⟩:=hs 0 d O r S (by simpa using hi);refine⟨p,j,?_⟩;dsimp only;rw[dk];obtain⟨⟨f,l,h⟩,n,h2,e⟩:=h1;refine⟨_,n,?_⟩;dsimp only at h2 e ⊢;subst h2;refine fR I ds (k+1) l h (by simpa using e) hok (λi m o r S a=>?_) λr S a=>hq r S (by rw[lC1,show k+(ds.length+1)=k+1+ds.length by lia];exact a);have:=hs (i+1) m (by simpa using o) r S (by rw[show k+(i+1)=k+1+i by lia];exact a);rw[show k+(i+1)+1=k+1+i+1 by lia]at this;exact this
theorem jS{c:List (Nat×List D)}{g:FG}{t:FT}{e:FE}{Q:List D×Ev×Sto->Prop}(I:Nat->List D->Ev->Sto->Prop):∀ (items:List D) (k:Nat) (acc:List D) (r:Ev) (S:Sto),I k acc r S ->
  (∀i acc r S,I i acc r S->q9 S c=M) ->
  (∀i d,items[i]?=Z d -> ∀acc r S,I (k+i) acc r S->W (g d r S) λp=>W (t p.1 p.2) λb=>if b.1=M then W (e p.1 b.2) λx=>I (k+i+1) (acc++[x.1]) p.1 x.2 else I (k+i+1) acc p.1 b.2) ->
  (∀xs r S,I (k+items.length) (acc++xs) r S->Q (xs,r,S))->W (fz c g t (d1 e) items r S) Q
 |[],k,acc,r,S,hi,hok,_,hq=>by rw[fz];dsimp only;rw[ak (hok _ _ _ _ hi),dv];exact hq [] r S (by simpa using hi)
 |d::ds,k,acc,r,S,hi,hok,hs,hq=>by
  rw[fz];dsimp only;rw[ak (hok _ _ _ _ hi),dk];obtain⟨p,m,h1⟩:=hs 0 d O acc r S (by simpa using hi);refine⟨p,m,?_⟩;dsimp only;rw[dk];obtain⟨⟨b,l⟩,o,h2⟩:=h1;refine⟨_,o,?_⟩;have step:∀i f,ds[i]?=Z f -> ∀acc r S,I (k+1+i) acc r S->W (g f r S) λp=>W (t p.1 p.2) λb=>if b.1=M then W (e p.1 b.2) λx=>I (k+1+i+1) (acc++[x.1]) p.1 x.2 else I (k+1+i+1) acc p.1 b.2:=λi f q acc r S a=>by
   have:=hs (i+1) f (by simpa using q) acc r S (by rw[show k+(i+1)=k+1+i by lia];exact a);rw[show k+(i+1)+1=k+1+i+1 by lia]at this;exact this
  dsimp only at h2 ⊢;cases b with
  |true=>
   rw[ak O]at h2 ⊢;rw[dk,d1,jM];obtain⟨⟨x,j⟩,n,h⟩:=h2;refine⟨_,n,?_⟩;dsimp only at h ⊢;rw[jM];refine jS I ds (k+1) (acc++[x]) p.1 j (by simpa using h) hok step λxs r S a=>?_;refine hq _ r S ?_;rw[lC1,show k+(ds.length+1)=k+1+ds.length by lia];simpa using a
  |false=>
   rw[aj (by decide)]at h2 ⊢;refine jS I ds (k+1) acc p.1 l (by simpa using h2) hok step λxs r S a=>?_;refine hq _ r S ?_;rw[lC1,show k+(ds.length+1)=k+1+ds.length by lia];exact a
theorem Ez{S:Sto}{b:Bool}:ou S (.bl b)=Z b:=rfl
theorem JD{S:Sto}:ou S .non=Z J:=rfl
theorem JE{S:Sto}{i:Int}:ou S (.int i)=Z (i != 0):=rfl
theorem vI{x y:Int}{S:Sto}:gEq (.int x) (.int y) S=Z (.bl (x == y),S):=rfl
theorem C0{x y:Int}{S:Sto}:gNe (.int x) (.int y) S=Z (.bl (!(x == y)),S):=rfl
theorem vH{x y:Int}{S:Sto}:oo (.int x) (.int y) S=Z (.bl (decide (x<y)),S):=rfl
theorem JP{x y:Str}{S:Sto}:gEq (.str x) (.str y) S=Z (.bl (x == y),S):=rfl
theorem JO{x y:Str}{S:Sto}:gNe (.str x) (.str y) S=Z (.bl (!(x == y)),S):=rfl
theorem ite_and'{c p:Prop}[Decidable c]:(if c then p else False)↔c/\p:=by split<;>simp[*]
def xm(j:Int):Bool:=decide (-(2^62)<=j)&&decide (j<2^62)
theorem fF{n:Nat}(h:n<2^60):xm n=M:=by
 unfold xm;rw[bA1,al,al];lia
theorem AH{j:Int}(h: -(2^60)<=j)(h':j<2^60):xm j=M:=by
 unfold xm;rw[bA1,al,al];lia
def JH(p:List D×Sto)(Q:AY×Sto->Prop):Prop:=match p.1 with
 |[.int j]=>xm j=M/\Q (⟨iS 0 j.toNat,[]⟩,p.2)
 |_=>False
def JG(p:List D×Sto)(Q:AY×Sto->Prop):Prop:=match p.1 with
 |[.int i,.int j]=>xm i=M/\xm j=M/\Q (⟨iS i (j-i).toNat,[]⟩,p.2)
 |_=>False
theorem Jp{m:FA}{r:Ev}{S:Sto}{Q:AY×Sto->Prop}:W (pa m r S) Q↔W (m r S) λp=>JH p Q:=by
 unfold pa;rw[dk];constructor
 ·refine λh=>h.mono λp q=>?_;unfold JH;split at q
  ·rename_i j e
   try rw[e]
   rw[oj]at q;split at q
   ·rename_i hc;exact⟨by unfold xm;rw[bA1,al,al];exact hc,dv.mp q⟩
   ·exact(kE.mp q).elim
  ·exact(kE.mp q).elim
 ·refine λh=>h.mono λp q=>?_;unfold JH at q;split at q
  ·rename_i j e;obtain⟨a,b⟩:=q;unfold xm at a;rw[bA1,al,al]at a
   try rw[e]
   try dsimp only
   rw[ak a];exact dv.mpr b
  ·exact q.elim
theorem Jo{m:FA}{r:Ev}{S:Sto}{Q:AY×Sto->Prop}:W (IZ m r S) Q↔W (m r S) λp=>JG p Q:=by
 unfold IZ;rw[dk];constructor
 ·refine λh=>h.mono λp q=>?_;unfold JG;split at q
  ·rename_i i j e
   try rw[e]
   rw[oj]at q;split at q
   ·rename_i hc;refine⟨?_,?_,dv.mp q⟩
    ·unfold xm;rw[bA1,al,al];exact⟨hc.1,hc.2.1⟩
    ·unfold xm;rw[bA1,al,al];exact hc.2.2
   ·exact(kE.mp q).elim
  ·exact(kE.mp q).elim
 ·refine λh=>h.mono λp q=>?_;unfold JG at q;split at q
  ·rename_i i j e;obtain⟨a,b,c⟩:=q;unfold xm at a b;rw[bA1,al,al]at a b
   try rw[e]
   try dsimp only
   rw[ak ⟨a.1,a.2,b⟩];exact dv.mpr c
  ·exact q.elim
def fits(n:Nat):Bool:=decide (n<=cT)
theorem di{n:Nat}(h:n<=100000):fits n=M:=by unfold fits;rw[al];exact aB h (by decide)
theorem sB{n:Nat}:fits n=M↔n<=cT:=by unfold fits;rw[al]
theorem L5:fits 0=M:=di (by decide)
theorem L4:fits 1=M:=di (by decide)
theorem L3:fits 2=M:=di (by decide)
theorem L1:fits 3=M:=di (by decide)
theorem L0:fits 4=M:=di (by decide)
theorem LZ:fits 5=M:=di (by decide)
theorem LY:fits 6=M:=di (by decide)
theorem LX:fits 7=M:=di (by decide)
theorem LW:fits 8=M:=di (by decide)
theorem iq{α:Type}{n:Nat}{o:Option α}{Q:α->Prop}:W (if n<=cT then o else Y) Q↔fits n=M/\W o Q:=by
 rw[sB,oj];split
 ·rename_i h;exact⟨λq=>⟨h,q⟩,λq=>q.2⟩
 ·rename_i h;exact⟨λq=>(kE.mp q).elim,λq=>absurd q.1 h⟩
theorem AS{a:FA}{r:Ev}{S:Sto}{Q:D×Sto->Prop}:W (d2 a r S) Q↔W (a r S) λp=>fits p.1.length=M/\Q (.tup p.1,p.2):=by
 unfold d2;rw[dk];exact⟨λh=>h.mono λp q=>(iq.mp q).imp_right dv.mp,λh=>h.mono λp q=>iq.mpr (q.imp_right dv.mpr)⟩
theorem AT{a:FA}{r:Ev}{S:Sto}{Q:D×Sto->Prop}:W (eW a r S) Q↔W (a r S) λp=>fits p.1.length=M/\Q (.ref p.2.length,p.2++[.lst p.1]):=by
 unfold eW;rw[dk];exact⟨λh=>h.mono λp q=>(iq.mp q).imp_right dv.mp,λh=>h.mono λp q=>iq.mpr (q.imp_right dv.mpr)⟩
theorem Dx{k:Nat}{keep:List Nat}{m:FI}{g:FG}{t:FT}{b:FV}{r:Ev}{S:Sto}{Q:D×Sto->Prop}:W (ed k keep m g t b r S) Q↔W (m r S) λp=>W (fz p.1.chk g t b p.1.items (wP k keep r) p.2) λq=>fits q.1.length=M/\Q (.ref q.2.2.length,q.2.2++[.lst q.1]):=by
 unfold ed;rw[dk];refine⟨λh=>h.mono λp q=>?_,λh=>h.mono λp q=>?_⟩
 ·rw[dk]at q;exact q.mono λz w=>(iq.mp w).imp_right dv.mp
 ·rw[dk];exact q.mono λz w=>iq.mpr (w.imp_right dv.mpr)
theorem Ho{xs ys:List D}{S:Sto}{Q:D×Sto->Prop}:W (eG (.tup xs) (.tup ys) S) Q↔fits (xs.length+ys.length)=M/\Q (.tup (xs++ys),S):=
 ⟨λq=>(iq.mp q).imp_right dv.mp,λq=>iq.mpr (q.imp_right dv.mpr)⟩
theorem Hq{x y:Int}{S:Sto}{Q:D×Sto->Prop}:W (eG (.int x) (.int y) S) Q↔Q (.int (x+y),S):=dv
theorem AW{a b:Nat}{xs ys:List D}{S:Sto}{Q:D×Sto->Prop}(h1:S[a]?=Z (.lst xs))(h2:S[b]?=Z (.lst ys)):W (eG (.ref a) (.ref b) S) Q↔fits (xs.length+ys.length)=M/\Q (.ref S.length,S++[.lst (xs++ys)]):=by
 rw[eG];simp only[h1,h2];exact⟨λq=>(iq.mp q).imp_right dv.mp,λq=>iq.mpr (q.imp_right dv.mpr)⟩
theorem sU{n:Nat}{v:D}{xs:List D}{S:Sto}{Q:D×Sto->Prop}(h:S[n]?=Z (.lst xs)):W (mI (.ref n) v S) Q↔fits (xs.length+1)=M/\Q (.non,S.set n (.lst (xs++[v]))):=by
 rw[mI];simp only[h];rw[oj,sB];split
 ·rename_i a;exact⟨λq=>⟨a,dv.mp q⟩,λq=>dv.mpr q.2⟩
 ·rename_i a;exact⟨λq=>(kE.mp q).elim,λq=>absurd q.1 a⟩
theorem W_mulL{n:Nat}{k:Nat}{xs:List D}{S:Sto}{Q:D×Sto->Prop}(h:S[n]?=Z (.lst xs))(hk:k<=1000)(hx:xs.length<=1000)(q:Q (.ref S.length,S++[.lst (aM k xs).flatten])):W (ia (.ref n) (.int k) S) Q:=by
 rw[ia];simp only[h];have a:xs.length*k<=cT:=aB (Nat.mul_le_mul hx hk) (by decide);rw[ak ⟨by lia,by lia,by rw[Int.toNat_natCast];exact a⟩,dv,Int.toNat_natCast];exact q
theorem gp{n:Nat}{i:Nat}{xs:List D}{x:D}{S:Sto}{Q:D×Sto->Prop}(h:S[n]?=Z (.lst xs))(hx:xs[i]?=Z x)(q:Q (x,S)):W (dm (.ref n) (.int i) S) Q:=by
 refine W.of (x:=(x,S)) ?_ q;have a:=(gE1.mp hx).1;simp only[dm,mH,xl,h,dn,py,tj,oS1,ak (show(0:Int)<=i by lia)];rw[ak (by lia)];simp[hx]
theorem sR{i:Nat}{xs:List D}{x:D}{S:Sto}{Q:D×Sto->Prop}(hx:xs[i]?=Z x)(q:Q (x,S)):W (dm (.tup xs) (.int i) S) Q:=by
 refine W.of (x:=(x,S)) ?_ q;have a:=(gE1.mp hx).1;simp only[dm,mH,xl,dn,py,tj,oS1,ak (show(0:Int)<=i by lia)];rw[ak (by lia)];simp[hx]
theorem qM{n:Nat}{i:Nat}{xs:List D}{v:D}{S:Sto}{Q:D×Sto->Prop}(h:S[n]?=Z (.lst xs))(hx:i<xs.length)(q:Q (.non,S.set n (.lst (xs.set i v)))):W (fQ (.ref n) (.int i) v S) Q:=by
 refine W.of (x:=(.non,S.set n (.lst (xs.set i v)))) ?_ q;simp only[fQ,jG,jH,h,tj,ak (show(0:Int)<=i by lia)];rw[ak (by lia)];simp
theorem LQ:aM 0 (Y:Option D)=[]:=rfl
theorem LP:aM 1 (Y:Option D)=[Y]:=rfl
theorem LF:aM 2 (Y:Option D)=[Y,Y]:=rfl
theorem LC:aM 3 (Y:Option D)=[Y,Y,Y]:=rfl
theorem LB:aM 4 (Y:Option D)=[Y,Y,Y,Y]:=rfl
theorem Mc:aM 5 (Y:Option D)=[Y,Y,Y,Y,Y]:=rfl
theorem LA:aM 6 (Y:Option D)=[Y,Y,Y,Y,Y,Y]:=rfl
theorem Lz:aM 7 (Y:Option D)=[Y,Y,Y,Y,Y,Y,Y]:=rfl
theorem Mb:aM 8 (Y:Option D)=[Y,Y,Y,Y,Y,Y,Y,Y]:=rfl
theorem Ma:aM 9 (Y:Option D)=[Y,Y,Y,Y,Y,Y,Y,Y,Y]:=rfl
theorem LO:aM 10 (Y:Option D)=[Y,Y,Y,Y,Y,Y,Y,Y,Y,Y]:=rfl
theorem LN:aM 11 (Y:Option D)=[Y,Y,Y,Y,Y,Y,Y,Y,Y,Y,Y]:=rfl
theorem LM:aM 12 (Y:Option D)=[Y,Y,Y,Y,Y,Y,Y,Y,Y,Y,Y,Y]:=rfl
theorem LL:aM 13 (Y:Option D)=[Y,Y,Y,Y,Y,Y,Y,Y,Y,Y,Y,Y,Y]:=rfl
theorem LK:aM 14 (Y:Option D)=[Y,Y,Y,Y,Y,Y,Y,Y,Y,Y,Y,Y,Y,Y]:=rfl
theorem Kh:aM 15 (Y:Option D)=[Y,Y,Y,Y,Y,Y,Y,Y,Y,Y,Y,Y,Y,Y,Y]:=rfl
theorem LJ:aM 16 (Y:Option D)=[Y,Y,Y,Y,Y,Y,Y,Y,Y,Y,Y,Y,Y,Y,Y,Y]:=rfl
theorem LI:aM 17 (Y:Option D)=[Y,Y,Y,Y,Y,Y,Y,Y,Y,Y,Y,Y,Y,Y,Y,Y,Y]:=rfl
theorem LH:aM 18 (Y:Option D)=[Y,Y,Y,Y,Y,Y,Y,Y,Y,Y,Y,Y,Y,Y,Y,Y,Y,Y]:=rfl
theorem LG:aM 19 (Y:Option D)=[Y,Y,Y,Y,Y,Y,Y,Y,Y,Y,Y,Y,Y,Y,Y,Y,Y,Y,Y]:=rfl
theorem LD:aM 20 (Y:Option D)=[Y,Y,Y,Y,Y,Y,Y,Y,Y,Y,Y,Y,Y,Y,Y,Y,Y,Y,Y,Y]:=rfl
theorem iW{α:Type}{T G:List α}{k:Nat}:(T++G)[T.length+k]?=G[k]?:=by rw[gR1 (by lia)];congr 1;lia
theorem dh{α:Type}{T G:List α}:(T++G)[T.length]?=G[0]?:=by rw[gR1 (by lia)];congr 1;lia
theorem vh:∀(n:Nat) (lo:Int),iS lo n=(af n).map λi:Nat=>D.int (lo+i)
 |0,lo=>rfl
 |n+1,lo=>by
  rw[iS,vh n (lo+1),List.range_succ_eq_map,mP1,bu]
  congr 1
  ·simp
  ·apply cq;intro i _;simp only[Function.comp_apply,cr]
   congr 1
   push_cast
   lia
theorem k6(n:Nat):iS 0 n=(af n).map λi:Nat=>D.int i:=by
 rw[vh];apply cq;intro i _;simp
theorem nD{α:Type}{c:List (Nat×List D)}{g:FG}{t:FT}{e:FE}{S:Sto}{f:α->D}{Q:List D×Ev×Sto->Prop}(F:α->D)(P:Ev->Prop)(d:q9 S c=true):∀ (xs:List α) (r:Ev),P r ->
  (∀a∈xs,∀r,P r->W (g (f a) r S) λp=>W (t p.1 p.2) λb=>b.1=M/\W (e p.1 b.2) λx=>x.1=F a/\x.2=S/\P p.1) ->
  (∀i,P i->Q (xs.map F,i,S))->W (fz c g t (d1 e) (xs.map f) r S) Q
 |[],r,hr,_,h=>by rw[ba,fz];dsimp only;rw[ak d,dv];exact h r hr
 |a::xs,r,hr,hs,h=>by
  rw[mP1,fz];dsimp only;rw[ak d,dk];obtain⟨p,k,⟨b,u,n,⟨x,s,o,l,m⟩⟩⟩:=hs a mS1 r hr;refine⟨p,k,?_⟩;dsimp only;rw[dk];refine⟨b,u,?_⟩;dsimp only;rw[ak n,dk,d1,jM];refine⟨x,s,?_⟩;dsimp only;rw[l,jM];refine nD F P d xs p.1 m (λa q=>hs a (mC1 _ q)) λi j=>?_;have:=h i j;rw[mP1,<- o]at this;exact this
theorem iY{α:Type}{c:List (Nat×List D)}{g:FG}{t:FT}{e:FE}{S:Sto}{f:α->D}{Q:List D×Ev×Sto->Prop}(k:α->Bool)(F:α->D)(P:Ev->Prop)(d:q9 S c=true):∀ (xs:List α) (r:Ev),P r ->
  (∀a∈xs,∀r,P r->W (g (f a) r S) λp=>W (t p.1 p.2) λb=>b.1=k a/\b.2=S/\P p.1/\(k a=M->W (e p.1 S) λx=>x.1=F a/\x.2=S)) ->
  (∀j,P j->Q ((xs.filter k).map F,j,S))->W (fz c g t (d1 e) (xs.map f) r S) Q
 |[],r,hr,_,h=>by rw[ba,fz];dsimp only;rw[ak d,dv];exact h r hr
 |a::xs,r,hr,hs,h=>by
  rw[mP1,fz];dsimp only;rw[ak d,dk];obtain⟨p,u,⟨b,v,s,o,q,m⟩⟩:=hs a mS1 r hr;refine⟨p,u,?_⟩;dsimp only;rw[dk];refine⟨b,v,?_⟩;dsimp only;cases hk:k a with
  |true=>
   rw[s,hk,ak O,dk,d1,jM,o];obtain⟨x,w,m,l⟩:=m hk;refine⟨x,w,?_⟩;dsimp only;rw[l,jM];refine iY k F P d xs p.1 q (λa n=>hs a (mC1 _ n)) λj i=>?_;have:=h j i;rw[bg,hk,ak O,mP1,<- m]at this;exact this
  |false=>
   rw[s,hk,aj (by decide),o];refine iY k F P d xs p.1 q (λa n=>hs a (mC1 _ n)) λj i=>?_;have:=h j i;rw[bg,hk,aj (by decide)]at this;exact this
theorem iK{α:Type}{f:α->Bool}:∀xs:List α,Mi.uG (xs.map λx=>D.bl (f x))=Z (xs.all f)
 |[]=>rfl
 |x::xs=>by rw[mP1,Mi.uG,iK xs];rfl
mutual
theorem xJ{n m:Nat}(h:n<=m):∀{d:D},d.und n=M->d.und m=M
 | .non,_=>rfl
 | .bl _,_=>rfl
 | .int _,_=>rfl
 | .str _,_=>rfl
 | .tup xs,q=>by rw[D.und]at q ⊢;exact gy h q
 | .rol xs,q=>by rw[D.und]at q ⊢;exact gy h q
 | .fn _,_=>rfl
 | .ref k,q=>by simp[D.und]at q ⊢;lia
theorem gy{n m:Nat}(h:n<=m):∀{ds:List D},D.unds n ds=M->D.unds m ds=M
 |[],_=>rfl
 |d::ds,q=>by
  rw[D.unds,bA1]at q ⊢;exact⟨xJ h q.1,gy h q.2⟩
end
theorem nw{n m:Nat}(h:n<=m):∀{o:Ob},o.und n=M->o.und m=M
 | .lst xs,q=>by rw[Ob.und]at q ⊢;exact gy h q
 | .dct xs,q=>by rw[Ob.und]at q ⊢;exact gy h q
 | .dcT xs,q=>by rw[Ob.und]at q ⊢;exact gy h q
 | .dcF xs,q=>by rw[Ob.und]at q ⊢;exact gy h q
 | .iset _,_=>rfl
 | .tst _,_=>rfl
theorem unds_map{α:Type}{n:Nat}{f:α->D}:∀{xs:List α},(∀x∈xs,(f x).und n=M)->D.unds n (xs.map f)=M
 |[],_=>rfl
 |x::xs,h=>by rw[mP1,D.unds,h x mS1,unds_map λy a=>h y (mC1 _ a)];rfl
theorem L8{x:Nat}:x+1+1=x+2:=rfl
theorem Mj{x:Nat}:x+2+1=x+3:=rfl
theorem Mh{x:Nat}:x+3+1=x+4:=rfl
theorem Mg{x:Nat}:x+4+1=x+5:=rfl
theorem Mf{x:Nat}:x+5+1=x+6:=rfl
theorem Me{x:Nat}:x+6+1=x+7:=rfl
theorem L7{x:Nat}:x+1+2=x+3:=rfl
theorem Cw{xs:List D}{S:Sto}:dZ (.tup xs) S=Z (.int xs.length,S):=rfl
theorem Cy{xs:List D}{S:Sto}:dZ (.rol xs) S=Z (.int xs.length,S):=rfl
theorem IQ{S:Sto}:dZ (.str "") S=Z (.int 0,S):=rfl
theorem pN{xs:List D}{S:Sto}:dn S (.tup xs)=Z (J,xs):=rfl
theorem JF{xs:List D}{S:Sto}:dn S (.rol xs)=Z (M,xs):=rfl
theorem De{xs:List D}{S:Sto}:li S (.tup xs)=[]:=rfl
theorem JQ{xs:List D}{S:Sto}:li S (.rol xs)=[]:=rfl
theorem ge{n:Nat}{xs:List D}{S:Sto}(h:S[n]?=Z (.lst xs)):dn S (.ref n)=Z (M,xs):=by simp only[dn,h]
theorem Df{n:Nat}{xs:List D}{S:Sto}(h:S[n]?=Z (.lst xs)):li S (.ref n)=[(n,xs)]:=by simp only[li,h]
def sW(S:Sto)(d:D)(Q:List D×List (Nat×List D)->Prop):Prop:=W (dn S d) λq=>Q (q.2,li S d)
theorem fu{xs:List D}{S:Sto}{Q:List D×List (Nat×List D)->Prop}:sW S (.tup xs) Q↔Q (xs,[]):=dv
theorem eJ{n:Nat}{xs:List D}{S:Sto}{Q:List D×List (Nat×List D)->Prop}(h:S[n]?=Z (.lst xs))(q:Q (xs,[(n,xs)])):sW S (.ref n) Q:=by
 unfold sW;rw[ge h,Df h,dv];exact q
theorem Hl{m:FE}{r:Ev}{S:Sto}{Q:AY×Sto->Prop}:W (gj m r S) Q↔W (m r S) λp=>sW p.2 p.1 λq=>Q (⟨q.1,q.2⟩,p.2):=by
 unfold gj;rw[dk];refine⟨λh=>h.mono λp q=>?_,λh=>h.mono λp q=>?_⟩
 ·rw[dk]at q;exact q.mono λz w=>dv.mp w
 ·rw[dk];exact W.mono (show W (dn p.2 p.1) _ from q) λz w=>dv.mpr w
theorem Hn{d:D}{S:Sto}{Q:D×Sto->Prop}:W (Mi.gTup d S) Q↔sW S d λq=>Q (.tup q.1,S):=by
 unfold Mi.gTup;rw[jM];exact Iff.rfl
theorem Jn{n:Nat}{S:Sto}{Q:D×Sto->Prop}:W (dZ (.ref n) S) Q↔sW S (.ref n) λq=>Q (.int q.1.length,S):=by
 unfold dZ sW;rw[jM]
def pD(e:Nat×Nat):D:=.tup [.int e.1,.int e.2]
theorem W_ins{S:Sto}{n k:Nat}{xs:List D}{v:D}{Q:D×Sto->Prop}(h:S[n]?=Z (.lst xs))(hk:k<=xs.length)(a:xs.length<1000)(q:Q (.non,S.set n (.lst (xs.take k++v::xs.drop k)))):W (uw (.ref n) (.int k) v S) Q:=by
 refine W.of ?_ q;have hi:nK xs.length k=k:=by
  unfold nK;rw[aj (by lia),Int.toNat_natCast];lia
 have b:xs.length<cT:=nL1 a (by decide);simp only[uw,h,hi];rw[ak ⟨by lia,by lia,b⟩]
theorem oi{f:FN}{o:FE}{a:FA}{r:Ev}{S:Sto}{Q:D×Sto->Prop}(h:W (o r S) λp=>∃n xs,p.1 = .ref n/\p.2[n]?=Z (.lst xs)/\W (a r p.2) λq=>W (f (.ref n::q.1) q.2) Q):W (vr f o a r S) Q:=by
 unfold vr;rw[dk];refine h.mono ?_;rintro⟨d,b⟩ ⟨n,xs,rfl,e,q⟩;dsimp only at e q ⊢;rw[e];dsimp only;rw[dk];exact q
def l8(row:List (Nat×Nat)):Ob:=.lst (row.map pD)
theorem wr{n:Nat}{row:List (Nat×Nat)}:(l8 row).und n=M:=by
 unfold l8;rw[Ob.und];exact unds_map λ_ _=>rfl
theorem mM:∀{k n i:Nat},i<k->(jX n k)[i]?=Z (.ref (n+i))
 |k+1,n,0,_=>rfl
 |k+1,n,i+1,h=>by rw[jX,gC1,mM (Nat.lt_of_succ_lt_succ h),show n+1+i=n+(i+1) by lia]
theorem iB:∀k n:Nat,(jX n k).length=k
 |0,_=>rfl
 |k+1,n=>by rw[jX,lC1,iB]
def tot(E:List (List (Nat×Nat))):Nat:=(E.map List.length).sum
def nmD(rs:List Nat):List D:=rs.map λi:Nat=>D.int i
theorem eQ(rs:List Nat):(nmD rs).length=rs.length:=by simp[nmD]
theorem fK(rs:List Nat):D.unds 0 (nmD rs)=M:=unds_map λ_ _=>rfl
theorem inL_nm{S:Sto}{n:Nat}{x:Nat}:∀a:List Nat,su (g6 S (n+1)) (.int x) (nmD a)=Z (a.contains x)
 |[]=>rfl
 |c::a=>by
  have d:g6 S (n+1) (.int c) (.int x)=Z ((c:Int) == (x:Int)):=rfl;have b:((c:Int) == (x:Int))=(x == c):=by
   rw[bL,beq_iff_eq,beq_iff_eq];lia
  have ih:=inL_nm (S:=S) (n:=n) (x:=x) a;rw[nmD,mP1,su,d,b];rw[nmD]at ih;rw[ih,List.contains_cons];rfl
theorem zv{κ:Type}[DecidableEq κ]{k:κ}:dB ([]:List (κ×D)) k=Y:=rfl
theorem fZ{κ:Type}[DecidableEq κ]{k a:κ}{d:D}{r:List (κ×D)}:dB ((a,d)::r) k=if a=k then Z d else dB r k:=by
 unfold dB;rw[bb];by_cases h:a=k
 ·simp[h]
 ·simp[h]
theorem sf{κ:Type}[DecidableEq κ]{k:κ}{b:List (κ×D)}:∀{a:List (κ×D)},dB (a++b) k=(dB a k).or (dB b k)
 |[]=>rfl
 |(x,d)::a=>by
  rw[bm,fZ,fZ,sf (a:=a)];split<;>rfl
theorem oV{κ:Type}[DecidableEq κ]{k:κ}:∀{a:List (κ×D)},(a.any λp=>decide (p.1=k))=J->dB a k=Y
 |[],_=>rfl
 |(x,d)::a,h=>by
  simp only[bc,Bool.or_eq_false_iff,decide_eq_false_iff_not]at h;rw[fZ,aj h.1];exact oV h.2
theorem lE{κ:Type}[DecidableEq κ]{k k':κ}{v:D}:∀{a:List (κ×D)},(a.any λp=>decide (p.1=k))=M->dB (a.map λp=>if p.1=k then(p.1,v)else p) k'=if k'=k then Z v else dB a k'
 |[],h=>by simp at h
 |(x,d)::a,h=>by
  rw[mP1];by_cases f:x=k
  ·subst f;rw[ak (show(x,d).1=x from rfl)];rw[fZ,fZ];by_cases c:k'=x
   ·subst c;simp
   ·rw[aj (Ne.symm c),aj (Ne.symm c),aj c];by_cases g:(a.any λp=>decide (p.1=x))=M
    ·rw[lE g,aj c]
    ·have:(a.map fun p=>if p.1=x then (p.1,v) else p)=a:=by
      have e:(a.any λp=>decide (p.1=x))=J:=cs.mpr g;rw[List.any_eq_false]at e
      conv=>rhs;rw[<- List.map_id a]
      apply cq;intro p i;have:=e p i;simp at this;simp[this]
     rw[this]
  ·simp only[bc,ai f,Bool.false_or]at h;rw[aj (show¬ (x,d).1=k from f)];rw[fZ,fZ,lE h];by_cases b:x=k'
   ·subst b;simp[f]
   ·simp[b]
theorem nF{κ:Type}[DecidableEq κ]{k k':κ}{v:D}{a:List (κ×D)}:dB (gE a k v) k'=if k'=k then Z v else dB a k':=by
 unfold gE;split
 ·rename_i h;exact lE h
 ·rename_i h;have h':(a.any λp=>decide (p.1=k))=J:=cs.mpr h;rw[sf,fZ,zv];by_cases b:k'=k
  ·subst b;rw[oV h',ak O];rfl
  ·rw[aj (Ne.symm b),aj b];cases dB a k'<;>rfl
theorem BF{κ:Type}[DecidableEq κ]{k:κ}{v:D}{a:List (κ×D)}:(gE a k v).length<=a.length+1:=by
 unfold gE;split
 ·rw[lM1];lia
 ·rw[lA1];simp
theorem E8{κ:Type}[DecidableEq κ]{k:κ}{v:D}{a:List (κ×D)}:gE a k v≠[]:=by
 unfold gE;split
 ·rename_i h;intro z;cases a with
  |nil=>simp at h
  |cons x xs=>simp at z
 ·simp
def dO(F:List (TK×D)):Ob:=if F=[]then .dct []else .dcT F
theorem Hj{U:Sto}{n:Nat}{F:List (TK×D)}{a v:D}{k:TK}{Q:D×Sto->Prop}(h:U[n]?=Z (dO F))(hk:lI a=Z k)(c:F.length<1000)(q:Q (.non,U.set n (dO (gE F k v)))):W (fQ (.ref n) a v U) Q:=by
 refine W.of ?_ q;unfold dO at h ⊢;rw[aj E8];by_cases b:F=[]
 ·subst b;rw[ak O]at h;simp only[fQ,h,hk];rfl
 ·rw[aj b]at h;simp only[fQ,h,hk,oS1];rw[ak (nL1 c (by decide))]
theorem Hm{U:Sto}{n:Nat}{F:List (TK×D)}{a v:D}{k:TK}{Q:D×Sto->Prop}(h:U[n]?=Z (dO F))(hk:lI a=Z k)(hv:dB F k=Z v)(q:Q (v,U)):W (dm (.ref n) a U) Q:=by
 refine W.of ?_ q;unfold dO at h;by_cases b:F=[]
 ·subst b;cases hv
 ·rw[aj b]at h;simp only[dm,h,hk,oS1,hv,oP1]
def q0(e:Nat×Nat):TK:=.tup [.int e.1,.int e.2]
theorem Bm{a b:Nat×Nat}(h:q0 a=q0 b):a=b:=by
 obtain⟨a1,a2⟩:=a;obtain⟨b1,b2⟩:=b;simp[q0]at h
 ext<;>simp<;>lia
theorem vA{e:Nat×Nat}:lI (pD e)=Z (q0 e):=rfl
theorem uv{d:D}{S G:Sto}(hd:d.und 0=M)(a:S.all (Ob.und S.length)=M):gc S.length (d,S++G)=(d,S):=by
 unfold gc;dsimp only;rw[List.take_left,ak (by rw[kI hd,a];rfl)]
theorem Jr{m:FA}{r:Ev}{S:Sto}{xs:List D}{Q:AY×Sto->Prop}(hm:m r S=Z ([.tup xs],S))(q:Q (⟨Ae 0 xs,[]⟩,S)):W (vE m r S) Q:=by
 refine W.of (x:=(⟨Ae 0 xs,[]⟩,S)) ?_ q;simp only[vE,hm,oS1,pN,De]
theorem nB{ns:List Int}{k:Int}:k∈ddI ns↔k∈ns:=by
 have b:∀(ns a:List Int),k∈ns.foldl step_dedup a↔k∈a\/k∈ns:=by
  intro ns
  induction ns with
  |nil=>intro a;simp
  |cons n ns ih=>
   intro a;rw[aX,ih];have:k∈step_dedup a n↔k∈a\/k=n:=by
    unfold step_dedup;split
    ·rename_i h;obtain⟨x,c,e⟩:=bM.mp h;have e:=beq_iff_eq.mp e;subst e;constructor
     ·exact .inl
     ·rintro(z|z)
      ·exact z
      ·rw[z];exact c
    ·simp
   rw[this,aD,or_assoc]
 unfold ddI;rw[b];simp
theorem Br{xs:List Nat}{m:Nat}{f:Nat->Bool}(h:∀r,r∈xs↔r<m/\f r=M):fe (ddI (xs.map λ(r:Nat)=>(r:Int)))=((af m).filter f).map λ(r:Nat)=>(r:Int):=by
 refine kW ?_ (hM _) ?_
 ·refine(eb _).trans ?_;refine(List.perm_ext_iff_of_nodup (lg _ [] br) ?_).mpr λk=>?_
  ·refine cu.mpr ((List.nodup_range.filter f).imp λb z=>b (by lia))
  ·show k∈ddI _↔_;rw[nB,b0,b0];constructor
   ·rintro⟨r,a,rfl⟩;exact⟨r,az.mpr ⟨aA.mpr ((h r).mp a).1,((h r).mp a).2⟩,O⟩
   ·rintro⟨r,a,rfl⟩;obtain⟨h1,h2⟩:=az.mp a;exact⟨r,(h r).mpr ⟨aA.mp h1,h2⟩,O⟩
 ·refine cu.mpr ((List.pairwise_lt_range.sublist List.filter_sublist).imp λc=>by lia)
theorem vC(xs:List Nat):ky (nmD xs)=Z (xs.map λ(r:Nat)=>(r:Int)):=by
 induction xs with
 |nil=>rfl
 |cons x xs ih=>
  show(ky (nmD xs)).map _=_;rw[ih];rfl
theorem xf{S:Sto}{n:Nat}{xs:List Nat}{m:Nat}{f:Nat->Bool}{Q:D×Sto->Prop}(hn:S[n]?=Z (.lst (nmD xs)))(h:∀r,r∈xs↔r<m/\f r=M)(a:xs.length<64)(q:Q (.ref S.length,S++[.lst (nmD ((af m).filter f))])):W (jF (.ref n) S) Q:=by
 refine W.of (x:=(.ref S.length,S++[.lst (nmD ((af m).filter f))])) ?_ q;simp only[jF,ge hn,vC,oS1];rw[ak (by rw[lM1];exact a),Br h,bu];rfl
end Mi
end
local macro_rules | `(tactic| walk_at"w") => `(tactic| simp only[Mi.dv, Mi.kE, Mi.ite_and', Mi.dk, Mi.jM, Mi.oj, Mi.dq, Mi.dY, Mi.eg, Mi.dJ, Mi.iF, Mi.hB, Mi.mN, Mi.c9, Mi.da, Mi.m2, Mi.m1, Mi.mV, Mi.mC, Mi.AS, Mi.AT, Mi.mB, Mi.zp, Mi.iV, Mi.ev, Mi.eY, Mi.r4, Mi.JL, Mi.eO, Mi.mTr, Mi.Ez, Mi.gN, Mi.gT, Mi.gn, Mi.mh, Mi.gS, Mi.b1, Mi.b2, Mi.b3, Mi.gz, Mi.ju, Mi.Dx, Mi.Jp, Mi.Jo, Mi.JH, Mi.JG, Mi.gJ, Mi.wP, Mi.Ho, Mi.Hq, Mi.gSub, Mi.fB, Mi.nN, Mi.vI, Mi.C0, Mi.vH, Mi.L5, Mi.L4, Mi.L3, Mi.L1, Mi.L0, Mi.LZ, Mi.LY, Mi.LX, Mi.LW, true_and, Mi.iW, Mi.dh, aW, lA1, cv, gC1, List.getElem?_nil, List.set_cons_zero, cw, lC1, bf, mP1, ba, Mi.LQ, Mi.LP, Mi.LF, Mi.LC, Mi.LB, Mi.LA, Mi.Lz, Mi.Kh, a0, bm, aK, Nat.reduceAdd, Nat.reduceSub, Option.join_some, Option.join_none, oP1, Option.map_none, oS1, Option.bind_none, if_true, if_false, bF1, bW, Bool.not_false, ite_true, ite_false, reduceIte, decide_true, decide_false, Mi.L8, Mi.L7, Mi.Cw, Mi.Cy, Mi.pN, Mi.Hl, Mi.Hn, Mi.Jn])
noncomputable section
namespace Law
open PySem PySem.Spec PyProof.Rows L2 Mi
def iw (i:Nat):cY:=PySem.Challenge.pw_ringmeet_k53_errands_known.main.body.getD i (.Pass ⟨0,0,0,0⟩)
abbrev BL:List Str:=["all","any","bool","enumerate","int","isinstance","len","list","max","min","range","set","sorted","str","tuple"]
def mT:D:=(D.tup [(D.tup [(D.str "came"),(D.int 5)]),(D.tup [(D.str "chalk"),(D.int 2)]),(D.tup [(D.str "doors"),(D.int 5)]),(D.tup [(D.str "others"),(D.int 2)])])
def mU:D:=(D.tup [(D.str "leave"),(D.str "mark"),(D.str "wipe")])
def mS:D:=(D.int 4)
def fi:D:=(D.int 8)
def fC:D:=(D.int 4)
def gA:D:=(D.int 6)
def g7:D:=(D.int 3)
def g8:D:=(D.int 8)
def g9:D:=(D.int 40)
section
variable{P:cO}{w:cQ}{K:Fg1}{mg:Str->Option cK}{base h:cW}(X:K.In h) (G:h.Ns cR mg) (B:Blt BL mg)
include X G B
abbrev m8:cY:=iw 1
def n4:FS:=(dJ (eY (d7 .int (mV 0)) (r4 (d7 .bool (mV 0)))))
def fg:FN:=gz 1 n4
theorem rK {f:cN}(F:dH K "is_whole" m8 f):
  Own P w K mg base 1 "is_whole" 1 fg:=xq ["thing"] X G F λa=>
 (qG (qU (d8 (ii xv) (eE (uP (ii xv))))))
abbrev j5:cY:=iw 3
def ip:FS:=(dJ (eY (d7 .tuple (mV 0)) (m2 (b2 gEq) (mN (b1 dZ) (c9 (mV 0) da)) (mV 1))))
def dN:FN:=gz 2 ip
theorem no {f:cN}(F:dH K "is_tuple_of" j5 f):
  Own P w K mg base 1 "is_tuple_of" 2 dN:=xq ["thing","many"] X G F λa=>
 (qG (qU (d8 (ii xv) (eE (ce (oq iD) (cn d9 (a1 xv)) xv)))))
abbrev lU:cY:=iw 4
def ml:FS:=(dJ (mN (b1 gl) (c9 (ed 1 [0] (pa (c9 (m2 (b2 gSub) (mN (b1 dZ) (c9 (mV 0) da)) (mC (D.int 1))) da)) (gN 0) eO (d1 (m2 (b2 oo) (m2 (b2 dm) (mV 1) (mV 0)) (m2 (b2 dm) (mV 1) (m2 (b2 eG) (mV 0) (mC (D.int 1))))))) da)))
def eh:FN:=gz 1 ml
theorem pX {f:cN}(F:dH K "is_rising" lU f):
  Own P w K mg base 1 "is_rising" 1 eh:=xq ["things"] X G F λa=>
 (qG (qU (cn (jh O) (a1 (fk ["at"] (ir (a1 (qI l9 (cn d9 (a1 xv)) qK))) ⟨gq,d6,(ce (oq jb) (jq xv xv) (jq xv (qI eo xv qK)))⟩)))))
abbrev ru:cY:=iw 10
def sN:FS:=(dJ (eY (d7 .str (mV 0)) (m2 (b2 lM) (mV 0) (ed 2 [] (gj (mC mT)) (gT 2 (gn (gN 0) (gn (gN 1) mh))) eO (d1 (mV 0))))))
def jA:FN:=gz 1 sN
theorem wy {f:cN}(F:dH K "is_eye" ru f)(a:CGl K mg "PARTS" mT):
  Own P w K mg base 1 "is_eye" 1 jA:=xq ["thing"] X G F λb=>
 (qG (qU (d8 (ii xv) (eE (ce (oq vg) xv (fk ["eye","many"] (qd (gb a O)) ⟨(tg2 gq gq),d6,xv⟩) (by with_unfolding_all rfl))))))
abbrev oK:cY:=iw 11
def px:FS:=(dJ (eY (d7 .str (mV 0)) (m2 (b2 lM) (mV 0) (mC mU))))
def iE:FN:=gz 1 px
theorem ub {f:cN}(F:dH K "is_hand" oK f)(a:CGl K mg "HANDS" mU):
  Own P w K mg base 1 "is_hand" 1 iE:=xq ["thing"] X G F λb=>
 (qG (qU (d8 (ii xv) (eE (ce (oq vg) xv (gb a O) (by with_unfolding_all rfl))))))
abbrev ye:cY:=iw 13
def rJ:FS:=(eg (mB (m2 (b2 gk) (mV 7) (mV 2))) (dq (dY (m2 (b2 eG) (m2 (b2 dm) (mV 2) (mV 5)) (d2 (c9 (mV 6) da))) (gS (b3 fQ) (mV 2) (mV 7)))
  (iF (vr (b2 mI) (mV 3) (c9 (mV 7) da)))) hB)
def rH:FT:=(mB (m2 (b2 oo) (mV 4) (mN (b1 dZ) (c9 (mV 3) da))))
def rG:FS:=(dq (dY (m2 (b2 dm) (mV 3) (mV 4)) (gN 5))
  (dq (gJ (vE (c9 (m2 (b2 dm) (mV 0) (mV 5)) da)) (gT 2 (gn (gN 6) (gn (gT 2 (gn (gN 7) (gn (gN 8) mh))) mh))) rJ)
  (Cu 4 (b2 zX) (mC (D.int 1)))))
def AJ:FS:=(dq (dY (zm [((mV 1),(d2 da))]) (gN 2))
  (dq (dY (eW (c9 (mV 1) da)) (gN 3))
  (dq (dY (mC (D.int 0)) (gN 4))
  (dq (wg rH rG 100000)
  (dJ (mN (b1 gTup) (c9 (ed 1 [2] (pa (c9 (mN (b1 dZ) (c9 (mV 0) da)) da)) (gN 0) eO (d1 (zn (mV 1) (mV 0)))) da)))))))
def nE:FN:=gz 9 AJ
theorem B5 {f:cN}(F:dH K "ways" ye f):
  Own P w K mg base 1 "ways" 2 nE:=xq ["web","room","found","queue","at","here","door","there","back"] X G F λa=>
 (qF (sq (xB (xz xv (dr qN) A5))) (qF (sq (dV (a1 xv))) (qF (sq qK) (qF (oH 100000 PassesOwn.never (ct (oq jb) xv (cn d9 (a1 xv))) (qF (sq (jq xv xv)) (qF (fo (ie (a1 (jq xv xv))) (tg2 gq (tg2 gq gq)) (qG (qV (ct (oq k3) xv xv (by with_unfolding_all rfl)) (qF (qR (qI eo (jq xv xv) (dr (a1 xv))) (g4 xv xv (iQ a.units))) (qG (lq ap xv (a1 xv)))) qQ))) (qG (A4 4 (kj O) O (by first|exact Or.inl rfl|exact Or.inr rfl) qK CN))))) (qG (qU (cz hA (a1 (fk ["other"] (ir (a1 (cn d9 (a1 xv)))) ⟨gq,d6,(we a.units xv xv)⟩)))))))))
abbrev lV:cY:=iw 24
def mm:FS:=(dq (dY (m2 (b2 dm) (m2 (b2 dm) (mV 0) (mV 1)) (mV 2)) (gT 2 (gn (gN 3) (gn (gN 4) mh))))
  (dq (eg (iV (mB (m2 (b2 gEq) (d2 (c9 (mV 3) (c9 (mV 4) da))) (d2 (c9 (mV 1) (c9 (mV 2) da))))) (ev (mB (me (b2 (fB λi j=>decide (i<=j))) (b2 oo) (mC (D.int 0)) (mV 3) (mN (b1 dZ) (c9 (mV 0) da)))))) (dJ (mC (D.bl J))) hB)
  (dJ (eY (me (b2 (fB λi j=>decide (i<=j))) (b2 oo) (mC (D.int 0)) (mV 4) (mN (b1 dZ) (c9 (m2 (b2 dm) (mV 0) (mV 3)) da))) (m2 (b2 gEq) (m2 (b2 dm) (m2 (b2 dm) (mV 0) (mV 3)) (mV 4)) (d2 (c9 (mV 1) (c9 (mV 2) da))))))))
def gG:FN:=gz 5 mm
theorem pY {f:cN}(F:dH K "is_paired" lV f):
  Own P w K mg base 1 "is_paired" 3 gG:=xq ["rooms","room","door","there","back"] X G F λa=>
 (qF (qR (jq (jq xv xv) xv) (tg2 gq gq)) (qF (qV (fG (ea (ct (oq iD) (dr (a2 xv xv)) (dr (a2 xv xv))) (et (dy (iu k4 (oq jb) qK xv (cn d9 (a1 xv))))))) (qG (qU d4)) qQ) (qG (qU (d8 (ls k4 (oq jb) qK xv (cn d9 (a1 (jq xv xv)))) (eE (ce (oq iD) (jq (jq xv xv) xv) (dr (a2 xv xv)))))))))
abbrev jw:cY:=iw 38
def jK:FS:=(dq (eg (mB (m2 (b2 oo) (mV 1) (mN (b1 dZ) (c9 (mV 0) da)))) (dJ (m2 (b2 dm) (mV 0) (mV 1))) hB)
  (dJ (mC (D.int 0))))
def fb:FN:=gz 2 jK
theorem mD {f:cN}(F:dH K "_law_cell_at" jw f):
  Own P w K mg base 1 "_law_cell_at" 2 fb:=xq ["_law_script","_law_k"] X G F λa=>
 (qF (qV (ct (oq jb) xv (cn d9 (a1 xv))) (qG (qU (jq xv xv))) qQ) (qG (qU qK)))
abbrev l5:cY:=iw 40
def jJ:FS:=(dq (eg (mB (m2 (b2 (fB fun i j=>decide (j<i))) (m2 (b2 dm) (mV 0) (mC (D.int 0))) (mC (D.int 0)))) (dq (dY (m2 (b2 j1) (m2 (b2 dm) (mV 0) (mC (D.int 0))) (mV 1)) (gN 2))
  (dq (dY (m2 (b2 wT) (m2 (b2 dm) (mV 0) (mC (D.int 0))) (mV 1)) (gS (b3 fQ) (mV 0) (mC (D.int 0))))
  (dJ (mV 2)))) hB)
  (dq (dY (m2 (b2 eG) (m2 (b2 dm) (mV 0) (mC (D.int 2))) (mC (D.int 1))) (gS (b3 fQ) (mV 0) (mC (D.int 2))))
  (dq (dY (m2 (b2 j1) (m2 (b2 eG) (m2 (b2 eG) (m2 (b2 gx) (m2 (b2 dm) (mV 0) (mC (D.int 1))) (mC (D.int 48271))) (mC (D.int 12345))) (m2 (b2 gx) (mC (D.int 7919)) (m2 (b2 dm) (mV 0) (mC (D.int 2))))) (mC (D.int 2147483647))) (gS (b3 fQ) (mV 0) (mC (D.int 1))))
  (dJ (m2 (b2 j1) (m2 (b2 wT) (m2 (b2 j1) (m2 (b2 gx) (m2 (b2 dm) (mV 0) (mC (D.int 1))) (m2 (b2 dm) (mV 0) (mC (D.int 1)))) (mC (D.int 1999999973))) (mC (D.int 31))) (mV 1))))))
def de:FN:=gz 3 jJ
theorem p7 {f:cN}(F:dH K "_law_pick" l5 f):
  Own P w K mg base 1 "_law_pick" 2 de:=xq ["_law_left_here","_law_many","_law_digit"] X G F λa=>
 (qF (qV (ct wA (jq xv qK) qK) (qF (sq (qI ke (jq xv qK) xv)) (qF (qR (qI DS (jq xv qK) xv) (g4 xv qK (iQ a.units))) (qG (qU xv)))) qQ) (qF (qR (qI eo (jq xv qK) qK) (g4 xv qK (iQ a.units))) (qF (qR (qI ke (qI eo (qI eo (qI ja (jq xv qK) qK) qK) (qI ja qK (jq xv qK))) qK) (g4 xv qK (iQ a.units))) (qG (qU (qI ke (qI DS (qI ke (qI ja (jq xv qK) (jq xv qK)) qK) qK) xv))))))
abbrev g0:cY:=iw 41
def jl:FS:=(eg (mTr (mV 1)) (iF (vr (b2 mI) (mV 2) (c9 (d2 (c9 (d2 (c9 (m2 (b2 j1) (m2 (b2 eG) (mV 3) (mC (D.int 1))) (mV 0)) (c9 (mC (D.int 1)) da))) (c9 (d2 (c9 (m2 (b2 j1) (m2 (b2 gSub) (mV 3) (mC (D.int 1))) (mV 0)) (c9 (mC (D.int 0)) da))) da))) da))) (dq (dY (m2 (b2 ia) (eW (c9 (d2 (c9 (m2 (b2 gSub) (mV 3) (mC (D.int 1))) (c9 (mN (b1 nN) (c9 (m2 (b2 (fB fun i j=>decide (j<i))) (mV 3) (mC (D.int 1))) da)) da))) da)) (mN (b1 nN) (c9 (m2 (b2 (fB fun i j=>decide (j<i))) (mV 3) (mC (D.int 0))) da))) (gN 4))
  (iF (vr (b2 mI) (mV 2) (c9 (mN (b1 gTup) (c9 (m2 (b2 eG) (mV 4) (m2 (b2 ia) (eW (c9 (d2 (c9 (m2 (b2 eG) (mV 3) (mC (D.int 1))) (c9 (mC (D.int 0)) da))) da)) (mN (b1 nN) (c9 (m2 (b2 oo) (m2 (b2 eG) (mV 3) (mC (D.int 1))) (mV 0)) da)))) da)) da)))))
def j3:FS:=(dq (dY (eW da) (gN 2))
  (dq (gJ (pa (c9 (mV 0) da)) (gN 3) jl)
  (dJ (mN (b1 gTup) (c9 (mV 2) da)))))
def eB:FN:=gz 5 j3
theorem jz {f:cN}(F:dH K "_law_row_of_rooms" g0 f):
  Own P w K mg base 1 "_law_row_of_rooms" 2 eB:=xq ["_law_many","_law_round_about","_law_rooms","_law_room","_law_back"] X G F λa=>
 (qF (sq (dV qN)) (qF (fo (ir (a1 xv)) gq (qG (qV (dw xv) (qG (lq ap xv (a1 (dr (a2 (dr (a2 (qI ke (qI eo xv qK) xv) qK)) (dr (a2 (qI ke (qI l9 xv qK) xv) qK))))))) (qF (sq (qI nz (dV (a1 (dr (a2 (qI l9 xv qK) (cz n0 (a1 (ce wA xv qK))))))) (cz n0 (a1 (ce wA xv qK))))) (qG (lq ap xv (a1 (cz hA (a1 (qI eo xv (qI nz (dV (a1 (dr (a2 (qI eo xv qK) qK)))) (cz n0 (a1 (ce (oq jb) (qI eo xv qK) xv)))))))))))))) (qG (qU (cz hA (a1 xv))))))
abbrev jx:cY:=iw 49
def jL:FS:=(dJ (eY (d7 .int (mV 0)) (eY (r4 (d7 .bool (mV 0))) (me (b2 (fB λi j=>decide (i<=j))) (b2 (fB λi j=>decide (i<=j))) (mV 1) (mV 0) (mV 2)))))
def dS:FN:=gz 3 jL
theorem mE {f:cN}(F:dH K "_law_between" jx f):
  Own P w K mg base 1 "_law_between" 3 dS:=xq ["_law_thing","_law_low","_law_high"] X G F λa=>
 (qG (qU (d8 (ii xv) (d8 (uP (ii xv)) (eE (ls k4 k4 xv xv xv))))))
abbrev i3:cY:=iw 52
def ji:FS:=(dJ (eY (d7 .tuple (mV 0)) (m2 (b2 gEq) (mN (b1 nM) (c9 (mV 0) da)) (ed 1 [0] (gj (mV 1)) (gN 0) (mB (m2 (b2 lM) (mV 0) (mV 1))) (d1 (mV 0))))))
def ei:FN:=gz 2 ji
theorem lB {f:cN}(F:dH K "_law_words_of" i3 f):
  Own P w K mg base 1 "_law_words_of" 2 ei:=xq ["_law_thing","_law_words"] X G F λa=>
 (qG (qU (d8 (ii xv) (eE (ce (oq iD) (cz c_list (a1 xv)) (fk ["_law_word"] (qd xv) ⟨gq,(hE (ct (oq vg) xv xv (by with_unfolding_all rfl))),xv⟩))))))
abbrev na:cY:=iw 2
def n9:FS:=(dJ (eY (mN (db 1 fg) (c9 (mV 0) da)) (me (b2 (fB λi j=>decide (i<=j))) (b2 oo) (mC (D.int 0)) (mV 0) (mV 1))))
def eL:FN:=gz 2 n9
theorem rM {f:cN}(F:dH K "is_below" na f)(a:Own P w K mg base 1 "is_whole" 1 fg):
  Own P w K mg base 2 "is_below" 2 eL:=xq ["thing","bound"] X G F λb=>
 (qG (qU (d8 (wn a (a1 xv)) (eE (ls k4 (oq jb) qK xv xv)))))
abbrev ng:cY:=iw 9
def oa:FS:=(dJ (eY (d7 .tuple (mV 0)) (eY (mN (b1 gl) (c9 (ed 1 [] (gj (mV 0)) (gN 0) eO (d1 (mN (db 1 jA) (c9 (mV 0) da)))) da)) (mN (db 1 eh) (c9 (mV 0) da)))))
def hU:FN:=gz 1 oa
theorem rP {f:cN}(F:dH K "are_eyes" ng f)(a:Own P w K mg base 1 "is_eye" 1 jA)(b:Own P w K mg base 1 "is_rising" 1 eh):
  Own P w K mg base 2 "are_eyes" 1 hU:=xq ["thing"] X G F λc=>
 (qG (qU (d8 (ii xv) (d8 (cn (jh O) (a1 (fk ["eye"] (qd xv) ⟨gq,d6,(wn a (a1 xv))⟩))) (eE (wn b (a1 xv)))))))
abbrev oJ:cY:=iw 22
def lQ:FS:=(dq (eg (iV (ev (mTr (d7 .tuple (mV 0)))) (mB (m2 (b2 (fB fun i j=>decide (j<i))) (mN (b1 dZ) (c9 (mV 0) da)) (mC fC)))) (dJ (mC (D.bl false))) hB)
  (dJ (mN (b1 gl) (c9 (ed 1 [] (gj (mV 0)) (gN 0) eO (d1 (eY (mN (db 2 dN) (c9 (mV 0) (c9 (mC (D.int 2)) da))) (eY (mN (db 1 fg) (c9 (m2 (b2 dm) (mV 0) (mC (D.int 0))) da)) (mN (db 1 fg) (c9 (m2 (b2 dm) (mV 0) (mC (D.int 1))) da)))))) da))))
def gr:FN:=gz 1 lQ
theorem ua {f:cN}(F:dH K "is_room" oJ f)(c:CGl K mg "MOST_DOORS" fC)(b:Own P w K mg base 1 "is_tuple_of" 2 dN)(a:Own P w K mg base 1 "is_whole" 1 fg):
  Own P w K mg base 2 "is_room" 1 gr:=xq ["thing"] X G F λd=>
 (qF (qV (fG (ea (dy (dw (ii xv))) (et (ct wA (cn d9 (a1 xv)) (gb c O))))) (qG (qU d4)) qQ) (qG (qU (cn (jh O) (a1 (fk ["door"] (qd xv) ⟨gq,d6,(d8 (wn b (a2 xv qK)) (d8 (wn a (a1 (jq xv qK))) (eE (wn a (a1 (jq xv qK))))))⟩))))))
abbrev kP:cY:=iw 23
def lk:FS:=(dJ (mN (b1 gl) (c9 (ed 2 [0] (pa (c9 (mN (b1 dZ) (c9 (mV 0) da)) da)) (gN 0) eO (sC (pa (c9 (mN (b1 dZ) (c9 (m2 (b2 dm) (mV 2) (mV 0)) da)) da)) (gN 1) eO (d1 (mN (db 3 gG) (c9 (mV 2) (c9 (mV 0) (c9 (mV 1) da))))))) da)))
def gg:FN:=gz 1 lk
theorem oz {f:cN}(F:dH K "leads_back" kP f)(a:Own P w K mg base 1 "is_paired" 3 gG):
  Own P w K mg base 2 "leads_back" 1 gg:=xq ["rooms"] X G F λb=>
 (qG (qU (cn (jh O) (a1 (wf O (T:=["room","door"]) (keep:=[0]) ⟨O,by decide+kernel,(kc "rooms" (ck _))⟩ O (ir (a1 (cn d9 (a1 xv)))) (λ_ _ _=>⟨gq,d6,(ir (a1 (cn d9 (a1 (jq xv xv))))),gq,d6,(wn a (a3 xv xv xv))⟩))))))
abbrev iy:cY:=iw 25
def iI:FS:=(dJ (m2 (b2 gk) (mC D.non) (mN (db 2 nE) (c9 (mV 0) (c9 (mC (D.int 0)) da)))))
def e6:FN:=gz 1 iI
theorem kZ {f:cN}(F:dH K "hangs_together" iy f)(a:Own P w K mg base 1 "ways" 2 nE):
  Own P w K mg base 2 "hangs_together" 1 e6:=xq ["rooms"] X G F λb=>
 (qG (qU (ce (oq k3) iL (wn a (a2 xv qK)) (by with_unfolding_all rfl))))
abbrev lZ:cY:=iw 34
def ms:FS:=(dq (eg (iV (ev (mTr (d7 .tuple (mV 0)))) (mB (m2 (b2 gEq) (mN (b1 dZ) (c9 (mV 0) da)) (mC (D.int 0))))) (dJ (mC (D.bl false))) hB)
  (dJ (eY (mN (b1 gl) (c9 (ed 1 [] (gj (mV 0)) (gN 0) eO (d1 (mN (db 1 iE) (c9 (mV 0) da)))) da)) (mN (db 1 eh) (c9 (mV 0) da)))))
def gI:FN:=gz 1 ms
theorem p5 {f:cN}(F:dH K "are_hands" lZ f)(a:Own P w K mg base 1 "is_hand" 1 iE)(b:Own P w K mg base 1 "is_rising" 1 eh):
  Own P w K mg base 2 "are_hands" 1 gI:=xq ["thing"] X G F λc=>
 (qF (qV (fG (ea (dy (dw (ii xv))) (et (ct (oq iD) (cn d9 (a1 xv)) qK)))) (qG (qU d4)) qQ) (qG (qU (d8 (cn (jh O) (a1 (fk ["hand"] (qd xv) ⟨gq,d6,(wn a (a1 xv))⟩))) (eE (wn b (a1 xv)))))))
abbrev l7:cY:=iw 39
def mx:FS:=(dq (dY (mN (db 2 fb) (c9 (mV 0) (c9 (m2 (b2 j1) (mV 1) (mN (b2 sw) (c9 (mC (D.int 1)) (c9 (mN (b1 dZ) (c9 (mV 0) da)) da)))) da))) (gN 2))
  (dq (dY (m2 (b2 j1) (m2 (b2 gx) (m2 (b2 eG) (m2 (b2 eG) (m2 (b2 j1) (mV 2) (mC (D.int 2147483629))) (m2 (b2 gx) (m2 (b2 gx) (mC (D.int 7919)) (mV 1)) (mV 1))) (mC (D.int 11))) (mC (D.int 48271))) (mC (D.int 2147483647))) (gN 3))
  (dq (dY (m2 (b2 gx) (m2 (b2 gx) (m2 (b2 gx) (m2 (b2 gx) (m2 (b2 gx) (m2 (b2 gu) (mC (D.int 10)) (mC (D.int 60))) (m2 (b2 gu) (mC (D.int 10)) (mC (D.int 60)))) (m2 (b2 gu) (mC (D.int 10)) (mC (D.int 60)))) (m2 (b2 gu) (mC (D.int 10)) (mC (D.int 60)))) (m2 (b2 gu) (mC (D.int 10)) (mC (D.int 60)))) (m2 (b2 gu) (mC (D.int 10)) (mC (D.int 60)))) (gN 4))
  (dJ (eW (c9 (m2 (b2 gx) (m2 (b2 j1) (mV 2) (mV 4)) (mN (b1 nN) (c9 (m2 (b2 (fB λi j=>decide (j<=i))) (mV 2) (m2 (b2 gu) (mC (D.int 10)) (mC (D.int 18)))) da))) (c9 (mV 3) (c9 (mC (D.int 0)) da))))))))
def fY:FN:=gz 5 mx
theorem p8 {f:cN}(F:dH K "_law_left" l7 f)(a:Own P w K mg base 1 "_law_cell_at" 2 fb):
  Own P w K mg base 2 "_law_left" 2 fY:=xq ["_law_script","_law_k","_law_cell","_law_seed","_law_bound"] X G F λb=>
 (qF (sq (wn a (a2 xv (qI ke xv (cn (AB O) (a2 qK (cn d9 (a1 xv)))))))) (qF (sq (qI ke (qI ja (qI eo (qI eo (qI ke xv qK) (qI ja (qI ja qK xv) xv)) qK) qK) qK)) (qF (sq (qI ja (qI ja (qI ja (qI ja (qI ja (qI ma qK qK) (qI ma qK qK)) (qI ma qK qK)) (qI ma qK qK)) (qI ma qK qK)) (qI ma qK qK))) (qG (qU (dV (a3 (qI ja (qI ke xv xv) (cz n0 (a1 (ce Kx xv (qI ma qK qK))))) xv qK)))))))
abbrev j7:cY:=iw 42
def gR:FS:=(dq (dY (ed 1 [3] (pa (c9 (mV 4) da)) (gN 0) (mB (m2 (b2 oo) (m2 (b2 dm) (mV 1) (mV 0)) (mC (D.int 4)))) (d1 (mV 0))) (gN 5))
  (dq (iF (vr (b2 mI) (mV 2) (c9 (d2 (c9 (mV 4) (c9 (m2 (b2 dm) (mV 5) (mN (db 2 de) (c9 (mV 0) (c9 (mN (b1 dZ) (c9 (mV 5) da)) da)))) da))) da)))
  (dY (d2 (c9 (m2 (b2 eG) (m2 (b2 dm) (mV 3) (mV 4)) (mC (D.int 1))) (c9 (m2 (b2 eG) (m2 (b2 dm) (mV 3) (m2 (b2 dm) (m2 (b2 dm) (mV 2) (m1 (b1 lK) (mC (D.int 1)))) (mC (D.int 1)))) (mC (D.int 1))) da))) (gT 2 (gn (gS (b3 fQ) (mV 3) (mV 4)) (gn (gS (b3 fQ) (mV 3) (m2 (b2 dm) (m2 (b2 dm) (mV 2) (m1 (b1 lK) (mC (D.int 1)))) (mC (D.int 1)))) mh))))))
def gQ:FS:=(dq (dY (d2 (c9 (mN (db 2 de) (c9 (mV 0) (c9 (mV 1) da))) (c9 (mN (db 2 de) (c9 (mV 0) (c9 (mV 1) da))) da))) (gT 2 (gn (gN 7) (gn (gN 8) mh))))
  (eg (mB (m2 (b2 oo) (m2 (b2 eG) (mN (b2 sw) (c9 (m2 (b2 dm) (mV 3) (mV 7)) (c9 (m2 (b2 dm) (mV 3) (mV 8)) da))) (mN (b1 nN) (c9 (m2 (b2 gEq) (mV 7) (mV 8)) da))) (mC (D.int 4)))) (dq (iF (vr (b2 mI) (mV 2) (c9 (d2 (c9 (mV 7) (c9 (mV 8) da))) da)))
  (dq (dY (m2 (b2 eG) (m2 (b2 dm) (mV 3) (mV 7)) (mC (D.int 1))) (gS (b3 fQ) (mV 3) (mV 7)))
  (dY (m2 (b2 eG) (m2 (b2 dm) (mV 3) (mV 8)) (mC (D.int 1))) (gS (b3 fQ) (mV 3) (mV 8))))) hB))
def i7:FS:=(iF (vr (b3 uw) (m2 (b2 dm) (mV 9) (m2 (b2 dm) (mV 11) (mV 12))) (c9 (mN (db 2 de) (c9 (mV 0) (c9 (m2 (b2 eG) (mN (b1 dZ) (c9 (m2 (b2 dm) (mV 9) (m2 (b2 dm) (mV 11) (mV 12))) da)) (mC (D.int 1))) da))) (c9 (d2 (c9 (mV 10) (c9 (mV 12) da))) da))))
def gP:FS:=(gJ (pa (c9 (mC (D.int 2)) da)) (gN 12) i7)
def i6:FS:=(dY (d2 (c9 (mV 4) (c9 (mV 15) da))) (gS (b3 fQ) (mV 13) (mV 16)))
def gO:FS:=(gJ (vE (c9 (mV 14) da)) (gT 2 (gn (gN 15) (gn (gN 16) mh))) i6)
def kn:FS:=(dq (dY (d2 (c9 (eW da) (c9 (m2 (b2 ia) (eW (c9 (mC (D.int 0)) da)) (mV 1)) da))) (gT 2 (gn (gN 2) (gn (gN 3) mh))))
  (dq (gJ (IZ (c9 (mC (D.int 1)) (c9 (mV 1) da))) (gN 4) gR)
  (dq (gJ (pa (c9 (mN (db 2 de) (c9 (mV 0) (c9 (mC (D.int 4)) da))) da)) (gN 6) gQ)
  (dq (dY (ed 1 [] (pa (c9 (mV 1) da)) (gN 0) eO (d1 (eW da))) (gN 9))
  (dq (gJ (vE (c9 (mV 2) da)) (gT 2 (gn (gN 10) (gn (gN 11) mh))) gP)
  (dq (dY oU (gN 13))
  (dq (gJ (vE (c9 (mV 9) da)) (gT 2 (gn (gN 4) (gn (gN 14) mh))) gO)
  (dJ (mN (b1 gTup) (c9 (ed 1 [13] (gj (mV 9)) (gN 0) eO (d1 (mN (b1 gTup) (c9 (ed 2 [1] (gj (mV 0)) (gT 2 (gn (gN 0) (gn (gN 1) mh))) eO (d1 (m2 (b2 dm) (mV 2) (d2 (c9 (mV 0) (c9 (m2 (b2 gSub) (mC (D.int 1)) (mV 1)) da)))))) da)))) da))))))))))
def fN:FN:=gz 17 kn
theorem nq {f:cN}(F:dH K "_law_web_of" j7 f)(a:Own P w K mg base 1 "_law_pick" 2 de):
  Own P w K mg base 2 "_law_web_of" 2 fN:=xq ["_law_left_here","_law_many","_law_pairs","_law_used","_law_room","_law_free","_law_turn","_law_one","_law_other","_law_ends","_law_number","_law_pair","_law_side","_law_spots","_law_some","_law_door","_law_end"] X G F λb=>
 (qF (qR (dr (a2 (dV qN) (qI nz (dV (a1 qK)) xv))) (tg2 gq gq)) (qF (fo (tt O (bz B) (a2 qK xv)) gq (qF (jO 5 O (T:=["_law_other"]) (keep:=[3]) ⟨O,by decide+kernel,(kc "_law_used" (ck _))⟩ O (ir (a1 xv)) (λ_ _ _=>⟨gq,(hE (ct (oq jb) (jq xv xv) qK)),xv⟩) (kj O) O (by first|exact Or.inl rfl|exact Or.inr rfl)) (qF (lq ap xv (a1 (dr (a2 xv (jq xv (wn a (a2 xv (cn d9 (a1 xv))))))))) (qG (qR (dr (a2 (qI eo (jq xv xv) qK) (qI eo (jq xv (jq (jq xv (lr oR qK)) qK)) qK))) (tg2 (g4 xv xv (iQ b.units)) (g4 xv (jq (jq xv (lr oR qK)) qK) (iQ b.units)))))))) (qF (fo (ir (a1 (wn a (a2 xv qK)))) gq (qF (uO 7 8 rfl (kj rfl) rfl rfl (by decide) rfl rfl (a2 (wn a (a2 xv xv)) (wn a (a2 xv xv)))) (qG (qV (ct (oq jb) (qI eo (cn (AB rfl) (a2 (jq xv xv) (jq xv xv))) (cz n0 (a1 (ce (oq iD) xv xv)))) qK) (qF (lq ap xv (a1 (dr (a2 xv xv)))) (qF (qR (qI eo (jq xv xv) qK) (g4 xv xv (iQ b.units))) (qG (qR (qI eo (jq xv xv) qK) (g4 xv xv (iQ b.units)))))) qQ)))) (qF (jO 9 rfl (T:=["_law_room"]) (keep:=[]) ⟨rfl,by decide+kernel,(ck _)⟩ rfl (ir (a1 xv)) (λ_ _ _=>⟨gq,d6,(dV qN)⟩) (kj O) O (by first|exact Or.inl rfl|exact Or.inr rfl)) (qF (fo (ie (a1 xv)) (tg2 gq gq) (qG (fo (ir (a1 qK)) gq (qG (lq ⟨PySem.F.slot_list_insert,PySem.F.type_list_insert,HJ⟩ (jq xv (jq xv xv)) (a2 (wn a (a2 xv (qI eo (cn d9 (a1 (jq xv (jq xv xv)))) qK))) (dr (a2 xv xv)))))))) (qF (sq re) (qF (fo (ie (a1 xv)) (tg2 gq gq) (qG (fo (ie (a1 xv)) (tg2 gq gq) (qG (qR (dr (a2 xv xv)) (g4 xv xv (iQ b.units))))))) (qG (qU (cz hA (a1 (fk ["_law_some"] (qd xv) ⟨gq,d6,(cz hA (a1 (fk ["_law_number","_law_side"] (qd xv) ⟨(tg2 gq gq),d6,(jq xv (dr (a2 xv (qI l9 qK xv))))⟩)))⟩))))))))))))
abbrev i4:cY:=iw 44
def h8:FS:=(dq (dY (ed 1 [3] (pa (c9 (mV 2) da)) (gN 0) (mB (m2 (b2 gk) (mV 0) (mV 1))) (d1 (mV 0))) (gN 6))
  (iF (vr (b2 mI) (mV 3) (c9 (m2 (b2 dm) (mV 6) (mN (db 2 de) (c9 (mV 0) (c9 (mN (b1 dZ) (c9 (mV 6) da)) da)))) da))))
def jj:FS:=(dq (dY (d2 (c9 (mN (b1 dZ) (c9 (mV 1) da)) (c9 (eW da) da))) (gT 2 (gn (gN 2) (gn (gN 3) mh))))
  (dq (dY (m2 (b2 eG) (mC (D.int 1)) (mN (db 2 de) (c9 (mV 0) (c9 (m2 (b2 dm) (eW (c9 (mC (D.int 3)) (c9 (mC (D.int 3)) (c9 (mC (D.int 3)) (c9 (mV 2) da))))) (mN (db 2 de) (c9 (mV 0) (c9 (mC (D.int 4)) da)))) da)))) (gN 4))
  (dq (gJ (pa (c9 (mN (b2 wR) (c9 (mV 4) (c9 (mV 2) da))) da)) (gN 5) h8)
  (dq (dY (d2 da) (gN 7))
  (dq (eg (mB (m2 (b2 gEq) (mN (db 2 de) (c9 (mV 0) (c9 (mC (D.int 3)) da))) (mC (D.int 0)))) (dY (mN (b1 gTup) (c9 (ed 1 [0] (pa (c9 (mV 2) da)) (gN 0) (mB (m2 (b2 gEq) (mN (db 2 de) (c9 (mV 1) (c9 (mC (D.int 3)) da))) (mC (D.int 0)))) (d1 (mV 0))) da)) (gN 7)) hB)
  (dJ (d2 (c9 (mN (b1 gTup) (c9 (mN (b1 lc) (c9 (mV 3) da)) da)) (c9 (mV 7) da)))))))))
def fm:FN:=gz 8 jj
theorem lC {f:cN}(F:dH K "_law_standing" i4 f)(a:Own P w K mg base 1 "_law_pick" 2 de):
  Own P w K mg base 2 "_law_standing" 2 fm:=xq ["_law_left_here","_law_web_here","_law_many","_law_rooms","_law_few","_law_turn","_law_free","_law_chalk"] X G F λb=>
 (qF (qR (dr (a2 (cn d9 (a1 xv)) (dV qN))) (tg2 gq gq)) (qF (sq (qI eo qK (wn a (a2 xv (jq (dV (qA qK (a3 qK qK xv))) (wn a (a2 xv qK))))))) (qF (fo (ir (a1 (cn (Ea O) (a2 xv xv)))) gq (qF (jO 6 O (T:=["_law_room"]) (keep:=[3]) ⟨O,by decide+kernel,(kc "_law_rooms" (ck _))⟩ O (ir (a1 xv)) (λ_ _ _=>⟨gq,(hE (ct (oq k3) xv xv (by with_unfolding_all rfl))),xv⟩) (kj O) O (by first|exact Or.inl rfl|exact Or.inr rfl)) (qG (lq ap xv (a1 (jq xv (wn a (a2 xv (cn d9 (a1 xv)))))))))) (qF (sq (dr qN)) (qF (qV (ct (oq iD) (wn a (a2 xv qK)) qK) (qG (sq (cz hA (a1 (fk ["_law_room"] (ir (a1 xv)) ⟨gq,(hE (ct (oq iD) (wn a (a2 xv qK)) qK)),xv⟩))))) qQ) (qG (qU (dr (a2 (cz hA (a1 (cn AA (a1 xv)))) xv)))))))))
abbrev kd:cY:=iw 45
def kw:FS:=(dq (dY (ed 1 [0] (gj (mV 1)) (gN 0) (mB (m2 (b2 gEq) (mN (db 2 de) (c9 (mV 1) (c9 (mC (D.int 2)) da))) (mC (D.int 0)))) (d1 (mV 0))) (gN 3))
  (dq (eg (mB (m2 (b2 oo) (mN (b1 dZ) (c9 (mV 3) da)) (mV 2))) (dY (eW (c9 (m2 (b2 dm) (mV 1) (mN (db 2 de) (c9 (mV 0) (c9 (mN (b1 dZ) (c9 (mV 1) da)) da)))) da)) (gN 3)) hB)
  (dJ (mN (b1 gTup) (c9 (mV 3) da)))))
def eV:FN:=gz 4 kw
theorem nv {f:cN}(F:dH K "_law_chosen" kd f)(a:Own P w K mg base 1 "_law_pick" 2 de):
  Own P w K mg base 2 "_law_chosen" 3 eV:=xq ["_law_left_here","_law_words","_law_least","_law_found"] X G F λb=>
 (qF (jO 3 O (T:=["_law_word"]) (keep:=[0]) ⟨O,by decide+kernel,(kc "_law_left_here" (ck _))⟩ O (qd xv) (λ_ _ _=>⟨gq,(hE (ct (oq iD) (wn a (a2 xv qK)) qK)),xv⟩) (kj O) O (by first|exact Or.inl rfl|exact Or.inr rfl)) (qF (qV (ct (oq jb) (cn d9 (a1 xv)) xv) (qG (sq (dV (a1 (jq xv (wn a (a2 xv (cn d9 (a1 xv))))))))) qQ) (qG (qU (cz hA (a1 xv))))))
abbrev ni:cY:=iw 47
def og:FS:=(dq (dY (eW (c9 (mC D.non) (c9 (mC (D.bl true)) (c9 (mC (D.bl false)) (c9 (mC (D.int 0)) (c9 (mC (D.int 1)) (c9 (mC (D.int 2)) (c9 (mC (D.int 3)) (c9 (mC (D.int 4)) (c9 (mC (D.int 5)) (c9 (mC (D.int 6)) (c9 (mC (D.int 7)) (c9 (mC (D.int 8)) (c9 (mC (D.int 9)) (c9 (mC (D.int 40)) (c9 (mC (D.int 41)) (c9 (m1 (b1 lK) (mC (D.int 1))) (c9 (m2 (b2 gu) (mC (D.int 10)) (mC (D.int 30))) (c9 (mC (D.str "leave")) (c9 (mC (D.str "mark")) (c9 (mC (D.str "wipe")) (c9 (mC (D.str "came")) da)))))))))))))))))))))) (gN 2))
  (dq (dY (m2 (b2 eG) (mV 2) (eW (c9 (mC (D.str "chalk")) (c9 (mC (D.str "doors")) (c9 (mC (D.str "others")) (c9 (mC (D.str "Leave")) (c9 (mC (D.str "ask")) (c9 (mC (D.str "fails")) (c9 (mC (D.str "never")) (c9 (mC (D.str "colours")) (c9 (mC (D.str "alike")) (c9 (mC (D.str "does")) da)))))))))))) (gN 2))
  (dq (dY (m2 (b2 eG) (mV 2) (eW (c9 (mC (D.str "none")) (c9 (mC (D.str "")) (c9 (mC (D.str "0")) da))))) (gN 2))
  (dq (dY (m2 (b2 eG) (mV 2) (eW (c9 (d2 da) (c9 (eW da) (c9 oU (c9 (d2 (c9 (mC (D.int 0)) da)) (c9 (d2 (c9 (mC D.non) da)) (c9 (d2 (c9 (mC (D.int 0)) (c9 (mC (D.int 1)) da))) (c9 (d2 (c9 (mC (D.int 1)) (c9 (mC (D.int 0)) da))) (c9 (d2 (c9 (mC (D.int 0)) (c9 (mC (D.int 0)) da))) (c9 (d2 (c9 (d2 (c9 (mC (D.int 0)) (c9 (mC (D.int 0)) da))) da)) (c9 (d2 (c9 (mC (D.bl M)) da)) (c9 (d2 (c9 (mC (D.str "leave")) da)) (c9 (d2 (c9 (mV 1) da)) (c9 (eW (c9 (mV 1) da)) da))))))))))))))) (gN 2))
  (dq (eg (mTr (d7 .tuple (mV 1))) (dY (m2 (b2 eG) (mV 2) (m2 (b2 ia) (eW (c9 (mN (b1 nM) (c9 (mV 1) da)) (c9 (zj (mV 1) (m1 (b1 lK) (mC (D.int 1)))) (c9 (m2 (b2 eG) (mV 1) (qk (mV 1) kg (kf (mC (D.int 1))))) (c9 (qk (mV 1) kg (kf (m1 (b1 lK) (mC (D.int 1))))) (c9 (m2 (b2 eG) (mV 1) (d2 (c9 (mC (D.int 0)) da))) (c9 (qk (mV 1) (kf (mC (D.int 1))) kg) da))))))) (mC (D.int 6)))) (gN 2)) hB)
  (dq (eg (mTr (d7 .int (mV 1))) (dY (m2 (b2 eG) (mV 2) (m2 (b2 ia) (eW (c9 (m2 (b2 eG) (mN (b1 nN) (c9 (mV 1) da)) (mC (D.int 1))) (c9 (m2 (b2 gSub) (mN (b1 nN) (c9 (mV 1) da)) (mC (D.int 1))) (c9 (mN (b1 zO) (c9 (mV 1) da)) (c9 (m2 (b2 gEq) (mV 1) (mC (D.int 1))) (c9 (mN (b1 zU) (c9 (mV 1) da)) da)))))) (mC (D.int 5)))) (gN 2)) hB)
  (dJ (m2 (b2 dm) (mV 2) (mN (db 2 de) (c9 (mV 0) (c9 (mN (b1 dZ) (c9 (mV 2) da)) da)))))))))))
def gt:FN:=gz 3 og
theorem rR {f:cN}(F:dH K "_law_odd" ni f)(a:Own P w K mg base 1 "_law_pick" 2 de):
  Own P w K mg base 2 "_law_odd" 2 gt:=xq ["_law_left_here","_law_thing","_law_some"] X G F λb=>
 (qF (sq (dV (qA iL (qA d4 (qA d4 (qA qK (qA qK (qA qK (qA qK (qA qK (qA qK (qA qK (qA qK (qA qK (qA qK (qA qK (qA qK (qA (lr oR qK) (qA (qI ma qK qK) (qA dM (a3 dM dM dM))))))))))))))))))))) (qF (sq (qI eo xv (dV (qA dM (qA dM (qA dM (qA dM (qA dM (qA dM (qA dM (a3 dM dM dM))))))))))) (qF (sq (qI eo xv (dV (a3 dM dM dM)))) (qF (sq (qI eo xv (dV (qA (dr qN) (qA (dV qN) (qA re (qA (dr (a1 qK)) (qA (dr (a1 iL)) (qA (dr (a2 qK qK)) (qA (dr (a2 qK qK)) (qA (dr (a2 qK qK)) (qA (dr (a1 (dr (a2 qK qK)))) (qA (dr (a1 d4)) (a3 (dr (a1 dM)) (dr (a1 xv)) (dV (a1 xv)))))))))))))))) (qF (qV (dw (ii xv)) (qG (sq (qI eo xv (qI nz (dV (qA (cz c_list (a1 xv)) (qA (rd xv (lr oR qK)) (qA (qI eo xv (hH xv jp (jo qK))) (a3 (hH xv jp (jo (lr oR qK))) (qI eo xv (dr (a1 qK))) (hH xv (jo qK) jp)))))) qK)))) qQ) (qF (qV (dw (ii xv)) (qG (sq (qI eo xv (qI nz (dV (qA (qI eo (cz n0 (a1 xv)) qK) (qA (qI l9 (cz n0 (a1 xv)) qK) (a3 (cz Jg (a1 xv)) (ce (oq iD) xv qK) (cz Hd (a1 xv)))))) qK)))) qQ) (qG (qU (jq xv (wn a (a2 xv (cn d9 (a1 xv)))))))))))))
abbrev j8:cY:=iw 50
def kq:FS:=(dq (eg (iV (ev (mTr (d7 .tuple (mV 0)))) (ev (mTr (mN (b1 gl) (c9 (ed 1 [1] (gj (mV 0)) (gN 0) eO (d1 (mN (db 3 dS) (c9 (mV 0) (c9 (mC (D.int 0)) (c9 (m2 (b2 gSub) (mV 1) (mC (D.int 1))) da)))))) da))))) (dJ (mC (D.bl false))) hB)
  (dJ (m2 (b2 gEq) (mN (b1 nM) (c9 (mV 0) da)) (mN (b1 iH) (c9 (mV 0) da)))))
def fr:FN:=gz 2 kq
theorem nr {f:cN}(F:dH K "_law_rising" j8 f)(a:Own P w K mg base 1 "_law_between" 3 dS):
  Own P w K mg base 2 "_law_rising" 2 fr:=xq ["_law_thing","_law_many"] X G F λb=>
 (qF (qV (fG (ea (dy (dw (ii xv))) (et (dy (dw (cn (jh O) (a1 (fk ["_law_one"] (qd xv) ⟨gq,d6,(wn a (a3 xv qK (qI l9 xv qK)))⟩)))))))) (qG (qU d4)) qQ) (qG (qU (ce (oq iD) (cz c_list (a1 xv)) (tw O O (bz B) O (bz B) xv)))))
abbrev j9:cY:=iw 51
def gX:FS:=(dq (eg (iV (ev (mTr (d7 .tuple (mV 4)))) (iV (mB (m2 (b2 gNe) (mN (b1 dZ) (c9 (mV 4) da)) (mC (D.int 2)))) (ev (mTr (mN (db 3 dS) (c9 (m2 (b2 dm) (mV 4) (mC (D.int 0))) (c9 (mC (D.int 0)) (c9 (m2 (b2 gSub) (mN (b1 dZ) (c9 (mV 0) da)) (mC (D.int 1))) da)))))))) (dJ (mC (D.bl false))) hB)
  (dq (eg (iV (ev (mTr (mN (db 3 dS) (c9 (m2 (b2 dm) (mV 4) (mC (D.int 1))) (c9 (mC (D.int 0)) (c9 (m2 (b2 gSub) (mN (b1 dZ) (c9 (m2 (b2 dm) (mV 0) (m2 (b2 dm) (mV 4) (mC (D.int 0)))) da)) (mC (D.int 1))) da)))))) (mB (m2 (b2 gEq) (mV 4) (d2 (c9 (mV 1) (c9 (mV 3) da)))))) (dJ (mC (D.bl J))) hB)
  (eg (mB (m2 (b2 gNe) (m2 (b2 dm) (m2 (b2 dm) (mV 0) (m2 (b2 dm) (mV 4) (mC (D.int 0)))) (m2 (b2 dm) (mV 4) (mC (D.int 1)))) (d2 (c9 (mV 1) (c9 (mV 3) da))))) (dJ (mC (D.bl J))) hB)))
def gW:FS:=(gJ (vE (c9 (mV 2) da)) (gT 2 (gn (gN 3) (gn (gN 4) mh))) gX)
def i8:FT:=(mB (m2 (b2 oo) (mV 6) (mN (b1 dZ) (c9 (mV 5) da))))
def gU:FS:=(dq (iF (vr (b2 zS) (mV 5) (c9 (mN (b1 jF) (c9 (ed 1 [5] (gj (m2 (b2 dm) (mV 0) (m2 (b2 dm) (mV 5) (mV 6)))) (gN 0) (mB (m2 (b2 gk) (m2 (b2 dm) (mV 0) (mC (D.int 0))) (mV 1))) (d1 (m2 (b2 dm) (mV 0) (mC (D.int 0))))) da)) da)))
  (dY (m2 (b2 eG) (mV 6) (mC (D.int 1))) (gN 6)))
def kr:FS:=(dq (eg (iV (ev (mTr (d7 .tuple (mV 0)))) (ev (mB (me (b2 (fB fun i j=>decide (i<=j))) (b2 (fB fun i j=>decide (i<=j))) (mC (D.int 1)) (mN (b1 dZ) (c9 (mV 0) da)) (mC (D.int 8)))))) (dJ (mC (D.bl false))) hB)
  (dq (eg (ev (mTr (mN (b1 gl) (c9 (ed 1 [] (gj (mV 0)) (gN 0) eO (d1 (eY (d7 .tuple (mV 0)) (m2 (b2 (fB λi j=>decide (i<=j))) (mN (b1 dZ) (c9 (mV 0) da)) (mC (D.int 4)))))) da)))) (dJ (mC (D.bl J))) hB)
  (dq (gJ (vE (c9 (mV 0) da)) (gT 2 (gn (gN 1) (gn (gN 2) mh))) gW)
  (dq (dY (d2 (c9 (eW (c9 (mC (D.int 0)) da)) (c9 (mC (D.int 0)) da))) (gT 2 (gn (gN 5) (gn (gN 6) mh))))
  (dq (wg i8 gU 100000)
  (dJ (m2 (b2 gEq) (mN (b1 dZ) (c9 (mV 5) da)) (mN (b1 dZ) (c9 (mV 0) da)))))))))
def fO:FN:=gz 7 kr
theorem nt {f:cN}(F:dH K "_law_is_web" j9 f)(a:Own P w K mg base 1 "_law_between" 3 dS):
  Own P w K mg base 2 "_law_is_web" 1 fO:=xq ["_law_thing","_law_r","_law_room","_law_d","_law_door","_law_met","_law_at"] X G F λb=>
 (qF (qV (fG (ea (dy (dw (ii xv))) (et (dy (iu k4 k4 qK (cn d9 (a1 xv)) qK))))) (qG (qU d4)) qQ) (qF (qV (dy (dw (cn (jh O) (a1 (fk ["_law_room"] (qd xv) ⟨gq,d6,(d8 (ii xv) (eE (ce k4 (cn d9 (a1 xv)) qK)))⟩))))) (qG (qU d4)) qQ) (qF (fo (ie (a1 xv)) (tg2 gq gq) (qG (fo (ie (a1 xv)) (tg2 gq gq) (qF (qV (fG (ea (dy (dw (ii xv))) (ea (ct (oq ue) (cn d9 (a1 xv)) qK) (et (dy (dw (wn a (a3 (jq xv qK) qK (qI l9 (cn d9 (a1 xv)) qK))))))))) (qG (qU d4)) qQ) (qF (qV (fG (ea (dy (dw (wn a (a3 (jq xv qK) qK (qI l9 (cn d9 (a1 (jq xv (jq xv qK)))) qK))))) (et (ct (oq iD) xv (dr (a2 xv xv)))))) (qG (qU d4)) qQ) (qG (qV (ct (oq ue) (jq (jq xv (jq xv qK)) (jq xv qK)) (dr (a2 xv xv))) (qG (qU d4)) qQ))))))) (qF (qR (dr (a2 (dV (a1 qK)) qK)) (tg2 gq gq)) (qF (oH 100000 PassesOwn.never (ct (oq jb) xv (cn d9 (a1 xv))) (qF (lq ⟨PySem.F.slot_list_extend,PySem.F.type_list_extend,HK⟩ xv (a1 (wd O O (bz B) O (bz B) (fk ["_law_door"] (qd (jq xv (jq xv xv))) ⟨gq,(hE (ct (oq k3) (jq xv qK) xv (by with_unfolding_all rfl))),(jq xv qK)⟩)))) (qG (sq (qI eo xv qK))))) (qG (qU (ce (oq iD) (cn d9 (a1 xv)) (cn d9 (a1 xv))))))))))
abbrev lY:cY:=iw 16
def mr:FS:=(dq (eg (iV (ev (mTr (d7 .tuple (mV 1)))) (ev (mTr (mN (b1 gl) (c9 (ed 1 [0] (gj (mV 1)) (gN 0) eO (d1 (mN (db 2 eL) (c9 (mV 0) (c9 (mN (b1 dZ) (c9 (mV 1) da)) da))))) da))))) (dJ (mC (D.bl false))) hB)
  (dJ (mN (db 1 eh) (c9 (mV 1) da))))
def fW:FN:=gz 2 mr
theorem p4 {f:cN}(F:dH K "are_rooms" lY f)(a:Own P w K mg base 2 "is_below" 2 eL)(b:Own P w K mg base 1 "is_rising" 1 eh):
  Own P w K mg base 3 "are_rooms" 2 fW:=xq ["web","thing"] X G F λc=>
 (qF (qV (fG (ea (dy (dw (ii xv))) (et (dy (dw (cn (jh O) (a1 (fk ["room"] (qd xv) ⟨gq,d6,(wn a (a2 xv (cn d9 (a1 xv))))⟩)))))))) (qG (qU d4)) qQ) (qG (qU (wn b (a1 xv)))))
abbrev nf:cY:=iw 21
def kC:FS:=(dq (eg (iV (ev (mTr (d7 .tuple (mV 0)))) (ev (mB (me (b2 (fB fun i j=>decide (i<=j))) (b2 (fB fun i j=>decide (i<=j))) (mC (D.int 1)) (mN (b1 dZ) (c9 (mV 0) da)) (mC fi))))) (dJ (mC (D.bl false))) hB)
  (dJ (mN (b1 gl) (c9 (ed 1 [] (gj (mV 0)) (gN 0) eO (d1 (mN (db 1 gr) (c9 (mV 0) da)))) da))))
def fU:FN:=gz 1 kC
theorem rO {f:cN}(F:dH K "has_form" nf f)(c3:CGl K mg "MOST_ROOMS" fi)(a:Own P w K mg base 2 "is_room" 1 gr):
  Own P w K mg base 3 "has_form" 1 fU:=xq ["thing"] X G F λb=>
 (qF (qV (fG (ea (dy (dw (ii xv))) (et (dy (iu k4 k4 qK (cn d9 (a1 xv)) (gb c3 O)))))) (qG (qU d4)) qQ) (qG (qU (cn (jh O) (a1 (fk ["room"] (qd xv) ⟨gq,d6,(wn a (a1 xv))⟩))))))
abbrev lX:cY:=iw 35
def mq:FS:=(dq (eg (iV (ev (mTr (d7 .tuple (mV 0)))) (mB (m2 (b2 gEq) (mN (b1 dZ) (c9 (mV 0) da)) (mC (D.int 0))))) (dJ (mC (D.bl false))) hB)
  (dq (eg (ev (mTr (mN (b1 gl) (c9 (ed 1 [] (gj (mV 0)) (gN 0) eO (d1 (Cs (m2 (b2 zQ) (mV 0) (mC D.non)) (mN (db 2 eL) (c9 (mV 0) (c9 (mC mS) da)))))) da)))) (dJ (mC (D.bl J))) hB)
  (dJ (mN (db 1 eh) (c9 (ed 1 [] (gj (mV 0)) (gN 0) eO (d1 (JL (mB (m2 (b2 zQ) (mV 0) (mC D.non))) (m1 (b1 lK) (mC (D.int 1))) (mV 0)))) da)))))
def gH:FN:=gz 1 mq
theorem p0 {f:cN}(F:dH K "are_steps" lX f)(c4:CGl K mg "STEPS" mS)(a:Own P w K mg base 2 "is_below" 2 eL)(b:Own P w K mg base 1 "is_rising" 1 eh):
  Own P w K mg base 3 "are_steps" 1 gH:=xq ["thing"] X G F λc=>
 (qF (qV (fG (ea (dy (dw (ii xv))) (et (ct (oq iD) (cn d9 (a1 xv)) qK)))) (qG (qU d4)) qQ) (qF (qV (dy (dw (cn (jh O) (a1 (fk ["step"] (qd xv) ⟨gq,d6,(A6 (ce DR xv iL) (eE (wn a (a2 xv (gb c4 O)))))⟩))))) (qG (qU d4)) qQ) (qG (qU (wn b (a1 (fk ["step"] (qd xv) ⟨gq,d6,(Ej (ct DR xv iL) (lr oR qK) xv)⟩)))))))
abbrev kS:cY:=iw 36
def lm:FS:=(dq (eg (iV (ev (mTr (mN (db 2 eL) (c9 (mV 0) (c9 (m2 (b2 eG) (mC g7) (mC (D.int 1))) da))))) (mB (m2 (b2 gEq) (mV 0) (mC (D.int 0))))) (dJ (mC (D.bl false))) hB)
  (dJ (eY (mN (db 2 eL) (c9 (mV 1) (c9 (m2 (b2 eG) (mC g8) (mC (D.int 1))) da))) (mN (db 2 eL) (c9 (mV 2) (c9 (m2 (b2 eG) (mC g9) (mC (D.int 1))) da))))))
def gi:FN:=gz 3 lm
theorem oB {f:cN}(F:dH K "are_bounds" kS f)(c5:CGl K mg "MOST_BEATS" g9)(c:CGl K mg "MOST_CHALK" g8)(b:CGl K mg "MOST_MOODS" g7)(a:Own P w K mg base 2 "is_below" 2 eL):
  Own P w K mg base 3 "are_bounds" 3 gi:=xq ["moods","chalk","beats"] X G F λd=>
 (qF (qV (fG (ea (dy (dw (wn a (a2 xv (qI eo (gb b O) qK))))) (et (ct (oq iD) xv qK)))) (qG (qU d4)) qQ) (qG (qU (d8 (wn a (a2 xv (qI eo (gb c O) qK))) (eE (wn a (a2 xv (qI eo (gb c5 O) qK))))))))
abbrev nh:cY:=iw 43
def oe:FS:=(dq (dY (d2 (c9 (mN (db 2 de) (c9 (mV 0) (c9 (mC (D.int 4)) da))) (c9 (m2 (b2 eG) (mC (D.int 1)) (mN (db 2 de) (c9 (mV 0) (c9 (mV 1) da)))) da))) (gT 2 (gn (gN 2) (gn (gN 3) mh))))
  (dq (eg (mB (m2 (b2 oo) (mV 2) (mC (D.int 2)))) (dJ (mN (db 2 eB) (c9 (mV 3) (c9 (m2 (b2 gEq) (mV 2) (mC (D.int 0))) da)))) hB)
  (dJ (mN (db 2 fN) (c9 (mV 0) (c9 (mV 3) da))))))
def hV:FN:=gz 4 oe
theorem rQ {f:cN}(F:dH K "_law_web" nh f)(c:Own P w K mg base 1 "_law_pick" 2 de)(a:Own P w K mg base 1 "_law_row_of_rooms" 2 eB)(b:Own P w K mg base 2 "_law_web_of" 2 fN):
  Own P w K mg base 3 "_law_web" 2 hV:=xq ["_law_left_here","_law_most","_law_way","_law_many"] X G F λd=>
 (qF (uO 2 3 O (kj O) O O (by decide) O O (a2 (wn c (a2 xv qK)) (qI eo qK (wn c (a2 xv xv))))) (qF (qV (ct (oq jb) xv qK) (qG (qU (wn a (a2 xv (ce (oq iD) xv qK))))) qQ) (qG (qU (wn b (a2 xv xv))))))
abbrev i5:cY:=iw 53
def jk:FS:=(dq (eg (iV (ev (mTr (d7 .tuple (mV 0)))) (iV (mB (m2 (b2 gNe) (mN (b1 dZ) (c9 (mV 0) da)) (mC (D.int 2)))) (ev (mTr (mN (db 1 fO) (c9 (m2 (b2 dm) (mV 0) (mC (D.int 0))) da)))))) (dJ (mC (D.bl false))) hB)
  (dq (dY (mV 0) (gT 2 (gn (gN 1) (gn (gN 2) mh))))
  (dq (eg (iV (ev (mTr (d7 .tuple (mV 2)))) (iV (mB (m2 (b2 gNe) (mN (b1 dZ) (c9 (mV 2) da)) (mC (D.int 2)))) (mB (m2 (b2 gEq) (m2 (b2 dm) (mV 2) (mC (D.int 0))) (d2 da))))) (dJ (mC (D.bl J))) hB)
  (dJ (eY (mN (db 2 fr) (c9 (m2 (b2 dm) (mV 2) (mC (D.int 0))) (c9 (mN (b1 dZ) (c9 (mV 1) da)) da))) (mN (db 2 fr) (c9 (m2 (b2 dm) (mV 2) (mC (D.int 1))) (c9 (mN (b1 dZ) (c9 (mV 1) da)) da))))))))
def eR:FN:=gz 3 jk
theorem lD {f:cN}(F:dH K "_law_is_field" i5 f)(b:Own P w K mg base 2 "_law_is_web" 1 fO)(a:Own P w K mg base 2 "_law_rising" 2 fr):
  Own P w K mg base 3 "_law_is_field" 1 eR:=xq ["_law_thing","_law_web_here","_law_standing_here"] X G F λc=>
 (qF (qV (fG (ea (dy (dw (ii xv))) (ea (ct (oq ue) (cn d9 (a1 xv)) qK) (et (dy (dw (wn b (a1 (jq xv qK))))))))) (qG (qU d4)) qQ) (qF (qR xv (tg2 gq gq)) (qF (qV (fG (ea (dy (dw (ii xv))) (ea (ct (oq ue) (cn d9 (a1 xv)) qK) (et (ct (oq iD) (jq xv qK) (dr qN)))))) (qG (qU d4)) qQ) (qG (qU (d8 (wn a (a2 (jq xv qK) (cn d9 (a1 xv)))) (eE (wn a (a2 (jq xv qK) (cn d9 (a1 xv)))))))))))
abbrev j6:cY:=iw 15
def kl:FS:=(dq (eg (iV (ev (mTr (mN (db 2 dN) (c9 (mV 1) (c9 (mC (D.int 2)) da))))) (iV (ev (mTr (mN (db 2 fW) (c9 (mV 0) (c9 (m2 (b2 dm) (mV 1) (mC (D.int 0))) da))))) (ev (mTr (mN (db 2 fW) (c9 (mV 0) (c9 (m2 (b2 dm) (mV 1) (mC (D.int 1))) da))))))) (dJ (mC (D.bl false))) hB)
  (dJ (m2 (b2 (fB λi j=>decide (j<i))) (mN (b1 dZ) (c9 (m2 (b2 dm) (mV 1) (mC (D.int 0))) da)) (mC (D.int 0)))))
def fM:FN:=gz 2 kl
theorem np {f:cN}(F:dH K "is_standing" j6 f)(a:Own P w K mg base 3 "are_rooms" 2 fW)(b:Own P w K mg base 1 "is_tuple_of" 2 dN):
  Own P w K mg base 4 "is_standing" 2 fM:=xq ["web","thing"] X G F λc=>
 (qF (qV (fG (ea (dy (dw (wn b (a2 xv qK)))) (ea (dy (dw (wn a (a2 xv (jq xv qK))))) (et (dy (dw (wn a (a2 xv (jq xv qK))))))))) (qG (qU d4)) qQ) (qG (qU (ce wA (cn d9 (a1 (jq xv qK))) qK))))
abbrev rr:cY:=iw 20
def n6:FS:=(dJ (eY (mN (db 1 fU) (c9 (mV 0) da)) (eY (mN (db 1 gg) (c9 (mV 0) da)) (mN (db 1 e6) (c9 (mV 0) da)))))
def gF:FN:=gz 1 n6
theorem wx {f:cN}(F:dH K "is_web" rr f)(c:Own P w K mg base 2 "hangs_together" 1 e6)(b:Own P w K mg base 3 "has_form" 1 fU)(a:Own P w K mg base 2 "leads_back" 1 gg):
  Own P w K mg base 4 "is_web" 1 gF:=xq ["thing"] X G F λd=>
 (qG (qU (d8 (wn b (a1 xv)) (d8 (wn a (a1 xv)) (eE (wn c (a1 xv)))))))
abbrev kb:cY:=iw 46
def i9:FS:=(dq (dY (mN (db 2 hV) (c9 (mV 0) (c9 (mV 1) da))) (gN 4))
  (iF (vr (b2 mI) (mV 2) (c9 (d2 (c9 (mV 4) (c9 (mN (db 2 fm) (c9 (mV 0) (c9 (mV 4) da))) da))) da))))
def ku:FS:=(dq (dY (eW da) (gN 2))
  (dq (gJ (pa (c9 (m2 (b2 dm) (eW (c9 (mC (D.int 1)) (c9 (mC (D.int 2)) (c9 (mC (D.int 1)) (c9 (mC (D.int 3)) (c9 (mC (D.int 2)) (c9 (mC (D.int 1)) (c9 (mC (D.int 3)) (c9 (mC (D.int 6)) da))))))))) (mN (db 2 de) (c9 (mV 0) (c9 (mC (D.int 8)) da)))) da)) (gN 3) i9)
  (dq (dY (mN (db 3 eV) (c9 (mV 0) (c9 (eW (c9 (mC (D.str "came")) (c9 (mC (D.str "chalk")) (c9 (mC (D.str "doors")) (c9 (mC (D.str "others")) da))))) (c9 (mC (D.int 0)) da)))) (gN 5))
  (dq (dY (mN (db 3 eV) (c9 (mV 0) (c9 (eW (c9 (mC (D.str "leave")) (c9 (mC (D.str "mark")) (c9 (mC (D.str "wipe")) da)))) (c9 (mC (D.int 1)) da)))) (gN 6))
  (dq (dY (mN (db 3 eV) (c9 (mV 0) (c9 (eW (c9 (mC D.non) (c9 (mC (D.int 0)) (c9 (mC (D.int 1)) (c9 (mC (D.int 2)) (c9 (mC (D.int 3)) da)))))) (c9 (mC (D.int 1)) da)))) (gN 7))
  (dq (dY (d2 (c9 (m2 (b2 eG) (mC (D.int 1)) (mN (db 2 de) (c9 (mV 0) (c9 (mC (D.int 3)) da)))) (c9 (mN (db 2 de) (c9 (mV 0) (c9 (mC (D.int 9)) da))) (c9 (m2 (b2 dm) (eW (c9 (mN (db 2 de) (c9 (mV 0) (c9 (mC (D.int 13)) da))) (c9 (mN (db 2 de) (c9 (mV 0) (c9 (mC (D.int 41)) da))) da))) (mN (db 2 de) (c9 (mV 0) (c9 (mC (D.int 2)) da)))) da)))) (gN 8))
  (dJ (m2 (b2 eG) (d2 (c9 (mN (b1 gTup) (c9 (mV 2) da)) (c9 (mV 5) (c9 (mV 6) (c9 (mV 7) da))))) (mV 8)))))))))
def fP:FN:=gz 9 ku
theorem nu {f:cN}(F:dH K "_law_errand" kb f)(a:Own P w K mg base 2 "_law_chosen" 3 eV)(b:Own P w K mg base 1 "_law_pick" 2 de)(c:Own P w K mg base 2 "_law_standing" 2 fm)(d:Own P w K mg base 3 "_law_web" 2 hV):
  Own P w K mg base 4 "_law_errand" 2 fP:=xq ["_law_left_here","_law_most","_law_fields","_law_turn","_law_web_here","_law_eyes","_law_hands","_law_steps","_law_rest"] X G F λe=>
 (qF (sq (dV qN)) (qF (fo (ir (a1 (jq (dV (qA qK (qA qK (qA qK (qA qK (qA qK (a3 qK qK qK))))))) (wn b (a2 xv qK))))) gq (qF (sq (wn d (a2 xv xv))) (qG (lq ap xv (a1 (dr (a2 xv (wn c (a2 xv xv))))))))) (qF (sq (wn a (a3 xv (dV (qA dM (a3 dM dM dM))) qK))) (qF (sq (wn a (a3 xv (dV (a3 dM dM dM)) qK))) (qF (sq (wn a (a3 xv (dV (qA iL (qA qK (a3 qK qK qK)))) qK))) (qF (sq (dr (a3 (qI eo qK (wn b (a2 xv qK))) (wn b (a2 xv qK)) (jq (dV (a2 (wn b (a2 xv qK)) (wn b (a2 xv qK)))) (wn b (a2 xv qK)))))) (qG (qU (qI eo (dr (qA (cz hA (a1 xv)) (a3 xv xv xv))) xv)))))))))
abbrev iz:cY:=iw 54
def iJ:FS:=(dq (eg (iV (ev (mTr (d7 .tuple (mV 0)))) (mB (m2 (b2 gNe) (mN (b1 dZ) (c9 (mV 0) da)) (mC (D.int 7))))) (dJ (mC (D.bl false))) hB)
  (dq (dY (mV 0) (gT 7 (gn (gN 1) (gn (gN 2) (gn (gN 3) (gn (gN 4) (gn (gN 5) (gn (gN 6) (gn (gN 7) mh)))))))))
  (dq (eg (iV (ev (mTr (d7 .tuple (mV 1)))) (iV (ev (mB (me (b2 (fB λi j=>decide (i<=j))) (b2 (fB λi j=>decide (i<=j))) (mC (D.int 1)) (mN (b1 dZ) (c9 (mV 1) da)) (mC (D.int 6))))) (ev (mTr (mN (b1 gl) (c9 (ed 1 [] (gj (mV 1)) (gN 0) eO (d1 (mN (db 1 eR) (c9 (mV 0) da)))) da)))))) (dJ (mC (D.bl J))) hB)
  (dq (eg (ev (mTr (mN (db 2 ei) (c9 (mV 2) (c9 (eW (c9 (mC (D.str "came")) (c9 (mC (D.str "chalk")) (c9 (mC (D.str "doors")) (c9 (mC (D.str "others")) da))))) da))))) (dJ (mC (D.bl J))) hB)
  (dq (eg (iV (ev (mTr (mN (db 2 ei) (c9 (mV 3) (c9 (eW (c9 (mC (D.str "leave")) (c9 (mC (D.str "mark")) (c9 (mC (D.str "wipe")) da)))) da))))) (iV (mB (m2 (b2 gEq) (mV 3) (d2 da))) (ev (mTr (d7 .tuple (mV 4)))))) (dJ (mC (D.bl J))) hB)
  (dq (eg (iV (mB (m2 (b2 gEq) (mV 4) (d2 da))) (mTr (mN (b1 zV) (c9 (ed 1 [] (gj (mV 4)) (gN 0) eO (d1 (d7 .bool (mV 0)))) da)))) (dJ (mC (D.bl J))) hB)
  (dq (eg (mB (m2 (b2 gNe) (mN (b1 nM) (c9 (mV 4) da)) (ed 1 [4] (gj (eW (c9 (mC D.non) (c9 (mC (D.int 0)) (c9 (mC (D.int 1)) (c9 (mC (D.int 2)) (c9 (mC (D.int 3)) da))))))) (gN 0) (mB (m2 (b2 lM) (mV 0) (mV 1))) (d1 (mV 0))))) (dJ (mC (D.bl J))) hB)
  (dJ (eY (mN (db 3 dS) (c9 (mV 5) (c9 (mC (D.int 1)) (c9 (mC (D.int 3)) da)))) (eY (mN (db 3 dS) (c9 (mV 6) (c9 (mC (D.int 0)) (c9 (mC (D.int 8)) da)))) (mN (db 3 dS) (c9 (mV 7) (c9 (mC (D.int 0)) (c9 (mC (D.int 40)) da))))))))))))))
def eI:FN:=gz 8 iJ
theorem k0 {f:cN}(F:dH K "_law_is_errand" iz f)(b:Own P w K mg base 1 "_law_between" 3 dS)(c:Own P w K mg base 3 "_law_is_field" 1 eR)(a:Own P w K mg base 1 "_law_words_of" 2 ei):
  Own P w K mg base 4 "_law_is_errand" 1 eI:=xq ["_law_thing","_law_fields","_law_eyes","_law_hands","_law_steps","_law_moods","_law_chalk","_law_beats"] X G F λd=>
 (qF (qV (fG (ea (dy (dw (ii xv))) (et (ct (oq ue) (cn d9 (a1 xv)) qK)))) (qG (qU d4)) qQ) (qF (qR xv (pA O (ee gq (ee gq (ee gq (ee gq (ee gq (ee gq (ee gq mZ))))))))) (qF (qV (fG (ea (dy (dw (ii xv))) (ea (dy (iu k4 k4 qK (cn d9 (a1 xv)) qK)) (et (dy (dw (cn (jh O) (a1 (fk ["_law_one"] (qd xv) ⟨gq,d6,(wn c (a1 xv))⟩))))))))) (qG (qU d4)) qQ) (qF (qV (dy (dw (wn a (a2 xv (dV (qA dM (a3 dM dM dM))))))) (qG (qU d4)) qQ) (qF (qV (fG (ea (dy (dw (wn a (a2 xv (dV (a3 dM dM dM)))))) (ea (ct (oq iD) xv (dr qN)) (et (dy (dw (ii xv))))))) (qG (qU d4)) qQ) (qF (qV (fG (ea (ct (oq iD) xv (dr qN)) (et (dw (cn (c_any O) (a1 (fk ["_law_step"] (qd xv) ⟨gq,d6,(ii xv)⟩))))))) (qG (qU d4)) qQ) (qF (qV (ct (oq ue) (cz c_list (a1 xv)) (fk ["_law_step"] (qd (dV (qA iL (qA qK (a3 qK qK qK))))) ⟨gq,(hE (ct (oq vg) xv xv (by with_unfolding_all rfl))),xv⟩)) (qG (qU d4)) qQ) (qG (qU (d8 (wn b (a3 xv qK qK)) (d8 (wn b (a3 xv qK qK)) (eE (wn b (a3 xv qK qK))))))))))))))
abbrev m9:cY:=iw 33
def n8:FS:=(dJ (eY (mN (db 2 dN) (c9 (mV 0) (c9 (mC (D.int 2)) da))) (eY (mN (db 1 gF) (c9 (m2 (b2 dm) (mV 0) (mC (D.int 0))) da)) (mN (db 2 fM) (c9 (m2 (b2 dm) (mV 0) (mC (D.int 0))) (c9 (m2 (b2 dm) (mV 0) (mC (D.int 1))) da))))))
def hQ:FN:=gz 1 n8
theorem rL {f:cN}(F:dH K "is_field" m9 f)(a:Own P w K mg base 4 "is_standing" 2 fM)(c:Own P w K mg base 1 "is_tuple_of" 2 dN)(b:Own P w K mg base 4 "is_web" 1 gF):
  Own P w K mg base 5 "is_field" 1 hQ:=xq ["thing"] X G F λd=>
 (qG (qU (d8 (wn c (a2 xv qK)) (d8 (wn b (a1 (jq xv qK))) (eE (wn a (a2 (jq xv qK) (jq xv qK))))))))
abbrev kQ:cY:=iw 32
def ll:FS:=(dq (eg (iV (ev (mTr (d7 .tuple (mV 0)))) (ev (mB (me (b2 (fB fun i j=>decide (i<=j))) (b2 (fB fun i j=>decide (i<=j))) (mC (D.int 1)) (mN (b1 dZ) (c9 (mV 0) da)) (mC gA))))) (dJ (mC (D.bl false))) hB)
  (dJ (mN (b1 gl) (c9 (ed 1 [] (gj (mV 0)) (gN 0) eO (d1 (mN (db 1 hQ) (c9 (mV 0) da)))) da))))
def gh:FN:=gz 1 ll
theorem oA {f:cN}(F:dH K "are_fields" kQ f)(b:CGl K mg "MOST_FIELDS" gA)(a:Own P w K mg base 5 "is_field" 1 hQ):
  Own P w K mg base 6 "are_fields" 1 gh:=xq ["thing"] X G F λc=>
 (qF (qV (fG (ea (dy (dw (ii xv))) (et (dy (iu k4 k4 qK (cn d9 (a1 xv)) (gb b O)))))) (qG (qU d4)) qQ) (qG (qU (cn (jh O) (a1 (fk ["field"] (qd xv) ⟨gq,d6,(wn a (a1 xv))⟩))))))
abbrev lW:cY:=iw 31
def mn:FS:=(dq (eg (ev (mTr (mN (db 2 dN) (c9 (mV 0) (c9 (mC (D.int 7)) da))))) (dJ (mC (D.bl false))) hB)
  (dq (dY (mV 0) (gT 7 (gn (gN 1) (gn (gN 2) (gn (gN 3) (gn (gN 4) (gn (gN 5) (gn (gN 6) (gn (gN 7) mh)))))))))
  (dq (eg (iV (ev (mTr (mN (db 1 gh) (c9 (mV 1) da)))) (iV (ev (mTr (mN (db 1 hU) (c9 (mV 2) da)))) (iV (ev (mTr (mN (db 1 gI) (c9 (mV 3) da)))) (ev (mTr (mN (db 1 gH) (c9 (mV 4) da))))))) (dJ (mC (D.bl J))) hB)
  (dJ (mN (db 3 gi) (c9 (mV 5) (c9 (mV 6) (c9 (mV 7) da))))))))
def fy:FN:=gz 8 mn
theorem pZ {f:cN}(F:dH K "is_errand" lW f)(c:Own P w K mg base 3 "are_bounds" 3 gi)(a:Own P w K mg base 2 "are_eyes" 1 hU)(b:Own P w K mg base 6 "are_fields" 1 gh)(d:Own P w K mg base 2 "are_hands" 1 gI)(e:Own P w K mg base 3 "are_steps" 1 gH)(g:Own P w K mg base 1 "is_tuple_of" 2 dN):
  Own P w K mg base 7 "is_errand" 1 fy:=xq ["thing","fields","eyes","hands","steps","moods","chalk","beats"] X G F λh=>
 (qF (qV (dy (dw (wn g (a2 xv qK)))) (qG (qU d4)) qQ) (qF (qR xv (pA O (ee gq (ee gq (ee gq (ee gq (ee gq (ee gq (ee gq mZ))))))))) (qF (qV (fG (ea (dy (dw (wn b (a1 xv)))) (ea (dy (dw (wn a (a1 xv)))) (ea (dy (dw (wn d (a1 xv)))) (et (dy (dw (wn e (a1 xv))))))))) (qG (qU d4)) qQ) (qG (qU (wn c (a3 xv xv xv)))))))
abbrev l0:cY:=iw 55
def mw:FS:=(dq (dY (mN (db 1 fy) (c9 (mV 0) da)) (gN 1))
  (dJ (eY (d7 .bool (mV 1)) (m2 (b2 gEq) (mV 1) (mN (db 1 eI) (c9 (mV 0) da))))))
def fX:FN:=gz 2 mw
theorem p6 {f:cN}(F:dH K "_law_told" l0 f)(b:Own P w K mg base 4 "_law_is_errand" 1 eI)(a:Own P w K mg base 7 "is_errand" 1 fy):
  Own P w K mg base 8 "_law_told" 1 fX:=xq ["_law_thing","_law_found"] X G F λc=>
 (qF (sq (wn a (a1 xv))) (qG (qU (d8 (ii xv) (eE (ce (oq iD) xv (wn b (a1 xv))))))))
abbrev jy:cY:=iw 48
def gK(self:FN):FS:=(dq (eg (zp (mTr (d7 .tuple (mV 1))) (zp (mB (m2 (b2 gNe) (mV 1) (d2 da))) (mB (m2 (b2 (fB fun i j=>decide (j<i))) (mN (db 2 de) (c9 (mV 0) (c9 (mC (D.int 6)) da))) (mC (D.int 0)))))) (dq (dY (mN (db 2 de) (c9 (mV 0) (c9 (mN (b1 dZ) (c9 (mV 1) da)) da))) (gN 2))
  (dJ (m2 (b2 eG) (m2 (b2 eG) (qk (mV 1) kg (kf (mV 2))) (d2 (c9 (mN (db 2 self) (c9 (mV 0) (c9 (m2 (b2 dm) (mV 1) (mV 2)) da))) da))) (qk (mV 1) (kf (m2 (b2 eG) (mV 2) (mC (D.int 1)))) kg)))) hB)
  (dJ (mN (db 2 gt) (c9 (mV 0) (c9 (mV 1) da)))))
def fA:Nat->FN
 |0=>λ_ _=>Y
 |n+1=>gz 3 (gK (fA n))
def jB:FN:=fA 8
theorem pK {f:cN}{fd:cX}(F:wa K "_law_bent" "_law_bent" jy f fd)(hb:jN K fd ["_law_left_here","_law_thing"] [])(hm:mg "_law_bent"=some (.ref f))(a:Own P w K mg base 2 "_law_odd" 2 gt)(d:Own P w K mg base 1 "_law_pick" 2 de){k:Nat}{self:FN}(hk:2<=k)(o_self:Own P w K mg base k "_law_bent" 2 self):
  Own P w K mg base (k+1) "_law_bent" 2 (gz 3 (gK self)):=uM (n:=2) (N:=["_law_left_here","_law_thing","_law_at"]) (ps:=["_law_left_here","_law_thing"]) (b:=gK self) F hb hm sk O λg A c s H E e=>
 (qF (qV (fG (uN (dw (ii xv)) (uN (ct (oq ue) xv (dr qN)) (xw (ct wA (wn d (a2 xv qK)) qK))))) (qF (sq (wn d (a2 xv (cn d9 (a1 xv))))) (qG (qU (qI eo (qI eo (hH xv jp (jo xv)) (dr (a1 (qH o_self e (nR1 _) O (a2 xv (jq xv xv)))))) (hH xv (jo (qI eo xv qK)) jp))))) qQ) (qG (qU (wn a (a2 xv xv)))))
theorem p9 {f:cN}(F:dH K "_law_bent" jy f)(a:Own P w K mg base 2 "_law_odd" 2 gt)(d:Own P w K mg base 1 "_law_pick" 2 de):Own P w K mg base 11 "_law_bent" 2 jB:=by
 have c:=wM1 X G F.ns;obtain⟨fd,F⟩:=F.fn;have b:=F.binds (ps:=["_law_left_here","_law_thing"]) (λ_ _ _ _ _ _ h e=>KA e λ_ _=>rfl);have g:∀j:Nat,Own P w K mg base (3+j) "_law_bent" 2 (fA j):=λj=>by
  induction j with
  |zero=>exact yL F b c
  |succ j ih=>exact pK X G B F b c a d (show 2<=3+j by omega) ih
 exact g 8
abbrev rq:cY:=iw 56
def vb:FS:=(eg (iV (ev (mTr (mN (db 1 fX) (c9 (mN (db 2 jB) (c9 (mV 2) (c9 (mV 3) da))) da)))) (mB (m2 (b2 qr) (mN (db 1 fy) (c9 (mV 3) da)) (mC (D.bl M))))) (dJ (mC (D.bl J))) hB)
def pW:FS:=(dq (dY (mN (db 2 fY) (c9 (mV 0) (c9 (mV 1) da))) (gN 2))
  (dq (dY (mN (db 2 fP) (c9 (mV 2) (c9 (mC (D.int 8)) da))) (gN 3))
  (gJ (pa (c9 (mC (D.int 8)) da)) (gN 4) vb)))
def va:FS:=(oT [M,M,J,J,J] [M,J,J,J,J] pW)
def AL:FS:=(dq (gJ (pa (c9 (mN (b2 sw) (c9 (mC (D.int 1)) (c9 (mN (b2 wR) (c9 (mC (D.int 3)) (c9 (mN (b1 dZ) (c9 (mV 0) da)) da))) da))) da)) (gN 1) va)
  (dJ (mC (D.bl M))))
def m_law:FN:=gz 5 AL
theorem FP {f:cN}{fd:cX}(F:wa K "law" "law" rq f fd)(h:Own P w K mg base 11 "_law_bent" 2 jB)(d:Own P w K mg base 4 "_law_errand" 2 fP)(c:Own P w K mg base 2 "_law_left" 2 fY)(e:Own P w K mg base 8 "_law_told" 1 fX)(a:Own P w K mg base 7 "is_errand" 1 fy):
  lT P w K mg base sZ 12 f fd ["_law_script"] (spM K 1 m_law):=Ek (k:=11) (n:=1) (N:=["_law_script","_law_k","_law_left_here","_law_errand_here","_law_turn"]) (ps:=["_law_script"]) (b:=AL) F sk O λi A g s H E j=>
 (qF (fo (ir (a1 (cn (AB O) (a2 qK (cn (Ea O) (a2 qK (cn d9 (a1 xv)))))))) gq (wc [M,M,J,J,J] [M,J,J,J,J] (qF (sq (wn c (a2 xv xv))) (qF (sq (wn d (a2 xv qK))) (qG (fo (ir (a1 qK)) gq (qG (qV (fG (ea (dy (dw (wn e (a1 (wn h (a2 xv xv)))))) (et (ct yP (wn a (a1 xv)) d4)))) (qG (qU d4)) qQ)))))))) (qG (qU d4)))
end
theorem all_mk {l:PySem.W.OpenLaw}{w:cQ}{K:Fg1}{h:cW}{mg:Str->Option cK}{fa f1 f2 f3 f4 f5 f6 f7 f8 f9 V f11 f12 f13 f14 f15 f16 f17 f18 f19 L f21 f22 wq f24 f25 f26 f27 N f29 f30 f31 f32 f33 f34 Q f36 f37 I f39 f40 f41:cN}(X:K.In h)(G:h.Ns cR mg)(U:mg "law"=some (.ref fa))
  {g1 k d r c m:cN}
  {t2 t3 t4 t5 t6 t7 t8 t9 t10 t13 t14 t16 t17 t19 t20 D t23 T:Tok}
  {od1 p q o j y:Option cN} {n1 n12 n15 n18 n21 n11:Nat} {sl1 t g u f i:Array (Option cK)}
  (a1:dH K "is_whole" m8 f1)
  (a2:dH K "is_tuple_of" j5 f2)
  (a3:dH K "is_rising" lU f3)
  (a4:dH K "is_eye" ru f4)
  (a5:dH K "is_hand" oK f5)
  (a6:dH K "ways" ye f6)
  (a7:dH K "is_paired" lV f7)
  (a8:dH K "_law_cell_at" jw f8)
  (a9:dH K "_law_pick" l5 f9)
  (a10:dH K "_law_row_of_rooms" g0 V)
  (a11:dH K "_law_between" jx f11)
  (a12:dH K "_law_words_of" i3 f12)
  (a13:dH K "is_below" na f13)
  (a14:dH K "are_eyes" ng f14)
  (a15:dH K "is_room" oJ f15)
  (a16:dH K "leads_back" kP f16)
  (a17:dH K "hangs_together" iy f17)
  (a18:dH K "are_hands" lZ f18)
  (a19:dH K "_law_left" l7 f19)
  (a20:dH K "_law_web_of" j7 L)
  (a21:dH K "_law_standing" i4 f21)
  (a22:dH K "_law_chosen" kd f22)
  (aq:dH K "_law_odd" ni wq)
  (a24:dH K "_law_rising" j8 f24)
  (a25:dH K "_law_is_web" j9 f25)
  (a26:dH K "are_rooms" lY f26)
  (R:dH K "has_form" nf f27)
  (a28:dH K "are_steps" lX N)
  (a29:dH K "are_bounds" kS f29)
  (a30:dH K "_law_web" nh f30)
  (a31:dH K "_law_is_field" i5 f31)
  (a32:dH K "is_standing" j6 f32)
  (a33:dH K "is_web" rr f33)
  (a34:dH K "_law_errand" kb f34)
  (a35:dH K "_law_is_errand" iz Q)
  (E:dH K "is_field" m9 f36)
  (a37:dH K "are_fields" kQ f37)
  (a38:dH K "is_errand" lW I)
  (a39:dH K "_law_told" l0 f39)
  (a40:dH K "_law_bent" jy f40)
  (x:dH K "law" rq f41)
  (e_HANDS:wN1 K cR "HANDS"=Z (Z (Value.ref g1)))
  (h1:K.lookup g1=Z ⟨.type "tuple",od1,.seq ([(Value.str "leave" t2),(Value.str "mark" t3),(Value.str "wipe" t4)]:List cK).toArray n1,sl1⟩)
  (e_MOST_BEATS:wN1 K cR "MOST_BEATS"=Z (Z (Value.int (40) t5)))
  (e_MOST_CHALK:wN1 K cR "MOST_CHALK"=Z (Z (Value.int (8) t6)))
  (e_MOST_DOORS:wN1 K cR "MOST_DOORS"=Z (Z (Value.int (4) t7)))
  (e_MOST_FIELDS:wN1 K cR "MOST_FIELDS"=Z (Z (Value.int (6) t8)))
  (e_MOST_MOODS:wN1 K cR "MOST_MOODS"=Z (Z (Value.int (3) t9)))
  (e_MOST_ROOMS:wN1 K cR "MOST_ROOMS"=Z (Z (Value.int (8) t10)))
  (e_PARTS:wN1 K cR "PARTS"=Z (Z (Value.ref k)))
  (h11:K.lookup k=Z ⟨.type "tuple",y,.seq ([(Value.ref d),(Value.ref r),(Value.ref c),(Value.ref m)]:List cK).toArray n11,i⟩)
  (H:K.lookup d=Z ⟨.type "tuple",p,.seq ([(Value.str "came" t13),(Value.int (5) t14)]:List cK).toArray n12,t⟩)
  (am:K.lookup r=Z ⟨.type "tuple",q,.seq ([(Value.str "chalk" t16),(Value.int (2) t17)]:List cK).toArray n15,g⟩)
  (h18:K.lookup c=Z ⟨.type "tuple",o,.seq ([(Value.str "doors" t19),(Value.int (5) t20)]:List cK).toArray n18,u⟩)
  (h21:K.lookup m=Z ⟨.type "tuple",j,.seq ([(Value.str "others" D),(Value.int (2) t23)]:List cK).toArray n21,f⟩)
  (e_STEPS:wN1 K cR "STEPS"=Z (Z (Value.int (4) T)))
  (z:Ju K BL):∃fd:cX,(∀(s:cM) (v:cK),BindsTo s fd ⟨[v],[]⟩ [("_law_script",v)]) /\ ∀base:cW,K.In base->base.Ns cR mg->lT l.prog w K mg base sZ 12 fa fd ["_law_script"] (spM K 1 m_law):=by
 have e:=U.symm.trans (wM1 X G x.ns);cases e;have B:Blt BL mg:=z.blt X G;have c1:CGl K mg "HANDS" mU:=i0 (wM1 X G e_HANDS) (lO h1 (by show 3<=cT;decide) (eM kB (eM kB (eM kB jV))));have c5:CGl K mg "MOST_BEATS" g9:=i0 (wM1 X G e_MOST_BEATS) hY;have c6:CGl K mg "MOST_CHALK" g8:=i0 (wM1 X G e_MOST_CHALK) hY;have c2:CGl K mg "MOST_DOORS" fC:=i0 (wM1 X G e_MOST_DOORS) hY;have c8:CGl K mg "MOST_FIELDS" gA:=i0 (wM1 X G e_MOST_FIELDS) hY;have c7:CGl K mg "MOST_MOODS" g7:=i0 (wM1 X G e_MOST_MOODS) hY;have c3:CGl K mg "MOST_ROOMS" fi:=i0 (wM1 X G e_MOST_ROOMS) hY;have c0:CGl K mg "PARTS" mT:=i0 (wM1 X G e_PARTS) (lO h11 (by show 4<=cT;decide) (eM (lO H (by show 2<=cT;decide) (eM kB (eM hY jV))) (eM (lO am (by show 2<=cT;decide) (eM kB (eM hY jV))) (eM (lO h18 (by show 2<=cT;decide) (eM kB (eM hY jV))) (eM (lO h21 (by show 2<=cT;decide) (eM kB (eM hY jV))) jV)))));have c4:CGl K mg "STEPS" mS:=i0 (wM1 X G e_STEPS) hY;obtain⟨_,⟨⟨_,_,kV,dc,pm,an,cd,ct,_,rfl,lL,cL⟩,kL⟩⟩:=x.fn;refine⟨wF1 "law" "law" (ij rq) (fh rq) (dE rq) .none kV dc pm an cd ct,λs v=>.of_eq O,λbase _ _=>?_⟩;have o0:=rK (P:=l.prog) (w:=w) (base:=base) X G B a1;have A:=no (P:=l.prog) (w:=w) (base:=base) X G B a2;have C:=pX (P:=l.prog) (w:=w) (base:=base) X G B a3;have o1:=wy (P:=l.prog) (w:=w) (base:=base) X G B a4 c0;have o6:=ub (P:=l.prog) (w:=w) (base:=base) X G B a5 c1;have o5:=B5 (P:=l.prog) (w:=w) (base:=base) X G B a6;have o4:=pY (P:=l.prog) (w:=w) (base:=base) X G B a7;have o7:=mD (P:=l.prog) (w:=w) (base:=base) X G B a8;have a:=p7 (P:=l.prog) (w:=w) (base:=base) X G B a9;have o12:=jz (P:=l.prog) (w:=w) (base:=base) X G B a10;have o9:=mE (P:=l.prog) (w:=w) (base:=base) X G B a11;have o24:=lB (P:=l.prog) (w:=w) (base:=base) X G B a12;have b:=rM X G B a13 o0;have o29:=rP X G B a14 o1 C;have o11:=ua X G B a15 c2 A o0;have o19:=oz X G B a16 o4;have o17:=kZ X G B a17 o5;have o31:=p5 X G B a18 o6 C;have o38:=p8 X G B a19 o7;have o13:=nq X G B a20 a;have F:=lC X G B a21 a;have o20:=nv X G B a22 a;have o35:=rR X G B aq a;have o15:=nr X G B a24 o9;have o14:=nt X G B a25 o9;have o16:=p4 X G B a26 b C;have o18:=rO X G B R c3 o11;have o32:=p0 X G B a28 c4 b C;have W:=oB X G B a29 c5 c6 c7 b;have o22:=rQ X G B a30 a o12 o13;have o23:=lD X G B a31 o14 o15;have o25:=np X G B a32 o16 A;have o26:=wx X G B a33 o17 o18 o19;have ao:=nu X G B a34 o20 a F o22;have o33:=k0 X G B a35 o9 o23 o24;have o27:=rL X G B E o25 A o26;have S:=oA X G B a37 c8 o27;have n:=pZ X G B a38 W o29 S o31 o32 A;have o39:=p6 X G B a39 o33 n;have ar:=p9 X G B a40 o35 a;exact FP (P:=l.prog) (w:=w) (base:=base) X G B (zY lL cL kL) ar ao o38 o39 n
def hnd(g m c:Int):Ob:=.lst [.int g,.int m,.int c]
def za(m c:Int):Int:=(m*48271+12345+7919*c)%2147483647
def F9(m:Int):Int:=m*m%1999999973/31
theorem Jh{a b c:D}:py [a,b,c] 0=Z a:=by rfl
theorem KP{a b c:D}:py [a,b,c] 1=Z b:=by rfl
theorem KO{a b c:D}:py [a,b,c] 2=Z c:=by rfl
theorem ED{T:Sto}{g m c k:Int}(hg:0<g)(hk:0<k)(a:k<1073741824):
  de [.ref 0,.int k] (hnd g m c::T)=Z (.int (g%k),hnd (g/k) m c::T):=by
 simp[de,gz,ju,jJ,dq,eg,mB,m2,b2,fB,mV,mC,dm,mH,xl,dn,hnd,hg,hk,a,dY,gN,j1,wT,gS,b3,fQ,jG,jH,dJ,Jh,tj]
theorem EC{T:Sto}{g m c k:Int}(hg:¬ 0<g)(hk:0<k)(a:k<1073741824)(h:0<=m)(hm:m<2147483647)(hc:0<=c)(d:c<2^60):
  de [.ref 0,.int k] (hnd g m c::T)=Z (.int (F9 (za m (c+1))%k),hnd g (za m (c+1)) (c+1)::T):=by
 have e:gf m 48271=M:=vo (by decide) (by decide);have b:gf 7919 (c+1)=M:=y1 (by decide) (by decide);have q:=Int.emod_lt_of_pos (m*48271+12345+7919*(c+1)) (show(0:Int)<2147483647 by decide);have i:=Int.emod_nonneg (m*48271+12345+7919*(c+1)) (show(2147483647:Int)≠0 by decide);have f:gf ((m*48271+12345+7919*(c+1))%2147483647) ((m*48271+12345+7919*(c+1))%2147483647)=M:=y1 (by omega) (by omega);simp[de,gz,ju,jJ,dq,eg,mB,m2,b2,fB,mV,mC,dm,mH,xl,dn,hnd,hg,hk,a,dY,gN,j1,wT,gS,b3,fQ,jG,jH,dJ,Jh,KP,KO,tj,hB,eG,gx,e,b,f,za,F9]
def Hnd(o:Ob)(n:Nat):Prop:=∃g m c:Int,o=hnd g m c/\0<=m/\m<2147483647/\0<=c/\c<=n
theorem Hnd.und{o:Ob}{n k:Nat}(h:Hnd o n):o.und k=M:=by
 obtain⟨g,m,c,rfl,_⟩:=h;rfl
theorem Hnd.more{o:Ob}{n k:Nat}(h:Hnd o n)(hk:n<=k):Hnd o k:=by
 obtain⟨g,m,c,e,a,h1,h2,b⟩:=h;exact⟨g,m,c,e,a,h1,h2,by omega⟩
def d3(S:Sto):Prop:=S.all (Ob.und S.length)=M
theorem Dt{p:Ob->Bool}{S:Sto}{i:Nat}{o:Ob}(h:S.all p=M)(ho:p o=M):(S.set i o).all p=M:=by
 rw[bA]at h ⊢;intro x a;rcases cx a with h1|h1
 ·exact h x h1
 ·rw[h1];exact ho
structure HZ (n:Nat)(B U:Sto):Prop where
 pos:0<B.length
 len:B.length<=U.length
 same:∀i,0<i->i<B.length->U[i]?=B[i]?
 hand:∃o,U[0]?=some o/\Hnd o n
 shut:d3 U
theorem HZ.more{n k:Nat}{B U:Sto}(s:HZ n B U)(h:n<=k):HZ k B U:=by
 obtain⟨o,e,a⟩:=s.hand;exact⟨s.pos,s.len,s.same,⟨o,e,a.more h⟩,s.shut⟩
theorem HZ.self{n:Nat}{B U:Sto}(s:HZ n B U):HZ n U U:=⟨nL1 s.pos s.len,nR1 _,λ_ _ _=>rfl,s.hand,s.shut⟩
theorem HZ.trans{n n':Nat}{B U V:Sto}(a:HZ n B U)(b:HZ n' U V):HZ n' B V:=
 ⟨a.pos,aB a.len b.len,λi h1 hi=>(b.same i h1 (nL1 hi a.len)).trans (a.same i h1 hi),b.hand,b.shut⟩
theorem HZ.at{n:Nat}{B U:Sto}(s:HZ n B U){i:Nat}{o:Ob}(e:B[i]?=Z o)(h1:0<i):U[i]?=Z o:=by
 rw[s.same i h1 (gE1.mp e).1];exact e
theorem gD{U:Sto}{G:Sto}(s:d3 U)(hg:∀o∈G,o.und (U++G).length=M):d3 (U++G):=by
 unfold d3 at *
 rw[List.all_append,bA1];rw[bA]at s;refine⟨bA.mpr λo a=>nw (by rw[lA1];omega) (s o a),bA.mpr hg⟩
theorem rp{U:Sto}{i:Nat}{o:Ob}(s:d3 U)(ho:o.und U.length=M):d3 (U.set i o):=by
 unfold d3 at *
 rw[aT];exact Dt s ho
theorem HZ.app{n:Nat}{B U G:Sto}(s:HZ n B U)(hg:∀o∈G,o.und (U++G).length=M):HZ n B (U++G):=by
 obtain⟨o,e,a⟩:=s.hand;refine⟨s.pos,by rw[lA1];have:=s.len;omega,λi h1 hi=>?_,⟨o,?_,a⟩,gD s.shut hg⟩
 ·rw[gL1 (by have:=s.len;omega)];exact s.same i h1 hi
 ·rw[gL1 (gE1.mp e).1];exact e
theorem HZ.set{n i:Nat}{B U:Sto}{o:Ob}(s:HZ n B U)(hi:B.length<=i)(ho:o.und U.length=M):HZ n B (U.set i o):=by
 obtain⟨o',e,b⟩:=s.hand;have h1:=s.pos;refine⟨s.pos,by rw[aT];exact s.len,λj a c=>?_,⟨o',?_,b⟩,rp s.shut ho⟩
 ·rw[gS1 (by omega)];exact s.same j a c
 ·rw[gS1 (by omega)];exact e
theorem eU{n:Nat}{B U:Sto}{k:Int}{Q:D×Sto->Prop}(s:HZ n B U)(hn:n<=2^50)(hk:0<k)(a:k<1073741824)(q:∀(d:Nat) U',HZ (n+1) B U'->HZ (n+1) U U'->U'.length=U.length->(d:Int)<k->Q (.int d,U')):W (db 2 de [.ref 0,.int k] U) Q:=by
 obtain⟨o,e,p⟩:=s.hand;obtain⟨g,m,c,rfl,f,m1,l,h1⟩:=p;obtain⟨T,rfl⟩:∃T,U=hnd g m c::T:=by
  cases U with
  |nil=>simp at e
  |cons x T=>simp at e;subst e;exact⟨T,O⟩
 have call:∀d o',de [.ref 0,.int k] (hnd g m c::T)=Z (d,o'::T)->db 2 de [.ref 0,.int k] (hnd g m c::T)=Z (d,o'::T):=λd o e=>xa e O (by simp[D.unds,D.und]) (by simp);have up:∀o',Hnd o' (n+1)->HZ (n+1) (hnd g m c::T) (o'::T):=λo' h=>by
  refine⟨by simp,by simp,λi h1 _=>?_,⟨o',O,h⟩,?_⟩
  ·cases i with
   |zero=>omega
   |succ i=>rfl
  ·exact rp (i:=0) s.shut h.und
 by_cases j:0<g
 ·have b:=Int.emod_nonneg g (show k≠0 by omega);obtain⟨d,e⟩:=Int.eq_ofNat_of_zero_le b;refine⟨_,call _ _ (ED j hk a),?_⟩;rw[e];have u:=up (hnd (g/k) m c) ⟨_,_,_,O,f,m1,l,by omega⟩;exact q d _ (s.trans u) u (by simp) (by rw[<- e];exact Int.emod_lt_of_pos _ hk)
 ·have b:=Int.emod_nonneg (F9 (za m (c+1))) (show k≠0 by omega);obtain⟨d,e⟩:=Int.eq_ofNat_of_zero_le b;refine⟨_,call _ _ (EC j hk a f m1 l (by omega)),?_⟩;rw[e];have u:=up (hnd g (za m (c+1)) (c+1)) ⟨_,_,_,O,Int.emod_nonneg _ (by decide),Int.emod_lt_of_pos _ (by decide),by omega,by push_cast;omega⟩;exact q d _ (s.trans u) u (by simp) (by rw[<- e];exact Int.emod_lt_of_pos _ hk)
theorem sL{n c c':Nat}{f:FN}{ds:List D}{B U:Sto}{Q:D×Sto->Prop}(hn:ds.length=n)(l:D.unds 0 ds=J)(s:HZ c B U)(q:W (f ds U) λp=>HZ c' U p.2/\p.1.und 0=M /\ ∀b,HZ c' B b->HZ c' U b->b.length=U.length->Q (p.1,b)):W (db n f ds U) Q:=by
 refine sK hn l (q.mono ?_);rintro⟨d,V⟩ ⟨v,g,q⟩;dsimp only at v g q;have r:=v.len;have t:=s.len;have j:=v.pos;obtain⟨o,e,h⟩:=v.hand;have tl:(V.take U.length).length=U.length:=by rw[aO];omega
 have get:∀i,i<U.length->(V.take U.length)[i]?=V[i]?:=λi hi=>by rw[aQ hi]
 have sh:(V.take U.length).all (Ob.und U.length)=M:=by
  rw[bA];intro x k;obtain⟨i,hi⟩:=bt k;have a:i<U.length:=by have:=(gE1.mp hi).1;omega
  rw[get i a]at hi;by_cases z:i=0
  ·subst z;rw[e]at hi;cases hi;exact h.und
  ·rw[v.same i (by omega) a]at hi;have:=s.shut;unfold d3 at this;rw[bA]at this;exact this x (gM1 hi)
 have m:gc U.length (d,V)=(d,V.take U.length):=by
  unfold gc;dsimp only;rw[ak (by rw[kI g,sh];rfl)]
 rw[m];have u:HZ c' U (V.take U.length):=by
  refine⟨v.pos,by omega,λi h1 hi=>by rw[get i hi];exact v.same i h1 hi,⟨o,by rw[get 0 j];exact e,h⟩,?_⟩;unfold d3;rw[tl];exact sh
 exact q _ (s.trans u) u tl
abbrev dL:=List (List (Nat×Nat))
def dP(p:Nat×Nat):D:=.tup [.int p.1,.int p.2]
def dR(r:List (Nat×Nat)):D:=.tup (r.map dP)
def dW(w:dL):D:=.tup (w.map dR)
theorem ix_tup{xs:List D}{i:Nat}{d:D}{S:Sto}(h:xs[i]?=Z d):dm (.tup xs) (.int i) S=Z (d,S):=by
 show xl (.tup xs) (.int i) S=Z (d,S);unfold xl dn;simp[Dq h]
theorem xK(n:Nat)(p:Nat×Nat):(dP p).und n=M:=rfl
theorem unds_map{α:Type}{f:α->D}{n:Nat}(h:∀x,(f x).und n=M):∀xs:List α,D.unds n (xs.map f)=M
 |[]=>rfl
 |x::xs=>by rw[mP1,D.unds,h x,unds_map h xs];rfl
theorem tK(n:Nat)(r:List (Nat×Nat)):(dR r).und n=M:=by unfold dR;rw[D.und];exact unds_map (xK n) r
theorem kx(n:Nat)(w:dL):(dW w).und n=M:=by unfold dW;rw[D.und];exact unds_map (tK n) w
theorem zx{w:dL}{S:Sto}:dZ (dW w) S=Z (.int w.length,S):=by simp[dW,dZ,dn]
def At(R:dL)(r d:Nat)(x:Nat×Nat):Prop:=∃row,R[r]?=Z row/\row[d]?=Z x
structure WP (w:dL):Prop where
 pos:0<w.length
 few:w.length<=8
 le:∀(r:Nat) (row:List (Nat×Nat)),w[r]?=some row->row.length<=4
 back:∀r d p,At w r d p->At w p.1 p.2 (r,d)
 ne:∀r d p,At w r d p->p≠(r,d)
def Con(w:dL):Prop:=∀P:Nat->Prop,P 0->(∀r d p,At w r d p->P r->P p.1) -> ∀v,v<w.length->P v
def dj(p:Nat×Nat)(r j:Nat):Nat:=(if 0<j/\p.1=r then 1 else 0)+(if 1<j/\p.2=r then 1 else 0)
def dg(P:List (Nat×Nat))(r:Nat):Nat:=(P.map λp=>dj p r 2).sum
theorem vU{P:List (Nat×Nat)}{x:Nat×Nat}{r:Nat}:dg (P++[x]) r=dg P r+dj x r 2:=by
 unfold dg;rw[ca,List.sum_append];simp
def Bh(us:List Nat)(i j:Nat):List Nat:=(us.set i (us.getD i 0+1)).set j ((us.set i (us.getD i 0+1)).getD j 0+1)
theorem lb{us:List Nat}{i v r:Nat}(h:i<us.length):(us.set i v).getD r 0=if i=r then v else us.getD r 0:=by
 rw[bG,List.getElem?_set,bG];split
 ·rename_i e;subst e
  first|(rw[ak h];rfl)|rfl
 ·rfl
theorem tJ{us:List Nat}{i j r:Nat}(hi:i<us.length)(c:j<us.length):(Bh us i j).getD r 0=us.getD r 0+dj (i,j) r 2:=by
 unfold Bh;rw[lb (by rw[aT];exact c),lb hi,lb hi];unfold dj;by_cases a:i=r<;>by_cases b:j=r
 ·subst a;subst b;simp
 ·subst a;simp[b]
 ·subst b;simp[a]
 ·simp[a,b]
structure US (P:List (Nat×Nat))(us:List Nat):Prop where
 dg:∀r,us.getD r 0=dg P r
 le:∀r,us.getD r 0<=4
theorem US.add{P:List (Nat×Nat)}{us:List Nat}{i j:Nat}(u:US P us)(hi:i<us.length)(a:j<us.length)(b:∀r,us.getD r 0+dj (i,j) r 2<=4):US (P++[(i,j)]) (Bh us i j):=
 ⟨λr=>by rw[tJ hi a,vU,u.dg r],λr=>by rw[tJ hi a];exact b r⟩
def TR(P:List (Nat×Nat))(i:Nat):Prop:=∀v,v<i -> ∃j,j<=v/\P[v]?=Z (v+1,j)
theorem TR.app{P:List (Nat×Nat)}{i:Nat}{Q:List (Nat×Nat)}(h:TR P i):TR (P++Q) i:=λv a=>by
 obtain⟨j,h1,h2⟩:=h v a;exact⟨j,h1,by rw[gL1 (gE1.mp h2).1];exact h2⟩
structure PU (b m:Nat)(P:List (Nat×Nat))(us:List Nat)(V:Sto):Prop where
 pr:V[b]?=some (.lst (P.map pD))
 ud:V[b+2]?=some (.lst (nmD us))
 ul:us.length=m
 lt:∀p∈P,p.1<m/\p.2<m
theorem PU.over{n b m:Nat}{P:List (Nat×Nat)}{us:List Nat}{U V:Sto}(p:PU b m P us U)(s:HZ n U V)(hb:0<b):PU b m P us V:=⟨s.at p.pr hb,s.at p.ud (by omega),p.ul,p.lt⟩
theorem W_mulL{n k:Nat}{x:D}{S:Sto}{Q:D×Sto->Prop}(h:S[n]?=Z (.lst [x]))(hk:k<=100)(q:Q (.ref S.length,S++[.lst (aM k x)])):W (ia (.ref n) (.int k) S) Q:=by
 refine W.of ?_ q;simp only[ia,h];rw[ak ⟨by omega,by omega,by rw[Int.toNat_natCast,aY];exact aB (by omega) (show 100<=cT by decide)⟩,Int.toNat_natCast];have:(aM k [x]).flatten=aM k x:=by
  clear hk q
  induction k with
  |zero=>rfl
  |succ k ih=>rw[aU,aV,ih];rfl
 rw[this]
theorem qa{us:List Nat}{i v:Nat}:(nmD us).set i (.int (v:Nat))=nmD (us.set i v):=by
 unfold nmD;rw[List.map_set]
theorem jc{us:List Nat}{i:Nat}(h:i<us.length):(nmD us)[i]?=Z (.int (us[i]:Nat)):=by
 unfold nmD;rw[gP1,gG1 h];rfl
theorem PU.app{b m:Nat}{P:List (Nat×Nat)}{us:List Nat}{V G:Sto}(p:PU b m P us V):PU b m P us (V++G):=
 ⟨by rw[gL1 (gE1.mp p.pr).1];exact p.pr,by rw[gL1 (gE1.mp p.ud).1];exact p.ud,p.ul,p.lt⟩
theorem PU.setU{b m i v:Nat}{P:List (Nat×Nat)}{us:List Nat}{V:Sto}(p:PU b m P us V):PU b m P (us.set i v) (V.set (b+2) (.lst (nmD (us.set i v)))):=
 ⟨by rw[gS1 (by omega)];exact p.pr,aG (gE1.mp p.ud).1,by rw[aT];exact p.ul,p.lt⟩
theorem PU.push{b m:Nat}{P:List (Nat×Nat)}{us:List Nat}{V:Sto}{x:Nat×Nat}(p:PU b m P us V)(hx:x.1<m/\x.2<m):PU b m (P++[x]) us (V.set b (.lst ((P++[x]).map pD))):=
 ⟨aG (gE1.mp p.pr).1,by rw[gS1 (by omega)];exact p.ud,p.ul,λy a=>by
  rcases aE.mp a with z|z
  ·exact p.lt y z
  ·simp at z;subst z;exact hx⟩
theorem r6{n:Nat}{P:List (Nat×Nat)}{x:Nat×Nat}{S:Sto}(h:S[n]?=Z (.lst ((P++[x]).map pD))):dm (.ref n) (.int (-1)) S=Z (pD x,S):=by
 have a:py ((P++[x]).map pD) (-1)=Z (pD x):=by rw[ca];exact L2.AM _ _
 simp only[dm,h,mH,xl,ge h,oS1,a,oP1]
theorem tQ:∀{us:List Nat} {i:Nat} (h:i<us.length),(us.set i (us[i]+1)).sum=us.sum+1
 |u::us,0,h=>by simp;lia
 |u::us,i+1,h=>by
  have:=tQ (us:=us) (i:=i) (by simpa using h);simp only[cw,List.sum_cons,List.getElem_cons_succ];lia
theorem uX:∀{us:List Nat} {i:Nat},i<=us.length->(∀j (h:j<us.length),j<i->4<=us[j])->4*i<=us.sum
 |us,0,_,_=>by lia
 |[],i+1,hl,_=>by simp at hl
 |u::us,i+1,hl,h=>by
  have h1:=uX (us:=us) (i:=i) (by simpa using hl) λj a hi=>h (j+1) (by simpa using a) (by lia);have h2:4<=u:=h 0 (by simp) (by lia);rw[List.sum_cons];lia
theorem C5{n b m i:Nat}{U V:Sto}{P:List (Nat×Nat)}{us:List Nat}{N:Option D}{Q:Fl×Ev×Sto->Prop}(s:HZ n U V)(hb:U.length=b)(hn:n<=2^40)(p:PU b m P us V)(hi0:0<i)(hi:i<m)(hm:m<=8)(hP:P.length+1=i)(hs:us.sum=2*P.length)(q:∀y aq j u,j<i->us.getD j 0<4->u=Bh us i j->HZ (n+1) U y->PU b m (P++[(i,j)]) u y->u.sum=2*(P.length+1)->Q (.nx,[some (.ref 0),some (.int m),some (.ref b),some (.ref (b+2)),some (.int (i:Nat)),aq,none,none,none,none,none,none,none,none,none,none,none],y)):
  W (gR [Z (.ref 0),Z (.int m),Z (.ref b),Z (.ref (b+2)),Z (.int (i:Nat)),N,Y,Y,Y,Y,Y,Y,Y,Y,Y,Y,Y] V) Q:=by
 have F:=s.pos;have wq:=s.len;have ar:=p.ul;obtain⟨j0,C,t⟩:∃j,j<i/\us.getD j 0<4:=by
  apply Classical.byContradiction;intro z;have:=uX (us:=us) (i:=i) (by lia) λj c B=>by
   apply Classical.byContradiction;intro h4;exact z ⟨j,B,by rw[bG,gG1 c];show us[j]<4;lia⟩
  lia
 have f:j0∈(af i).filter λj=>decide (us.getD j 0<4):=by
  rw[az];exact⟨aA.mpr C,ah t⟩
 have h:∀j∈(af i).filter (λj=>decide (us.getD j 0<4)),j<i/\us.getD j 0<4:=λj c=>⟨aA.mp (az.mp c).1,of_decide_eq_true (az.mp c).2⟩;have E:((af i).filter λj=>decide (us.getD j 0<4)).length<=8:=by
  have:=cy (λj=>decide (us.getD j 0<4)) (af i);rw[cA]at this;lia
 unfold gR;refine eu (λr S=>S=V++[.lst (nmD ((af i).filter λj=>decide (us.getD j 0<4)))]/\r=[Z (.ref 0),Z (.int m),Z (.ref b),Z (.ref (b+2)),Z (.int (i:Nat)),Z (.ref V.length),Y,Y,Y,Y,Y,Y,Y,Y,Y,Y,Y]) ?_ ?_
 ·walk_at"w";refine⟨fF (by lia),?_⟩;rw[k6,Int.toNat_natCast];refine iY (λj=>decide (us.getD j 0<4)) (λj:Nat=>D.int j) (λr=>∃x,r=[x,Z (.ref (b+2))]) O (af i) _ ⟨_,O⟩ ?_ ?_
  ·rintro j c r ⟨x,rfl⟩;have c:=aA.mp c;walk_at"w";refine gp (i:=j) p.ud (jc (by lia)) ?_;walk_at"w";refine⟨?_,⟨_,O⟩,λ_=>trivial⟩;rw[bG,gG1 (by lia),bL,al,al];show _↔us[j]<4;lia
  ·rintro r' _;have A:((af i).filter λj=>decide (us.getD j 0<4)).map (λj:Nat=>D.int (j:Int))=nmD ((af i).filter λj=>decide (us.getD j 0<4)):=rfl;rw[A];walk_at"w";exact⟨di (by rw[eQ];lia),trivial⟩
 generalize (af i).filter (λj=>decide (us.getD j 0<4))=L at f E h;rintro r S ⟨rfl,rfl⟩;have hL0:0<L.length:=cB f;have s1:HZ n U (V++[.lst (nmD L)]):=s.app λo I=>by simp at I;subst I;rw[Ob.und];exact dI (fK _)
 have H:PU b m P us (V++[.lst (nmD L)]):=p.app;have am:(V++[Ob.lst (nmD L)])[V.length]?=Z (.lst (nmD L)):=by rw[dh];rfl
 generalize V++[Ob.lst (nmD L)]=V1 at *
 refine eu (λr S=>∃j,j<i/\us.getD j 0<4/\HZ (n+1) U S/\PU b m (P++[(i,j)]) us S/\r=[Z (.ref 0),Z (.int m),Z (.ref b),Z (.ref (b+2)),Z (.int (i:Nat)),Z (.ref V.length),Y,Y,Y,Y,Y,Y,Y,Y,Y,Y,Y]) ?_ ?_
 ·walk_at"w";refine oi ?_;walk_at"w";refine⟨b,P.map pD,O,H.pr,?_⟩;refine eJ am ?_;walk_at"w";rw[eQ];refine eU s1 (by lia) (by lia) (by lia) λk V2 a K l hk=>?_;refine gp (i:=k) (K.at am (by lia)) (jc (by lia)) ?_;walk_at"w";have p2:=H.over K (by lia);have c:=h _ (bN (show k<L.length by lia));refine(sU p2.pr).mpr ⟨di (by rw[lM1];lia),?_⟩;have w:=p2.push (x:=(i,L[k]'(by lia))) ⟨by lia,by show L[k]'(by lia)<m;have:=c.1;lia⟩;have e:P.map pD++[D.tup [D.int (i:Nat),D.int (L[k]'(by lia):Nat)]]=(P++[(i,L[k]'(by lia))]).map pD:=by simp[pD]
  rw[e];exact⟨_,c.1,c.2,a.set (by lia) (by rw[Ob.und];exact Mi.unds_map λ_ _=>rfl),w,trivial⟩
 rintro r S ⟨j,c,t,ao,p2,rfl⟩;have g:j<us.length:=by lia
 have d:i<us.length:=by lia
 walk_at"w";refine gp (i:=i) p2.ud (jc d) ?_
 ((try walk_at"w");repeat(simp only[lK,r6 (P:=P) (x:=(i,j)) p2.pr];try walk_at"w"))
 refine sR (i:=1) (x:=.int (j:Nat)) O ?_;refine gp (i:=j) p2.ud (jc g) ?_;walk_at"w";refine qM (i:=i) p2.ud (by rw[eQ];exact d) ?_;rw[show((us[i]:Int)+1)=((us[i]+1:Nat):Int) by push_cast;rfl,qa];have w:=p2.setU (i:=i) (v:=us[i]+1);have T:HZ (n+1) U (S.set (b+2) (.lst (nmD (us.set i (us[i]+1))))):=ao.set (by lia) (by rw[Ob.und];exact dI (fK _))
 ((try walk_at"w");repeat(simp only[lK,r6 (P:=P) (x:=(i,j)) w.pr];try walk_at"w"))
 refine sR (i:=1) (x:=.int (j:Nat)) O ?_;refine qM (i:=j) w.ud (by rw[eQ,aT];exact g) ?_;rw[show((us[j]:Int)+1)=((us[j]+1:Nat):Int) by push_cast;rfl,qa];have R:=w.setU (i:=j) (v:=us[j]+1);have s4:=T.set (i:=b+2) (o:=.lst (nmD ((us.set i (us[i]+1)).set j (us[j]+1)))) (by lia) (by rw[Ob.und];exact dI (fK _));have X:(us.set i (us[i]+1)).set j (us[j]+1)=Bh us i j:=by
  unfold Bh;rw[lb d,aj (by lia),bG,bG,gG1 d,gG1 g];rfl
 refine q _ _ j _ c t X s4 R ?_;have A:(us.set i (us[i]+1))[j]'(by rw[aT];exact g)=us[j]:=List.getElem_set_ne (by lia) _;have G:=tQ (us:=us.set i (us[i]+1)) (i:=j) (by rw[aT];exact g);rw[A]at G;rw[G,tQ d];lia
theorem xC{c:FT}{b:FS}{Q:Fl×Ev×Sto->Prop}(I:Nat->Ev->Sto->Prop)(N:Nat)(step:∀k r S,I k r S->W (c r S) fun p=>if p.1=true then k<N/\W (b r p.2) fun q=>q.1 = .nx/\I (k+1) q.2.1 q.2.2 else Q (.nx,r,p.2)):
  ∀(fuel k:Nat) (r:Ev) (S:Sto),N-k<fuel->I k r S->W (wg c b fuel r S) Q
 |0,k,r,S,hf,_=>by lia
 |fuel+1,k,r,S,hf,hi=>by
  rw[wg];dsimp only;rw[dk];obtain⟨⟨t,l⟩,e,h⟩:=step k r S hi;refine⟨_,e,?_⟩;dsimp only at h ⊢;cases t with
  |true=>
   rw[ak O]at h ⊢;obtain⟨m,⟨f,i,g⟩,j,a,d⟩:=h;dsimp only at a d;subst a;rw[j,oS1];exact xC I N step fuel (k+1) i g (by lia) d
  |false=>
   rw[aj (by decide)]at h ⊢;exact dv.mpr h
theorem F8{n b m:Nat}{U V:Sto}{P:List (Nat×Nat)}{us:List Nat}{z A B ao L:Option D}{Q:Fl×Ev×Sto->Prop}(s:HZ n U V)(hb:U.length=b)(hn:n<=2^40)(p:PU b m P us V)(T:0<m)(hm:m<=8)(hP:P.length<=50)(E:US P us)(q:∀y w u N R,HZ (n+2) U y->PU b m w u y->w.length<=P.length+1->US w u->(∀i,TR P i->TR w i)->Q (.nx,[some (.ref 0),some (.int m),some (.ref b),some (.ref (b+2)),z,A,B,N,R,none,none,none,none,none,none,none,none],y)):
  W (gQ [Z (.ref 0),Z (.int m),Z (.ref b),Z (.ref (b+2)),z,A,B,ao,L,Y,Y,Y,Y,Y,Y,Y,Y] V) Q:=by
 have G:=s.pos;have wq:=s.len;unfold gQ;refine eu (λr S=>∃i j:Nat,i<m/\j<m/\HZ (n+2) U S/\PU b m P us S/\r=[Z (.ref 0),Z (.int m),Z (.ref b),Z (.ref (b+2)),z,A,B,Z (.int (i:Nat)),Z (.int (j:Nat)),Y,Y,Y,Y,Y,Y,Y,Y]) ?_ ?_
 ·walk_at"w";refine eU s (by omega) (by omega) (by omega) λi V1 a a' l hi=>?_;walk_at"w";refine eU a (by omega) (by omega) (by omega) λj V2 c K l2 C=>?_;walk_at"w";exact⟨i,j,by omega,by omega,c,(p.over a' (by omega)).over K (by omega),O⟩
 rintro r S ⟨i,j,hi,C,I,k,rfl⟩;have f:i<us.length:=by rw[k.ul];exact hi
 have g:j<us.length:=by rw[k.ul];exact C
 walk_at"w";refine gp (i:=i) k.ud (jc f) ?_;refine gp (i:=j) k.ud (jc g) ?_;have p2:=k.push (x:=(i,j)) ⟨hi,C⟩;have am:HZ (n+2) U (S.set b (.lst ((P++[(i,j)]).map pD))):=I.set (by omega) (by rw[Ob.und];exact Mi.unds_map λ_ _=>rfl);have F:=p2.setU (i:=i) (v:=us[i]+1);have X:=am.set (i:=b+2) (o:=.lst (nmD (us.set i (us[i]+1)))) (by omega) (by rw[Ob.und];exact dI (fK _));have d:j<(us.set i (us[i]+1)).length:=by rw[aT];exact g
 have e:P.map pD++[D.tup [D.int (i:Nat),D.int (j:Nat)]]=(P++[(i,j)]).map pD:=by simp[pD]
 have H:us.getD i 0=us[i]:=by rw[bG,gG1 f];rfl
 have ar:us.getD j 0=us[j]:=by rw[bG,gG1 g];rfl
 have aq:(us.set i (us[i]+1)).set j ((us.set i (us[i]+1))[j]+1)=Bh us i j:=by
  unfold Bh;rw[H,bG,gG1 d];rfl
 have t:us[i]+(if i=j then 1 else 0)<4->us[j]+(if i=j then 1 else 0)<4->US (P++[(i,j)]) ((us.set i (us[i]+1)).set j ((us.set i (us[i]+1))[j]+1)):=λh1 h2=>by
  rw[aq];refine E.add f g λr=>?_;have:=E.le r;unfold dj;by_cases a:i=r
  ·subst a;rw[H];by_cases b:j=i
   ·subst b;simp at h1 ⊢;omega
   ·simp[b];simp[Ne.symm b]at h1;omega
  ·by_cases b:j=r
   ·subst b;rw[ar];simp[a];simp[a]at h2;omega
   ·simp[a,b];exact this
 ((try walk_at"w");repeat(simp only[sw];try walk_at"w"))
 split<;>split<;>split
 all_goals first
  |exact q _ _ _ _ _ I k (by omega) E λ_ h=>h
  |skip
 all_goals
  refine oi ?_;walk_at"w";refine⟨b,P.map pD,O,k.pr,?_⟩;refine(sU k.pr).mpr ⟨di (by rw[lM1];omega),?_⟩;rw[e];refine gp (i:=i) p2.ud (jc f) ?_;walk_at"w";refine qM (i:=i) p2.ud (by rw[eQ];exact f) ?_;rw[show((us[i]:Int)+1)=((us[i]+1:Nat):Int) by push_cast;rfl,qa];refine gp (i:=j) F.ud (jc d) ?_;walk_at"w";refine qM (i:=j) F.ud (by rw[eQ];exact d) ?_;rw[show(((us.set i (us[i]+1))[j]:Int)+1)=(((us.set i (us[i]+1))[j]+1:Nat):Int) by push_cast;rfl,qa];exact q _ _ _ _ _ (X.set (by omega) (by rw[Ob.und];exact dI (fK _))) F.setU (by simp) (t (by simp only[beq_iff_eq,Int.natCast_inj,al]at *;split<;>omega) (by simp only[beq_iff_eq,Int.natCast_inj,al]at *;split<;>omega)) λ_ h=>h.app
structure EW (b m:Nat)(E:dL)(U:Sto):Prop where
 el:E.length=m
 row:∀(i:Nat) (row:List (Nat×Nat)),E[i]?=some row->U[b+i]?=some (l8 row)
 ends:U[b+m]?=some (.lst (jX b m))
theorem EW.over{n b m:Nat}{E:dL}{U V:Sto}(e:EW b m E U)(s:HZ n U V)(hb:0<b):EW b m E V:=
 ⟨e.el,λi a c=>s.at (e.row i a c) (by omega),s.at e.ends (by omega)⟩
theorem EW.setRow{b m i:Nat}{E:dL}{U:Sto}{row:List (Nat×Nat)}(w:EW b m E U)(hi:i<m):EW b m (E.set i row) (U.set (b+i) (l8 row)):=by
 have c:b+m<U.length:=(gE1.mp w.ends).1;refine⟨by rw[aT];exact w.el,λj a h=>?_,by rw[gS1 (by omega)];exact w.ends⟩;by_cases e:i=j
 ·subst e;rw[aG (by rw[w.el];exact hi)]at h;cases h;rw[aG (by omega)]
 ·rw[gS1 e]at h;rw[gS1 (by omega)];exact w.row j a h
theorem v9{b m i:Nat}{E:dL}{U:Sto}{Q:D×Sto->Prop}(w:EW b m E U)(hi:i<m)(q:Q (.ref (b+i),U)):W (dm (.ref (b+m)) (.int i) U) Q:=
 gp (xs:=jX b m) (x:=.ref (b+i)) w.ends (mM hi) q
theorem W_ins{n k:Nat}{row:List (Nat×Nat)}{x:Nat×Nat}{S:Sto}{Q:D×Sto->Prop}(h:S[n]?=Z (l8 row))(hk:k<=row.length)(a:row.length<1000)(q:Q (.non,S.set n (l8 (row.take k++x::row.drop k)))):W (uw (.ref n) (.int (k:Nat)) (pD x) S) Q:=by
 refine W.of ?_ q;unfold l8 at h ⊢;simp only[uw,h];have e:nK (row.map pD).length (k:Int)=k:=by
  unfold nK;rw[aj (by omega),Int.toNat_natCast,lM1];omega
 rw[ak ⟨by omega,by omega,by rw[lM1];exact bi a (by decide)⟩,e];rw[ca,mP1,List.map_take,List.map_drop]
theorem sA:∀{E:dL} {i k:Nat} {row:List (Nat×Nat)} {x:Nat×Nat},E[i]?=Z row->(E.set i (row.take k++x::row.drop k)).flatten.Perm (x::E.flatten)
 |[],i,_,_,_,h=>by simp at h
 |a::E,0,k,row,x,h=>by
  simp at h;subst h;rw[List.set_cons_zero,aV,aV];have:(a.take k++x::a.drop k).Perm (x::a):=by
   have h1:=cg (l₁:=a.take k) (l₂:=a.drop k) (a:=x)
   rwa [cf]at h1
  exact(this.append_right E.flatten)
 |a::E,i+1,k,row,x,h=>by
  have:=sA (E:=E) (i:=i) (k:=k) (row:=row) (x:=x) (by simpa using h);rw[cw,aV,aV];exact(List.Perm.append_left a this).trans cg
def sd(p:Nat×Nat)(j:Nat):Nat:=if j=0 then p.1 else p.2
structure MB (P:List (Nat×Nat))(E:dL)(i j:Nat):Prop where
 mem:∀x:Nat×Nat,x∈E.flatten↔x.2<=1/\(x.1<i\/(x.1=i/\x.2<j))
 le:∀row∈E,row.length<=2*i+j
 rm:∀(r:Nat) (row:List (Nat×Nat)) (x:Nat×Nat),E[r]?=some row->x∈row -> ∃p,P[x.1]?=some p/\r=sd p x.2
 nd:∀row∈E,row.Nodup
 dl:∀(r:Nat) (row:List (Nat×Nat)),E[r]?=some row->row.length=dg (P.take i) r+dj (P.getD i (0,0)) r j
theorem MB.ins{i j k:Nat}{P:List (Nat×Nat)}{p:Nat×Nat}{E:dL}{row:List (Nat×Nat)}(b:MB P E i j)(hp:P[i]?=Z p)(ha:E[sd p j]?=Z row)(o:j<=1):MB P (E.set (sd p j) (row.take k++(i,j)::row.drop k)) i (j+1):=by
 have g:=(gE1.mp ha).1;have f:P.getD i (0,0)=p:=by rw[bG,hp];rfl
 have h:(row.take k++(i,j)::row.drop k).Perm ((i,j)::row):=by
  have h1:=cg (l₁:=row.take k) (l₂:=row.drop k) (a:=(i,j))
  rwa [cf]at h1
 refine⟨λx=>?_,λr c=>?_,λr d x c l=>?_,λr c=>?_,λr d c=>?_⟩
 ·rw[(sA ha).mem_iff,aD,b.mem x];obtain⟨q,x2⟩:=x;simp only[Prod.mk.injEq];omega
 ·rcases cx c with z|z
  ·have:=b.le r z;omega
  ·have:=b.le row (gM1 ha);rw[z,h.length_eq,lC1];omega
 ·by_cases e:sd p j=r
  ·subst e;rw[aG g]at c;cases c;rcases aD.mp (h.mem_iff.mp l)with z|z
   ·subst z;exact⟨p,hp,O⟩
   ·exact b.rm _ row x ha z
  ·rw[gS1 e]at c;exact b.rm r d x c l
 ·rcases cx c with z|z
  ·exact b.nd r z
  ·rw[z,h.nodup_iff,aL];refine⟨λn=>?_,b.nd row (gM1 ha)⟩;have:=(b.mem (i,j)).mp (cC.mpr ⟨row,gM1 ha,n⟩);simp at this
 ·have m:∀ r,dj p r (j+1)=dj p r j+(if sd p j=r then 1 else 0):=fun r=>by
   unfold dj sd;rcases(show j=0\/j=1 by omega)with z|z<;>subst z<;>simp
  by_cases e:sd p j=r
  ·subst e;rw[aG g]at c;cases c;have:=b.dl _ row ha;rw[f]at this ⊢;rw[h.length_eq,lC1,m,ak O];omega
  ·rw[gS1 e]at c;have:=b.dl r d c;rw[f]at this ⊢;rw[m,aj e];omega
theorem KJ{p:Nat×Nat}{r:Nat}:dj p r 0=0:=by simp[dj]
theorem MB.next{i:Nat}{P:List (Nat×Nat)}{p:Nat×Nat}{E:dL}(b:MB P E i 2)(hp:P[i]?=Z p):MB P E (i+1) 0:=by
 refine⟨λx=>by rw[b.mem x];omega,λr d=>by have:=b.le r d;omega,b.rm,b.nd,λr a d=>?_⟩;have c:P.getD i (0,0)=p:=by rw[bG,hp];rfl
 have:=b.dl r a d;rw[c]at this;rw[KJ,this,cb,hp];show _=dg (P.take i++[p]) r+0;rw[vU];omega
theorem Fw{n b e m i:Nat}{U V:Sto}{P:List (Nat×Nat)}{E:dL}{x:Nat×Nat}{v y B u t C:Option D}{Q:Fl×Ev×Sto->Prop}(s:HZ n U V)(hb:U.length=b)(he:b+2<e)(hn:n<=2^40)(w:EW e m E V)(hp:V[b]? = some (.lst (P.map pD)))(h:MB P E i 0)(l:P[i]? = some x)(hx:x.1<m/\x.2<m)(hi:i<=50)(q:∀p H f,HZ (n+2) U p->EW e m H p->p[b]?=some (.lst (P.map pD))->MB P H (i+1) 0->Q (.nx,[some (.ref 0),some (.int m),some (.ref b),some (.ref (b+2)),v,y,B,u,t,some (.ref (e+m)),some (.int (i:Nat)),some (pD x),f,none,none,none,none],p)):
  W (gP [Z (.ref 0),Z (.int m),Z (.ref b),Z (.ref (b+2)),v,y,B,u,t,Z (.ref (e+m)),Z (.int (i:Nat)),Z (pD x),C,Y,Y,Y,Y] V) Q:=by
 have I:=s.pos;unfold gP;walk_at"w";refine⟨fF (n:=2) (by decide),?_⟩;refine fR (λj r V=>∃E f,j<=2/\HZ (n+j) U V/\EW e m E V/\V[b]?=Z (.lst (P.map pD))/\MB P E i j/\r=[Z (.ref 0),Z (.int m),Z (.ref b),Z (.ref (b+2)),v,y,B,u,t,Z (.ref (e+m)),Z (.int (i:Nat)),Z (pD x),f,Y,Y,Y,Y]) (iS 0 (Int.toNat 2)) 0 _ _ ⟨E,_,by omega,s,w,hp,h,O⟩ (λ_ _ _ _=>rfl) ?_ ?_
 ·rintro j d G r V ⟨E,f,L,s,w,hp,h,rfl⟩;have c:=(gE1.mp G).1;rw [ej] at c;have F:d = .int (j:Nat):=by
   rw[k6,gP1,ci c]at G;exact(Option.some.inj G).symm
  subst F;rw[bI]at *
  have ao:j<2:=c;have N:=s.len;walk_at"w";unfold i7;have g:sd x j<m:=by unfold sd;split;exact hx.1;exact hx.2
  have A:[D.int (x.1:Nat),D.int (x.2:Nat)][j]?=Z (.int (sd x j:Nat)):=by
   rcases(show j=0\/j=1 by omega)with z|z<;>subst z<;>rfl
  obtain⟨row,a⟩:∃row,E[sd x j]?=some row:=⟨_,gG1 (by rw[w.el];exact g)⟩;have ar:=h.le row (gM1 a);have am:∀(S:Sto) (Q:D×Sto->Prop),Q (.int (sd x j:Nat),S)->W (dm (pD x) (.int (j:Nat)) S) Q:=λS Q q=>sR (xs:=[D.int (x.1:Nat),D.int (x.2:Nat)]) A q;walk_at"w";refine oi ?_;walk_at"w";refine am _ _ ?_;refine v9 w g ?_;refine⟨e+sd x j,row.map pD,O,w.row (sd x j) row a,?_⟩;walk_at"w";refine am _ _ ?_;refine v9 w g ?_;walk_at"w";refine eJ (xs:=row.map pD) (w.row (sd x j) row a) ?_;walk_at"w";rw[lM1,show((row.length:Int)+1)=((row.length+1:Nat):Int) by push_cast;rfl];refine eU s (by omega) (by omega) (by omega) λk X a1 o R T=>?_;have K:=w.over o (by omega);refine W_ins (x:=(i,j)) (K.row (sd x j) row a) (by omega) (by omega) ?_;refine⟨E.set (sd x j) (row.take k++(i,j)::row.drop k),_,by omega,a1.set (by omega) wr,K.setRow g,?_,h.ins l a (by omega),O⟩;rw[gS1 (by omega)];exact o.at hp (by omega)
 ·rintro r V ⟨E,f,L,s,w,hp,h,rfl⟩;rw[ej]at *
  exact q V E _ (by simpa using s) w hp (h.next l)
theorem sT{m:FA}{r:Ev}{S:Sto}{Q:AY×Sto->Prop}{d:D}{S1:Sto}(h:m r S=Z ([d],S1))(q:sW S1 d λp=>Q (⟨Ae 0 p.1,p.2⟩,S1)):W (vE m r S) Q:=by
 unfold vE;rw[h,oS1];dsimp only;rw[dk];exact W.mono (show W (dn S1 d) _ from q) λz w=>dv.mpr w
def DA(d:D):Prop:=∃x,d=dP x
theorem DA.und{d:D}{n:Nat}(h:DA d):d.und n=M:=by obtain⟨x,rfl⟩:=h;rfl
def Bi:D->Nat×Nat
 | .tup [.int a,.int b]=>(a.toNat,b.toNat)
 |_=>(0,0)
theorem DA.un{d:D}(h:DA d):d=dP (Bi d):=by obtain⟨x,rfl⟩:=h;rfl
theorem Ih{C:D->Prop}{F:List (TK×D)}{k:TK}{v:D}(h:∀p∈F,C p.2)(hv:C v):∀p∈gE F k v,C p.2:=by
 intro p a;unfold gE at a;split at a
 ·obtain⟨q,b,rfl⟩:=b0.mp a;split
  ·exact hv
  ·exact h q b
 ·rcases aE.mp a with z|z
  ·exact h p z
  ·simp at z;subst z;exact hv
theorem G7{F:List (TK×D)}{n:Nat}(h:∀p∈F,p.2.und n=M):(dO F).und n=M:=by
 unfold dO;split
 ·rfl
 ·rw[Ob.und];exact Mi.unds_map λp a=>h p a
def xt(F:List (TK×D))(x:Nat×Nat):Prop:=∃v,dB F (q0 x)=Z v
theorem xt.put{F:List (TK×D)}{x y:Nat×Nat}{v:D}(h:xt F x):xt (gE F (q0 y) v) x:=by
 unfold xt;rw[nF];split
 ·exact⟨_,O⟩
 ·exact h
theorem Gv{C:D->Prop}{F:List (TK×D)}{k:TK}{v:D}(h:∀p∈F,C p.2)(e:dB F k=Z v):C v:=by
 unfold dB at e;obtain⟨p,a,rfl⟩:=oM1.mp e;exact h p (List.mem_of_find?_eq_some a)
def Pl(E:dL)(F:List (TK×D)):Prop:=∀x v,dB F (q0 x)=Z v -> ∃r d,v=pD (r,d)/\At E r d x
theorem Pl.put{E:dL}{F:List (TK×D)}{y:Nat×Nat}{r d:Nat}(h:Pl E F)(hy:At E r d y):Pl E (gE F (q0 y) (pD (r,d))):=λx v e=>by
 rw[nF]at e;split at e
 ·rename_i z;cases e;rw[Bm z];exact⟨r,d,O,hy⟩
 ·exact h x v e
theorem EY{E:dL}{V:Sto}{pl k r:Nat}{F:List (TK×D)}{row:List (Nat×Nat)}{G ao K am N P I H B f g l ar A:Option D}{Q:Fl×Ev×Sto->Prop}(hpl:pl<V.length)(hk:V[k]? = some (l8 row))(o:k≠pl)(hF:F.length+row.length<500)(X:∀p∈F,DA p.2)(U:E[r]?=some row)(wq:Pl E F)(q:∀b e c,b.length<=F.length+row.length->(∀p∈b,DA p.2)->(∀x,xt F x->xt b x)->(∀x∈row,xt b x)->Pl E b ->
   Q (.nx,[G,ao,K,am,Z (.int (r:Nat)),N,P,I,H,B,f,g,l,Z (.ref pl),Z (.ref k),e,c],V.set pl (dO b))):
  W (gO [G,ao,K,am,Z (.int (r:Nat)),N,P,I,H,B,f,g,l,Z (.ref pl),Z (.ref k),ar,A] (V.set pl (dO F))) Q:=by
 unfold gO gJ;rw[dk];refine sT (d:=.ref k) (S1:=V.set pl (dO F)) O ?_;refine eJ (xs:=row.map pD) (by rw[gS1 o.symm];exact hk) ?_;refine fR (λi t S=>∃b e c,i<=row.length/\b.length<=F.length+i/\(∀p∈b,DA p.2)/\S=V.set pl (dO b)/\t=[G,ao,K,am,Z (.int (r:Nat)),N,P,I,H,B,f,g,l,Z (.ref pl),Z (.ref k),e,c]/\(∀x,xt F x->xt b x)/\(∀d x,d<i->row[d]?=Z x->xt b x)/\Pl E b) _ 0 _ _ ⟨F,_,_,by omega,by omega,X,O,O,λ_ h=>h,λd x h=>by omega,wq⟩ ?_ ?_ ?_
 ·rintro i t S ⟨b,_,_,_,_,_,rfl,_⟩;exact h9 (by rw[gS1 o.symm];exact hk)
 ·rintro i dd m t S ⟨b,L,u,hi,w,j,rfl,rfl,h1,h2,C⟩;dsimp only at m;rw[ig,gP1]at m;obtain⟨z,T,rfl⟩:=oM1.mp m;obtain⟨x,n,rfl⟩:=oM1.mp T;have R:=(gE1.mp n).1;rw[bI]at *
  walk_at"w";unfold i6;walk_at"w";refine Hj (F:=b) (by rw[aG hpl]) vA (by omega) ?_;refine⟨gE b (q0 x) (pD (r,i)),_,_,by omega,by have:=BF (k:=q0 x) (v:=pD (r,i)) (a:=b);omega,Ih j ⟨_,O⟩,by rw[List.set_set];rfl,O,λy s=>(h1 y s).put,λd y aq s=>?_,C.put ⟨row,U,n⟩⟩;by_cases z:d<i
  ·exact(h2 d y z s).put
  ·have:d=i:=by omega
   subst this;rw[n]at s;cases s;exact⟨_,by rw[nF,ak O]⟩
 ·rintro t S ⟨b,L,u,hi,w,j,rfl,rfl,h1,h2,C⟩;rw[ic,lM1,bI]at w h2;refine q b _ _ w j h1 (λx n=>?_) C;obtain⟨d,m⟩:=bt n;exact h2 d x (gE1.mp m).1 m
theorem oN:∀(k n:Nat),jX n (k+1)=jX n k++[.ref (n+k)]
 |0,n=>rfl
 |k+1,n=>by
  rw[jX,oN k (n+1),jX,bm,show n+1+k=n+(k+1) by omega]
theorem yi{n k m:Nat}(h:n+k<=m):D.unds m (jX n k)=M:=by
 induction k generalizing n with
 |zero=>rfl
 |succ k ih=>rw[jX,D.unds,ih (by omega),D.und];simp;omega
theorem z7{U:Sto}{m:Nat}:EW U.length m (aM m []) (U++(aM m (.lst [])++[.lst (jX U.length m)])):=by
 refine⟨by simp,λi a h=>?_,?_⟩
 ·have hi:i<m:=by have:=(gE1.mp h).1;simpa using this
  rw[aP,ak hi]at h;cases h;rw[iW,gL1 (by simpa using hi),aP,ak hi];rfl
 ·rw[iW,gR1 (by simp)];simp
theorem zi{m:Nat}{P:List (Nat×Nat)}:MB P (aM m []) 0 0:=⟨λx=>by simp,λr a=>by rw[cD a];simp,λr b x a c=>by rw[cD (gM1 a)]at c;exact(cE c).elim,λr a=>by rw[cD a];exact br,λr b a=>by rw[cD (gM1 a),KJ];rfl⟩
theorem ID{α:Type}{row:List α}{x:α}:∀{d d':Nat},row.Nodup->row[d]?=Z x->row[d']?=Z x->d=d':=by
 induction row with
 |nil=>intro d d' _ h;simp at h
 |cons y row ih=>
  intro d d' a h h';rw[aL]at a;cases d with
  |zero=>
   cases d' with
   |zero=>rfl
   |succ d'=>
    simp at h h';subst h;exact absurd (gM1 h') a.1
  |succ d=>
   cases d' with
   |zero=>
    simp at h h';subst h';exact absurd (gM1 h) a.1
   |succ d'=>exact congrArg (· + 1) (ih a.2 (by simpa using h) (by simpa using h'))
theorem MB.one{P:List (Nat×Nat)}{E:dL}{i j r d r' d':Nat}{x:Nat×Nat}(b:MB P E i j)(h:At E r d x)(h':At E r' d' x):r=r'/\d=d':=by
 obtain⟨a,h1,h2⟩:=h;obtain⟨c,e,g⟩:=h';obtain⟨p,k,m⟩:=b.rm r a x h1 (gM1 h2);obtain⟨o,f,n⟩:=b.rm r' c x e (gM1 g);rw[k]at f;cases f;have l:r=r':=by rw[m,n]
 subst l;rw[h1]at e;cases e;exact⟨O,ID (b.nd a (gM1 h1)) h2 g⟩
theorem qC{E:dL}{g:Nat×Nat->Nat×Nat}{r d:Nat}{p:Nat×Nat}:At (E.map (List.map g)) r d p ↔ ∃x,At E r d x/\p=g x:=by
 constructor
 ·rintro⟨a,h1,h2⟩;rw[gP1]at h1;obtain⟨b,c,rfl⟩:=oM1.mp h1;rw[gP1]at h2;obtain⟨x,e,rfl⟩:=oM1.mp h2;exact⟨x,⟨b,c,e⟩,O⟩
 ·rintro⟨x,⟨a,h1,h2⟩,rfl⟩;exact⟨a.map g,by rw[gP1,h1];rfl,by rw[gP1,h2];rfl⟩
theorem ln{E:dL}{x:Nat×Nat}:x∈E.flatten ↔ ∃r d,At E r d x:=by
 rw[cC];constructor
 ·rintro⟨a,h1,h2⟩;obtain⟨r,c⟩:=bt h1;obtain⟨d,b⟩:=bt h2;exact⟨r,d,a,c,b⟩
 ·rintro⟨r,d,a,h1,h2⟩;exact⟨a,gM1 h1,gM1 h2⟩
theorem CW{m:Nat}{P:List (Nat×Nat)}{E:dL}{g:Nat×Nat->Nat×Nat}(b:MB P E P.length 0)(H:E.length=m)(B:0<m)(F:m<=8)(y:∀r,dg P r<=4)(A:TR P (m-1))(hg:∀x∈E.flatten,At E (g x).1 (g x).2 (x.1,1-x.2)):WP (E.map (List.map g))/\Con (E.map (List.map g)):=by
 have two:∀x∈E.flatten,x.2<=1:=λx f=>((b.mem x).mp f).1;refine⟨⟨by rw[lM1];lia,by rw[lM1];lia,λr a o=>?_,λr d p i=>?_,λr d p i z=>?_⟩,λC w G=>?_⟩
 ·rw[gP1]at o;obtain⟨e,h1,rfl⟩:=oM1.mp o;have:=b.dl r e h1;rw[bR,KJ]at this;have:=y r;rw[lM1];lia
 ·obtain⟨x,f,rfl⟩:=qC.mp i;have l:=ln.mpr ⟨r,d,f⟩;have h2:=two x l;have h1:=hg x l;refine qC.mpr ⟨_,h1,?_⟩;have u:=hg _ (ln.mpr ⟨_,_,h1⟩);have ex:((x.1,1-x.2).1,1-(x.1,1-x.2).2)=x:=Prod.ext O (by show 1-(1-x.2)=x.2;lia);rw[ex]at u;obtain⟨c,h⟩:=b.one f u;exact Prod.ext c h
 ·obtain⟨x,f,rfl⟩:=qC.mp i;have l:=ln.mpr ⟨r,d,f⟩;have h2:=two x l;have h1:=hg x l;rw[z]at h1;obtain⟨a,n,k⟩:=f;obtain⟨e,q,s⟩:=h1;dsimp only at q s;rw[n]at q;cases q;rw[k]at s;have:=congrArg Prod.snd (Option.some.inj s);dsimp only at this;lia
 ·intro v;rw[lM1,H]
  induction v using Nat.strongRecOn with
  |ind v ih=>
   intro am;cases v with
   |zero=>exact w
   |succ v=>
    obtain⟨j,I,i⟩:=A v (by lia);have t:=(gE1.mp i).1;obtain⟨r,d,h1⟩:=ln.mp ((b.mem (v,1)).mpr ⟨by simp,.inl t⟩);have o:r=j:=by
     obtain⟨a,n,k⟩:=h1;obtain⟨p,c,h⟩:=b.rm r a _ n (gM1 k);dsimp only at c h;rw[i]at c;cases c;exact h
    subst o;have h2:=hg _ (ln.mpr ⟨_,_,h1⟩);have D:(g (v,1)).1=v+1:=by
     obtain⟨a,n,k⟩:=h2;obtain⟨p,c,h⟩:=b.rm _ a _ n (gM1 k);dsimp only at c h;rw[i]at c;cases c;exact h
    have:=G r d _ (qC.mpr ⟨_,h1,O⟩) (ih r (by lia) (by lia))
    rwa [D]at this
theorem E3{m r:Nat}:(aM m 0).getD r 0=0:=by
 rw[bG,aP];split<;>rfl
theorem Bd{n m:Nat}{B U:Sto}{Q:D×Sto->Prop}(s:HZ n B U)(hn:n<=2^39)(hm0:0<m)(hm8:m<=8)(q:∀w V,w.length=m->WP w/\Con w->HZ (n+100) B V->HZ (n+100) U V->V.length=U.length->Q (dW w,V)):W (db 2 fN [.ref 0,.int (m:Nat)] U) Q:=by
 have hpos:=s.pos;have hbl:=s.len;refine sL (c':=n+100) O O s ?_;have s0:HZ n U U:=s.self;unfold fN;refine ib ?_;unfold kn;generalize hb:U.length=b;refine eu (λr V=>HZ n U V/\PU b m [] (aM m 0) V/\r=[Z (.ref 0),Z (.int m),Z (.ref b),Z (.ref (b+2)),Y,Y,Y,Y,Y,Y,Y,Y,Y,Y,Y,Y,Y]) ?_ ?_
 ·walk_at"w";refine W_mulL (x:=.int 0) (by rw[hb];simp[<- hb]) (by omega) ?_;walk_at"w";have hl:(U++[Ob.lst [],Ob.lst [D.int 0],Ob.lst (aM m (D.int 0))]).length=b+3:=by simp[hb]
  have er:aM m (D.int 0)=nmD (aM m 0):=by unfold nmD;rw[List.map_replicate];rfl
  refine⟨s0.app λo T=>?_,⟨?_,?_,by simp,λp hp=>by simp at hp⟩,?_⟩
  ·simp at T;rcases T with z|z|z<;>subst z
   ·rfl
   ·rfl
   ·rw[er,Ob.und];exact dI (fK _)
  ·rw[<- hb,dh];rfl
  ·rw[<- hb,iW,er];rfl
  ·simp[hb]
 rintro r V ⟨s1,p1,rfl⟩;refine eu (λr V=>∃P t K N,HZ (n+10) U V/\PU b m P t V/\P.length<=7/\US P t/\TR P (m-1)/\r=[Z (.ref 0),Z (.int m),Z (.ref b),Z (.ref (b+2)),K,N,Y,Y,Y,Y,Y,Y,Y,Y,Y,Y,Y]) ?_ ?_
 ·walk_at"w";refine⟨AH (by decide) (by decide),fF (by omega),?_⟩;rw[show((m:Int)-1).toNat=m-1 by omega];refine fR (λi r V=>∃P t K N,i<m/\HZ (n+i) U V/\PU b m P t V/\P.length=i/\t.sum=2*P.length/\US P t/\TR P i/\(∀v,i<v->t.getD v 0=0)/\r=[Z (.ref 0),Z (.int m),Z (.ref b),Z (.ref (b+2)),K,N,Y,Y,Y,Y,Y,Y,Y,Y,Y,Y,Y]) _ 0 _ _ ⟨[],_,_,_,hm0,s1,p1,O,by simp,⟨λr=>by rw[E3];rfl,λr=>by rw[E3];lia⟩,λv hv=>by lia,λv _=>E3,O⟩ (λ_ _ _ _=>rfl) ?_ ?_
  ·rintro i d hd r V ⟨P,t,K,N,hi,wq,pV,hP,hs,h,u,hz0,rfl⟩;have hlen:=(gE1.mp hd).1;rw[ej]at hlen;rw[bI]at *
   have hd':d = .int ((i+1:Nat):Int):=by
    rw[(nA _ _ _ _ hd).2]
    congr 1
    omega
   subst hd';walk_at"w";refine C5 wq hb (by omega) pV (by omega) (by omega) hm8 (by omega) hs λV' y5 j us' hj hj4 hue a1 a2 a3=>?_;have hul:=pV.ul;have hi1:=hz0 (i+1) (by omega);have hup:∀r,(Bh t (i+1) j).getD r 0=t.getD r 0+dj (i+1,j) r 2:=λr=>tJ (by omega) (by omega);refine⟨O,_,us',_,_,by omega,a1,a2,by simp[hP],by rw[a3,lA1];rfl,?_,λv hv=>?_,λv hv=>?_,O⟩
   ·rw[hue];refine h.add (by omega) (by omega) λr=>?_;have:=h.le r;unfold dj;by_cases a:i+1=r
    ·subst a;rw[hi1];by_cases b:j=i+1<;>simp[b]
    ·by_cases b:j=r
     ·subst b;simp[a];rw[bG]at hj4;omega
     ·simp[a,b];rw[bG]at this;exact this
   ·by_cases z:v<i
    ·obtain⟨j',q1,q2⟩:=u v z;exact⟨j',q1,by rw[gL1 (gE1.mp q2).1];exact q2⟩
    ·have:v=i:=by omega
     subst this;refine⟨j,by omega,?_⟩;rw[gR1 (by omega),hP,Nat.sub_self];rfl
   ·rw[hue,hup,hz0 v (by omega)];have h1:¬ (i+1=v):=by omega
    have h2:¬ (j=v):=by omega
    simp[dj,h1,h2]
  ·rintro r V ⟨P,t,K,N,hi,wq,pV,hP,hs,h,u,hz0,rfl⟩;rw[ej,bI]at *
   exact⟨O,P,t,_,_,wq.more (by omega),pV,by omega,h,u,O⟩
 rintro r V ⟨P,t,K,N,s2,p2,hP,h,u,rfl⟩;refine eu (λr V=>∃P t x6 x7 x8,HZ (n+20) U V/\PU b m P t V/\P.length<=10/\US P t/\TR P (m-1)/\r=[Z (.ref 0),Z (.int m),Z (.ref b),Z (.ref (b+2)),K,N,x6,x7,x8,Y,Y,Y,Y,Y,Y,Y,Y]) ?_ ?_
 ·walk_at"w";refine eU s2 (by omega) (by omega) (by omega) λk V1 a1 a1' l1 hk=>?_;walk_at"w";refine⟨fF (by omega),?_⟩;rw[Int.toNat_natCast];refine fR (λi r V=>∃P t x6 x7 x8,i<=k/\HZ (n+11+2*i) U V/\PU b m P t V/\P.length<=7+i/\US P t/\TR P (m-1)/\r=[Z (.ref 0),Z (.int m),Z (.ref b),Z (.ref (b+2)),K,N,x6,x7,x8,Y,Y,Y,Y,Y,Y,Y,Y]) _ 0 _ _ ⟨P,t,_,_,_,by omega,a1,p2.over a1' (by omega),hP,h,u,O⟩ (λ_ _ _ _=>rfl) ?_ ?_
  ·rintro i d hd r V ⟨P,t,x6,x7,x8,hi,wq,pV,hPl,h,u,rfl⟩;have hlen:=(gE1.mp hd).1;rw[ej]at hlen;rw[bI]at *
   walk_at"w";refine F8 wq hb (by omega) pV hm0 (by omega) (by omega) h λV' P' us' y7 y8 b1 b2 b3 b4 b5=>?_;exact⟨O,P',us',_,_,_,by omega,b1,b2,by omega,b4,b5 _ u,O⟩
  ·rintro r V ⟨P,t,x6,x7,x8,hi,wq,pV,hPl,h,u,rfl⟩;rw[ej,bI]at *
   exact⟨O,P,t,_,_,_,wq.more (by omega),pV,by omega,h,u,O⟩
 rintro r V ⟨P,t,x6,x7,x8,s3,p3,hP5,h,u,rfl⟩;have hVl:=s3.len;have hbV:b+2<V.length:=(gE1.mp p3.ud).1;refine eu (λr V'=>HZ (n+20) U V'/\EW V.length m (aM m []) V'/\V'[b]?=Z (.lst (P.map pD))/\r=[Z (.ref 0),Z (.int m),Z (.ref b),Z (.ref (b+2)),K,N,x6,x7,x8,Z (.ref (V.length+m)),Y,Y,Y,Y,Y,Y,Y]) ?_ ?_
 ·walk_at"w";refine⟨fF (by omega),?_⟩;rw[Int.toNat_natCast];refine jS (λi aq r S=>aq=jX V.length i/\S=V++aM i (.lst []) /\ ∃x,r=[x]) (iS 0 m) 0 [] _ _ ⟨O,by simp,_,O⟩ (λ_ _ _ _ _=>rfl) ?_ ?_
  ·rintro i d hd aq r S ⟨rfl,rfl,x,rfl⟩;walk_at"w";rw[bI];refine⟨?_,?_,_,O⟩
   ·rw[oN,lR1]
   ·rw[List.replicate_succ']
  ·rintro xs r S ⟨e,rfl,_⟩;rw[a0,bI,ej]at e;subst e;rw[bI,ej];walk_at"w";rw[iB];refine⟨di (by omega),s3.app λo T=>?_,z7,?_,?_⟩
   ·rcases aE.mp T with z|z
    ·rw[cD z];rfl
    ·simp at z;subst z;rw[Ob.und];exact yi (by simp)
   ·rw[gL1 (by omega)];exact p3.pr
   ·simp
 rintro r V1 ⟨s4,w4,hpr,rfl⟩;generalize he:V.length=e at *
 refine eu (λr V=>∃E H A C,HZ (n+40) U V/\EW e m E V/\MB P E P.length 0/\r=[Z (.ref 0),Z (.int m),Z (.ref b),Z (.ref (b+2)),K,N,x6,x7,x8,Z (.ref (e+m)),H,A,C,Y,Y,Y,Y]) ?_ ?_
 ·unfold gJ;rw[dk];refine sT (d:=.ref b) (S1:=V1) O ?_;refine eJ hpr ?_;refine fR (λi r V=>∃E H A C,i<=P.length/\HZ (n+20+2*i) U V/\EW e m E V/\V[b]?=Z (.lst (P.map pD))/\MB P E i 0/\r=[Z (.ref 0),Z (.int m),Z (.ref b),Z (.ref (b+2)),K,N,x6,x7,x8,Z (.ref (e+m)),H,A,C,Y,Y,Y,Y]) _ 0 _ _ ⟨_,_,_,_,by omega,s4,w4,hpr,zi,O⟩ ?_ ?_ ?_
  ·rintro i r V ⟨E,H,A,C,_,_,_,hp,_⟩;exact h9 hp
  ·rintro i dd ao r V ⟨E,H,A,C,hi,wq,wV,hpV,mbV,rfl⟩;dsimp only at ao;rw[ig,gP1]at ao;obtain⟨z,hz,rfl⟩:=oM1.mp ao;obtain⟨x,ar,rfl⟩:=oM1.mp hz;have hilt:=(gE1.mp ar).1;rw[bI]at *
   walk_at"w";refine Fw wq hb (by omega) (by omega) wV hpV mbV ar (p3.lt x (gM1 ar)) (by omega) λV' E' y12 b1 b2 b3 b4=>?_;exact⟨O,E',_,_,_,by omega,b1,b2,b3,b4,O⟩
  ·rintro r V ⟨E,H,A,C,hi,wq,wV,hpV,mbV,rfl⟩;rw[ic,lM1,bI]at wq mbV;exact⟨O,E,_,_,_,wq.more (by omega),wV,mbV,O⟩
 rintro r am ⟨E,H,A,C,s5,X,mb,rfl⟩;have hVl2:=s5.len;have hel:e+m<am.length:=(gE1.mp X.ends).1;refine eu (λr V3=>V3=am++[.dct []]/\r=[Z (.ref 0),Z (.int m),Z (.ref b),Z (.ref (b+2)),K,N,x6,x7,x8,Z (.ref (e+m)),H,A,C,Z (.ref am.length),Y,Y,Y]) ?_ ?_
 ·((try walk_at"w");repeat(simp only[oU];try walk_at"w"))
 rintro r V3 ⟨rfl,rfl⟩;generalize hV3:am++[Ob.dct []]=V3;have hpl:am.length<V3.length:=by rw[<- hV3];simp
 have s6:HZ (n+40) U V3:=by rw[<- hV3];exact s5.app λo T=>by simp at T;subst T;rfl
 have low:∀(i:Nat) (o:Ob),am[i]?=Z o->V3[i]?=Z o:=λi o hi=>by rw[<- hV3,gL1 (gE1.mp hi).1];exact hi
 have hset0:V3=V3.set am.length (dO []):=by
  have:V3[am.length]?=Z (dO []):=by rw[<- hV3,List.getElem?_concat_length];rfl
  obtain⟨hl,ar⟩:=gE1.mp this;rw[<- ar,List.set_getElem_self]
 refine eu (λr V4=>∃F K x14 x15 x16,V4=V3.set am.length (dO F)/\(∀x∈E.flatten,xt F x)/\(∀p∈F,DA p.2)/\Pl E F/\r=[Z (.ref 0),Z (.int m),Z (.ref b),Z (.ref (b+2)),K,N,x6,x7,x8,Z (.ref (e+m)),H,A,C,Z (.ref am.length),x14,x15,x16]) ?_ ?_
 ·unfold gJ;rw[dk];refine sT (d:=.ref (e+m)) (S1:=V3) O ?_;refine eJ (low _ _ X.ends) ?_;refine fR (λi r V4=>∃F K x14 x15 x16,i<=m/\F.length<=20*i/\V4=V3.set am.length (dO F)/\(∀(j:Nat) (row:List (Nat×Nat)),j<i->E[j]?=Z row -> ∀x∈row,xt F x)/\(∀p∈F,DA p.2)/\Pl E F/\r=[Z (.ref 0),Z (.int m),Z (.ref b),Z (.ref (b+2)),K,N,x6,x7,x8,Z (.ref (e+m)),H,A,C,Z (.ref am.length),x14,x15,x16]) _ 0 _ _ ⟨[],_,_,_,_,by omega,by simp,hset0,λj row hj=>by omega,λp hp=>by simp at hp,λx v e=>by simp[dB]at e,O⟩ ?_ ?_ ?_
  ·rintro i r V4 ⟨F,_,_,_,_,_,_,rfl,_⟩;exact h9 (by rw[gS1 (by omega)];exact low _ _ X.ends)
  ·rintro i dd ao r V4 ⟨F,y4,y14,y15,y16,hi,hF,rfl,h1,hu,hpl0,rfl⟩;dsimp only at ao;rw[ig]at ao;obtain⟨z,hz,rfl⟩:=oM1.mp ao;have L:=(gE1.mp hz).1;rw[iB]at L;rw[mM L]at hz;cases hz;rw[bI]at *
   obtain⟨row,f⟩:∃row,E[i]?=some row:=⟨_,gG1 (by rw[X.el];exact L)⟩;have hrl:=mb.le row (gM1 f);walk_at"w";refine EY (r:=i) hpl (low _ _ (X.row i row f)) (by omega) (by omega) hu f hpl0 λF' o15 o16 hl hu' hk hn' hpl'=>?_;refine⟨O,F',_,_,_,_,by omega,by omega,O,λj I hj hr' x ar=>?_,hu',hpl',O⟩;by_cases z:j<i
   ·exact hk x (h1 j I z hr' x ar)
   ·have:j=i:=by omega
    subst this;rw[f]at hr';cases hr';exact hn' x ar
  ·rintro r V4 ⟨F,y4,y14,y15,y16,hi,hF,rfl,h1,hu,hpl0,rfl⟩;rw[ic,iB,bI]at h1;refine⟨O,F,_,_,_,_,O,λx ar=>?_,hu,hpl0,O⟩;obtain⟨row,hr1,hr2⟩:=cC.mp ar;obtain⟨j,hj⟩:=bt hr1;exact h1 j row (by rw[<- X.el];exact(gE1.mp hj).1) hj x hr2
 rintro r V4 ⟨F,y4,y14,y15,y16,rfl,hF,hu,hplF,rfl⟩;generalize hV4:V3.set am.length (dO F)=V4;have s7:HZ (n+40) U V4:=by rw[<- hV4];exact s6.set (by omega) (G7 λp hp=>(hu p hp).und)
 have R:∀(i:Nat) (o:Ob),am[i]?=Z o->V4[i]?=Z o:=λi o hi=>by
  rw[<- hV4,gS1 (by have:=(gE1.mp hi).1;omega)];exact low i o hi
 have hplc:V4[am.length]?=Z (dO F):=by rw[<- hV4,aG hpl]
 have hopp:∀x∈E.flatten,(x.1,1-x.2)∈E.flatten:=λx ar=>by
  have:=(mb.mem x).mp ar;exact(mb.mem _).mpr ⟨by simp,by rcases this.2 with z|z;exact .inl z;omega⟩
 walk_at"w";refine eJ (S:=V4) (R _ _ X.ends) ?_;refine jS (λi aq r S=>∃G x,S=V4++G/\(∀o∈G,o.und 0=M)/\r=[x,Z (.ref am.length)] /\ ∃w:dL,w.length=i/\aq=w.map dR/\w=(E.take i).map (List.map λx=>Bi ((dB F (q0 (x.1,1-x.2))).getD .non))) (jX e m) 0 [] _ _ ⟨[],Y,by simp,λo T=>by simp at T,O,[],O,O,O⟩ ?_ ?_ ?_
 ·rintro i aq r S ⟨G,x,rfl,_⟩;exact h9 (by rw[gL1 (gE1.mp (R _ _ X.ends)).1];exact R _ _ X.ends)
 ·rintro i d hd aq r S ⟨G,x,rfl,hG,rfl,w,hwl,hwe,hwr⟩;have L:=(gE1.mp hd).1;rw[iB]at L;rw[mM L]at hd;cases hd;obtain⟨row,f⟩:∃row,E[i]?=some row:=⟨_,gG1 (by rw[X.el];exact L)⟩;have hrl:=mb.le row (gM1 f);have hk2:=R _ _ (X.row i row f);have hk3:(V4++G)[e+i]?=Z (.lst (row.map pD)):=by rw[gL1 (gE1.mp hk2).1];exact hk2
  walk_at"w";refine eJ hk3 ?_;refine nD (λx=>(dB F (q0 (x.1,1-x.2))).getD .non) (λr=>∃x y,r=[x,y,Z (.ref am.length)]) (h9 hk3) row _ ⟨_,_,O⟩ ?_ ?_
  ·rintro y hy r ⟨a,c,rfl⟩;have hyf:y∈E.flatten:=cC.mpr ⟨row,gM1 f,hy⟩;have hy2:=((mb.mem y).mp hyf).1;obtain⟨v,hv⟩:=hF _ (hopp y hyf);rw[pD];walk_at"w";rw[show((1:Int)-(y.2:Int))=((1-y.2:Nat):Int) by omega];refine Hm (F:=F) (k:=q0 (y.1,1-y.2)) (by rw[gL1 (gE1.mp hplc).1];exact hplc) (vA (e:=(y.1,1-y.2))) hv ?_;exact⟨by rw[hv];rfl,O,_,_,O⟩
  ·rintro r' _;have erow:(row.map fun x=>(dB F (q0 (x.1,1-x.2))).getD .non)=(row.map fun x=>Bi ((dB F (q0 (x.1,1-x.2))).getD .non)).map dP:=by
    rw[bu];refine cq λy hy=>?_;obtain⟨v,hv⟩:=hF _ (hopp y (cC.mpr ⟨row,gM1 f,hy⟩));show _=dP (Bi ((dB F (q0 (y.1,1-y.2))).getD .non));rw[hv];exact(Gv hu hv).un
   rw[erow];generalize hrow':(row.map λx=>Bi ((dB F (q0 (x.1,1-x.2))).getD .non))=I;have hrl':I.length=row.length:=by rw[<- hrow',lM1]
   walk_at"w";refine⟨di (by rw[lM1];omega),?_⟩;refine eJ (xs:=I.map dP) (by rw[<- aW,<- lA1,dh];rfl) ?_;refine⟨G++[Ob.lst (I.map dP)],_,O,λo T=>?_,O,w++[I],by simp[hwl],by rw[hwe,ca];rfl,by rw[hwr,<- hrow',bI,cb,f,ca];rfl⟩
   ·rcases aE.mp T with z|z
    ·exact hG o z
    ·simp at z;subst z;rw[Ob.und];exact unds_map (xK 0) _
 ·rintro xs r S ⟨G,x,rfl,hG,rfl,w,hwl,hwe,hwr⟩;rw [bI,iB] at hwl hwr;rw [bX (by rw [X.el];exact nR1 _)] at hwr;have hgood:=CW (g:=fun x=>Bi ((dB F (q0 (x.1,1-x.2))).getD .non)) mb X.el hm0 hm8 (fun r=>by rw [<- h.dg r];exact h.le r) u fun x ar=>by
   obtain⟨v,hv⟩:=hF _ (hopp x ar);obtain⟨r',d',e1,e2⟩:=hplF _ _ hv
   try dsimp only
   rw[hv,e1];exact e2
  rw[a0]at hwe;subst hwe;walk_at"w";refine⟨di (by rw[lM1];omega),?_⟩;refine eJ (xs:=w.map dR) (by rw[<- aW,<- lA1,dh];rfl) ?_;refine⟨(s7.app λo T=>?_).more (by omega),kx 0 w,λU' a c l=>q w U' hwl (by rw[hwr];exact hgood) a c (by rw[l,hb])⟩;rcases aE.mp T with z|z
  ·exact nw (bj _) (hG o z)
  ·simp at z;subst z;rw[Ob.und];exact unds_map (tK _) w
def K3:D->List (Nat×Nat)
 | .tup xs=>xs.map Bi
 |_=>[]
def JC:D->dL
 | .tup xs=>xs.map K3
 |_=>[]
def Iy:D->Bool
 | .tup [.int a,.int b]=>decide (0<=a)&&decide (0<=b)
 |_=>J
def Iz(p:D->Bool):D->Bool
 | .tup xs=>xs.all p
 |_=>J
theorem FU{d:D}(h:Iy d=M):d=dP (Bi d):=by
 unfold Iy at h;split at h
 ·rename_i a b;rw[bA1,al,al]at h;simp only[Bi,dP];rw[Int.toNat_of_nonneg h.1,Int.toNat_of_nonneg h.2]
 ·cases h
theorem uc{α:Type}{p:D->Bool}{f:D->α}{g:α->D}(hp:∀x,p x=M->x=g (f x)):∀{xs:List D},xs.all p=M->xs=(xs.map f).map g
 |[],_=>rfl
 |x::xs,h=>by
  rw[bK,bA1]at h;rw[mP1,mP1,<- hp x h.1,<- uc hp h.2]
theorem FR{d:D}(h:Iz Iy d=M):d=dR (K3 d):=by
 cases d with
 |tup xs=>exact congrArg D.tup (uc (λ_=>FU) h)
 |_=>cases h
theorem FQ{d:D}(h:Iz (Iz Iy) d=M):d=dW (JC d):=by
 cases d with
 |tup xs=>exact congrArg D.tup (uc (λ_=>FR) h)
 |_=>cases h
def zM(w:dL):Bool:=decide (0<w.length)&&decide (w.length<=8)&&(w.all λr=>decide (r.length<=4))&&((af w.length).all λr=>(af (w.getD r []).length).all λd=>decide ((w.getD ((w.getD r []).getD d (0,0)).1 [])[((w.getD r []).getD d (0,0)).2]?=Z (r,d))&&decide ((w.getD r []).getD d (0,0)≠(r,d)))&&((af w.length).all λv=>decide (v=0)||(af v).any λr=>(w.getD r []).any λp=>decide (p.1=v))
theorem zL{w:dL}(h:zM w=M):WP w/\Con w:=by
 unfold zM at h;simp only[bA1,al,bA,aA,bJ,bM]at h;obtain⟨⟨⟨⟨o,n⟩,l⟩,j⟩,hc⟩:=h;have row:∀{r:Nat} {row:List (Nat×Nat)},w[r]?=Z row->w.getD r []=row:=λh=>by rw[bG,h];rfl
 have c:∀r d p,At w r d p->At w p.1 p.2 (r,d)/\p≠(r,d):=λr d p a=>by
  obtain⟨b,h1,h2⟩:=a;have q:=j r (gE1.mp h1).1 d (by rw[row h1];exact(gE1.mp h2).1);rw[row h1,show b.getD d (0,0)=p by rw[bG,h2];rfl]at q;refine⟨?_,q.2⟩;cases h3:w[p.1]? with
  |none=>rw[bG,h3]at q;simp at q
  |some r2=>exact⟨r2,h3,by rw[row h3]at q;exact q.1⟩
 refine⟨⟨o,n,λr b h1=>l b (gM1 h1),λr d p a=>(c r d p a).1,λr d p a=>(c r d p a).2⟩,λC i m v=>?_⟩
 induction v using Nat.strongRecOn with
 |ind v ih=>
  intro g;rcases hc v g with z|⟨r,k,p,a,e⟩
  ·rw[z];exact i
  ·obtain⟨d,f⟩:=bt a;cases h3:w[r]? with
   |none=>rw[bG,h3]at f;simp at f
   |some r2=>
    rw[row h3]at f;have:=m r d p ⟨r2,h3,f⟩ (ih r k (by omega))
    rwa [e]at this
def G9(o:Option (D×Sto))(m:Nat):Bool:=match o with
 |some (d,_)=>Iz (Iz Iy) d&&decide ((JC d).length=m)&&zM (JC d)
 |_=>J
theorem Dg{o:Option (D×Sto)}{m:Nat}(h:G9 o m=M):∃w z,o=Z (dW w,z)/\w.length=m/\WP w/\Con w:=by
 unfold G9 at h;split at h
 ·rename_i d z;rw[bA1,bA1,al]at h;obtain⟨⟨h1,h2⟩,a⟩:=h;exact⟨JC d,z,by rw[<- FQ h1],h2,zL a⟩
 ·cases h
theorem H9{m:Nat}{b:Bool}{S:Sto}{Q:D×Sto->Prop}(c:0<m)(hm:m<=8)(q:∀w,w.length=m->WP w/\Con w->Q (dW w,S)):W (db 2 eB [.int (m:Nat),.bl b] S) Q:=by
 have a:G9 (eB [.int (m:Nat),.bl b] []) m=M:=by
  rcases(show m=1\/m=2\/m=3\/m=4\/m=5\/m=6\/m=7\/m=8 by omega)with z|z|z|z|z|z|z|z<;>subst z<;>cases b<;>kernel_rfl!
 obtain⟨w,z,e,h1,h2⟩:=Dg a;exact W.of (pi (n:=2) (S:=S) e O O (kx 0 w)) (q w h1 h2)
theorem HG{n k:Nat}{B U:Sto}{Q:D×Sto->Prop}(s:HZ n B U)(hn:n<=2^38)(g:0<k)(i:k<=8)(q:∀w V,0<w.length->w.length<=8->WP w/\Con w->HZ (n+110) B V->HZ (n+110) U V->V.length=U.length->Q (dW w,V)):W (db 2 hV [.ref 0,.int (k:Nat)] U) Q:=by
 refine sL (c':=n+110) O O s ?_;have h:=s.self;unfold hV;refine ib ?_;unfold oe;refine eu (λr S=>∃w m:Nat,0<m/\m<=8/\HZ (n+2) U S/\r=[Z (.ref 0),Z (.int (k:Nat)),Z (.int (w:Nat)),Z (.int (m:Nat))]) ?_ ?_
 ·walk_at"w";refine eU h (by omega) (by decide) (by decide) λw p a1 _ _ o=>?_;walk_at"w";refine eU a1 (by omega) (by omega) (by omega) λk t a2 _ _ j=>?_;walk_at"w";exact⟨w,k+1,by omega,by omega,a2,by simp[Int.add_comm]⟩
 rintro r S ⟨w,m,d,c,f,rfl⟩;simp(implicitDefEqProofs:=J) only[dq,eg,mB,m2,mV,gC1,cv,mC,b2,oS1,vH,dJ,mN,c9,vI,da,hB,dk,oj,dv];split
 ·refine H9 d c λw h1 h2=>?_;exact⟨f.more (by omega),kx 0 w,λe a b l=>q w e (by omega) (by omega) h2 a b l⟩
 ·refine Bd f (by omega) d c λw V h1 h2 a1 a2 l=>?_;exact⟨a1.more (by omega),kx 0 w,λe a b l=>q w e (by omega) (by omega) h2 a b l⟩
theorem L6{S:Sto}{n a b:Nat}:g6 S (n+1) (.int (a:Nat)) (.int (b:Nat))=Z (decide (a=b)):=by
 show Z (((a:Int)) == ((b:Int)))=_
 congr 1
 rw[bL,beq_iff_eq,al];omega
theorem inL_nm{S:Sto}{n x:Nat}:∀R:List Nat,su (g6 S (n+1)) (.int (x:Nat)) (nmD R)=Z (R.contains x)
 |[]=>rfl
 |y::R=>by
  have ih:=inL_nm (S:=S) (n:=n) (x:=x) R;rw[nmD]at ih ⊢;rw[mP1,su,L6,ih,List.contains_cons];have:(x == y)=decide (y=x):=by rw[bL,beq_iff_eq,al];exact eq_comm
  rw[this];rfl
theorem rW{S:Sto}{n x:Nat}{R:List Nat}(h:S[n]?=Z (.lst (nmD R))):gk (.int (x:Nat)) (.ref n) S=Z (.bl (!R.contains x),S):=by
 simp only[gk,h,iX,nL,ge h,oS1,dX,show(60:Nat)=59+1 from rfl,inL_nm,oP1]
theorem sr:∀R:List Nat,o8 (nmD R)=Z (R.map Int.ofNat)
 |[]=>rfl
 |x::R=>by
  have ih:=sr R;rw[nmD]at ih ⊢;rw[mP1,o8,ih];rfl
theorem nO:∀(m:Nat) (R:List Nat),R.length<m -> ∃j,j<m/\j∉R
 |0,R,h=>by omega
 |m+1,R,h=>by
  by_cases a:m∈R
  ·have d:=List.length_erase_of_mem a;have c:=cB a;obtain⟨j,e,b⟩:=nO m (R.erase m) (by omega);exact⟨j,by omega,λz=>b ((List.mem_erase_of_ne (by omega)).mpr z)⟩
  ·exact⟨m,by omega,a⟩
def Ris(m:Nat)(R:List Nat):Prop:=R.Pairwise (· < ·) /\ ∀x∈R,x<m
theorem yg{m:Nat}{R:List Nat}(h:R.Nodup)(hm:∀x∈R,x<m):Ris m ((fe (R.map Int.ofNat)).map Int.toNat):=by
 have i:=eb (R.map Int.ofNat);have j:(fe (R.map Int.ofNat)).Nodup:=by
  rw[i.nodup_iff];exact List.Pairwise.map _ (λa b c e=>c (Int.ofNat.inj e)) h
 have nn:∀x∈fe (R.map Int.ofNat),∃y∈R,x=(y:Int):=λx f=>by
  obtain⟨y,g,rfl⟩:=b0.mp (i.mem_iff.mp f);exact⟨y,g,O⟩
 have l:=hM (R.map Int.ofNat);generalize fe (R.map Int.ofNat)=L at *
 refine⟨?_,λx f=>?_⟩
 ·rw[cu];refine(List.Pairwise.and l j).imp_of_mem λ{a b} d k c=>?_;obtain⟨y,_,rfl⟩:=nn a d;obtain⟨z,_,rfl⟩:=nn b k;have h1:=c.1;have h2:=c.2;show(y:Int).toNat<(z:Int).toNat
  omega
 ·obtain⟨a,d,rfl⟩:=b0.mp f;obtain⟨y,g,rfl⟩:=nn a d;exact hm y g
theorem Bq{n m:Nat}{xs:List D}{B U:Sto}{Q:D×Sto->Prop}(s:HZ n B U)(hn:n<=2^38)(hx:D.unds 0 xs=M)(hl:xs.length=m)(hm0:0<m)(hm8:m<=8)(q:∀(R C:List Nat) V,R.length<=8->C.length<=8->(0<R.length/\Ris m R/\Ris m C)->HZ (n+40) B V->HZ (n+40) U V->V.length=U.length->Q (.tup [.tup (nmD R),.tup (nmD C)],V)):W (db 2 fm [.ref 0,.tup xs] U) Q:=by
 have hpos:=s.pos;have hbl:=s.len;refine sL (c':=n+40) O (by simp[D.unds,D.und]) s ?_;have s0:=s.self;unfold fm;refine ib ?_;unfold jj;generalize ao:U.length=b;refine eu (λr S=>HZ n U S/\S[b]?=Z (.lst (nmD []))/\r=[Z (.ref 0),Z (.tup xs),Z (.int (m:Nat)),Z (.ref b),Y,Y,Y,Y]) ?_ ?_
 ·walk_at"w";rw[hl];refine⟨s0.app λo h=>by simp at h;subst h;rfl,by rw[<- ao,dh];rfl,by rw[ao]⟩
 rintro r S ⟨s1,r1,rfl⟩;refine eu (λr S=>∃few:Nat,0<few/\few<100/\HZ (n+2) U S/\S[b]?=Z (.lst (nmD []))/\r=[Z (.ref 0),Z (.tup xs),Z (.int (m:Nat)),Z (.ref b),Z (.int (few:Nat)),Y,Y,Y]) ?_ ?_
 ·walk_at"w";have aq:HZ n U (S++[.lst (nmD [3,3,3,m])]):=s1.app λo h=>by simp at h;subst h;rw[Ob.und];exact dI (fK _)
  have e4:Ob.lst [D.int 3,D.int 3,D.int 3,D.int (m:Nat)] = .lst (nmD [3,3,3,m]):=rfl;rw[e4];refine eU aq (by omega) (by decide) (by decide) λk U1 a1 c l1 hk=>?_;have am:k<([3,3,3,m]:List Nat).length:=by simp;omega
  have y:U1[S.length]?=Z (.lst (nmD [3,3,3,m])):=c.at (by rw[dh];rfl) (by have:=s1.len;omega);refine gp (i:=k) y (jc am) ?_;have hv:0<[3,3,3,m][k]/\[3,3,3,m][k]<=8:=by
   have:=bN am;simp only[aD,cE,or_false]at this;omega
  refine eU a1 (by omega) (by omega) (by omega) λf U2 a2 A l2 hf=>?_;walk_at"w";exact⟨f+1,by omega,by omega,a2,A.at (c.at (by rw[gL1 (gE1.mp r1).1];exact r1) (by omega)) (by omega),by simp[Int.add_comm]⟩
 rintro r S ⟨few,hf0,hf1,aq,r2,rfl⟩;refine eu (λr S=>∃(R:List Nat) (E F:Option D),(R.length<=8/\0<R.length/\R.Nodup /\ ∀x∈R,x<m)/\HZ (n+11) U S/\S[b]?=Z (.lst (nmD R))/\r=[Z (.ref 0),Z (.tup xs),Z (.int (m:Nat)),Z (.ref b),Z (.int (few:Nat)),E,F,Y]) ?_ ?_
 ·((try walk_at"w");repeat(simp only[wR];try walk_at"w"))
  obtain⟨t,ht,hte⟩:∃t:Nat,(t<=m/\0<t)/\(if(m:Int)<(few:Int)then(m:Int)else(few:Int))=(t:Int):=by
   by_cases z:(m:Int)<(few:Int)
   ·exact⟨m,⟨by omega,hm0⟩,by rw[ak z]⟩
   ·exact⟨few,⟨by omega,hf0⟩,by rw[aj z]⟩
  rw[hte,Int.toNat_natCast];refine⟨fF (by omega),?_⟩;refine fR (λi r S=>∃(R:List Nat) (E F:Option D),i<=t/\R.length=i/\(R.Nodup /\ ∀x∈R,x<m)/\HZ (n+2+i) U S/\S[b]?=Z (.lst (nmD R))/\r=[Z (.ref 0),Z (.tup xs),Z (.int (m:Nat)),Z (.ref b),Z (.int (few:Nat)),E,F,Y]) _ 0 _ _ ⟨[],_,_,by omega,O,⟨br,λx hx=>(cE hx).elim⟩,aq,r2,O⟩ (λ_ _ _ _=>rfl) ?_ ?_
  ·rintro i d P r S ⟨R,E,F,hi,hR,e,G,v,rfl⟩;have g:=(gE1.mp P).1;rw[ej]at g;rw[bI]at *
   walk_at"w";unfold h8;have wq:=G.len;obtain⟨j0,hj0,hjR⟩:=nO m R (by omega);have p:j0∈(af m).filter λj=> !R.contains j:=by
    rw[az];exact⟨aA.mpr hj0,by simpa using hjR⟩
   refine eu (λr V=>V=S++[.lst (nmD ((af m).filter λj=> !R.contains j))]/\r=[Z (.ref 0),Z (.tup xs),Z (.int (m:Nat)),Z (.ref b),Z (.int (few:Nat)),Z d,Z (.ref S.length),Y]) ?_ ?_
   ·walk_at"w";refine⟨fF (by omega),?_⟩;rw[k6,Int.toNat_natCast];refine iY (λj=> !R.contains j) (λj:Nat=>D.int j) (λr=>∃x,r=[x,Z (.ref b)]) O (af m) _ ⟨_,O⟩ ?_ ?_
    ·rintro j hj r ⟨x,rfl⟩
     ((try walk_at"w");repeat(simp only[rW v];try walk_at"w"))
     exact⟨⟨_,O⟩,λ_=>trivial⟩
    ·rintro r' _;have e1:((af m).filter λj=> !R.contains j).map (λj:Nat=>D.int (j:Int))=nmD ((af m).filter λj=> !R.contains j):=rfl;rw[e1];walk_at"w";refine⟨di ?_,trivial⟩;rw[eQ];have:=cy (λj=> !R.contains j) (af m);rw[cA]at this;omega
   have hLm:((af m).filter λj=> !R.contains j).length<=m:=by
    have:=cy (λj=> !R.contains j) (af m)
    rwa [cA]at this
   have ar:∀x∈(af m).filter (λj=> !R.contains j),x<m/\x∉R:=λx hx=>by
    rw[az]at hx;exact⟨aA.mp hx.1,by simpa using hx.2⟩
   generalize (af m).filter (λj=> !R.contains j)=L at p hLm ar;rintro r V ⟨rfl,rfl⟩;have sV:HZ (n+2+i) U (S++[.lst (nmD L)]):=G.app λo h=>by simp at h;subst h;rw[Ob.und];exact dI (fK _)
   have hL0:0<L.length:=cB p;have X:(S++[Ob.lst (nmD L)])[b]?=Z (.lst (nmD R)):=by rw[gL1 (gE1.mp v).1];exact v
   have y:(S++[Ob.lst (nmD L)])[S.length]?=Z (.lst (nmD L)):=by rw[dh];rfl
   generalize S++[Ob.lst (nmD L)]=V at *
   walk_at"w";refine oi ?_;walk_at"w";refine⟨b,nmD R,O,X,?_⟩;refine eJ y ?_;walk_at"w";rw[eQ];refine eU sV (by omega) (by omega) (by omega) λk V1 a1 c l1 hk=>?_;refine gp (i:=k) (c.at y (by omega)) (jc (by omega)) ?_;walk_at"w";refine(sU (c.at X (by omega))).mpr ⟨di (by rw[eQ];omega),?_⟩;have en:nmD R++[D.int (L[k]'(by omega):Nat)]=nmD (R++[L[k]'(by omega)]):=by simp[nmD]
   rw[en];refine⟨R++[L[k]'(by omega)],_,_,by omega,by simp[hR],?_,a1.set (by omega) (by rw[Ob.und];exact dI (fK _)),aG (by have:=(gE1.mp (c.at X (by omega))).1;exact this),O⟩;have hn:=ar _ (bN (show k<L.length by omega));refine⟨?_,λx hx=>?_⟩
   ·rw[List.perm_append_singleton _ _ |>.nodup_iff,aL];exact⟨hn.2,e.1⟩
   ·rcases aE.mp hx with z|z
    ·exact e.2 x z
    ·rw[cF.mp z];exact hn.1
  ·rintro r S ⟨R,E,F,hi,hR,e,G,v,rfl⟩;rw[ej,bI]at *
   exact⟨O,R,_,_,⟨by omega,by omega,e⟩,G.more (by omega),v,O⟩
 rintro r S ⟨R,E,F,⟨hR,hR0,e⟩,s3,r3,rfl⟩;have wq:=s3.len;refine eu (λr V=>V=S/\r=[Z (.ref 0),Z (.tup xs),Z (.int (m:Nat)),Z (.ref b),Z (.int (few:Nat)),E,F,Z (.tup [])]) ?_ ?_
 ·walk_at"w"
 rintro r V ⟨rfl,rfl⟩;refine eu (λr V=>∃C:List Nat,(C.length<=8/\Ris m C)/\HZ (n+30) U V/\V[b]?=Z (.lst (nmD R))/\r=[Z (.ref 0),Z (.tup xs),Z (.int (m:Nat)),Z (.ref b),Z (.int (few:Nat)),E,F,Z (.tup (nmD C))]) ?_ ?_
 ·walk_at"w";refine eU s3 (by omega) (by decide) (by decide) λk V1 a1 c l1 hk=>?_;have T:=c.at r3 (by omega);walk_at"w";split
  ·refine⟨fF (by omega),?_⟩;rw[Int.toNat_natCast];refine jS (λi K r S=>∃x,HZ (n+12+i) U S/\S[b]?=Z (.lst (nmD R))/\r=[x,Z (.ref 0)]/\i<=m /\ ∃C:List Nat,(C.length<=i/\Ris i C)/\K=nmD C) (iS 0 m) 0 [] _ _ ⟨Y,a1,T,O,by omega,[],⟨by simp,.nil,λx hx=>(cE hx).elim⟩,O⟩ (λ_ _ _ _ _=>rfl) ?_ ?_
   ·rintro i d P K r S ⟨x,G,v,rfl,hi,C,⟨hal,N,H⟩,w⟩;have g:=(gE1.mp P).1;rw [ej] at g;have hd':d = .int (i:Nat):=by
     rw[k6,gP1,ci g]at P;exact(Option.some.inj P).symm
    subst hd';rw[bI]at *
    walk_at"w";refine eU G (by omega) (by decide) (by decide) λk2 V2 a2 A l2 hk2=>?_;walk_at"w";split
    ·exact ⟨_,a2,A.at v (by omega),rfl,by omega,C++[i],⟨by simp;omega,List.pairwise_append.mpr ⟨N,List.pairwise_singleton _ _,fun a ha b ao=>by rw [cF.mp ao];exact H a ha⟩,fun x hx=>by
      rcases aE.mp hx with z|z
      ·have:=H x z;omega
      ·rw[cF.mp z];omega⟩,by rw[w];simp[nmD]⟩
    ·exact⟨_,a2,A.at v (by omega),O,by omega,C,⟨by omega,N,λx hx=>by have:=H x hx;omega⟩,w⟩
   ·rintro ys r S ⟨x,G,v,rfl,hi,C,⟨hal,I⟩,w⟩;rw[bI,ej]at *
    rw[a0]at w;subst w;walk_at"w";refine⟨di (by rw[eQ];omega),?_⟩;refine eJ (xs:=nmD C) (by rw[dh];rfl) ?_;refine⟨C,⟨by omega,I⟩,(G.app λo h=>by simp at h;subst h;rw[Ob.und];exact dI (fK _)).more (by omega),?_,O⟩;rw[gL1 (gE1.mp v).1];exact v
  ·exact⟨[],⟨by simp,.nil,λx hx=>(cE hx).elim⟩,a1.more (by omega),T,O⟩
 rintro r V ⟨C,⟨hC,hCr⟩,s4,T,rfl⟩;have u:lc (.ref b) V=Z (.ref V.length,V++[.lst ((fe (R.map Int.ofNat)).map D.int)]):=by
  simp only[lc,T,sr,oS1];rw[ak (by rw[lM1];omega)]
 have en:(fe (R.map Int.ofNat)).map D.int=nmD ((fe (R.map Int.ofNat)).map Int.toNat):=by
  unfold nmD;rw[bu];refine cq λi hi=>?_;obtain⟨x,_,rfl⟩:=b0.mp ((eb _).mem_iff.mp hi);rfl
 rw[en]at u;have el:((fe (R.map Int.ofNat)).map Int.toNat).length=R.length:=by rw[lM1,(eb _).length_eq,lM1]
 have hRr:=yg e.1 e.2;generalize (fe (R.map Int.ofNat)).map Int.toNat=R' at *
 ((try walk_at"w");repeat(simp only[u];try walk_at"w"))
 refine eJ (xs:=nmD R') (by rw[dh];rfl) ?_;walk_at"w";refine⟨(s4.app λo h=>by simp at h;subst h;rw[Ob.und];exact dI (fK _)).more (by omega),?_,λU' a b l=>q R' C U' (by omega) hC ⟨by omega,hRr,hCr⟩ a b (by rw[l,ao])⟩;rw[D.und,D.unds,D.unds,D.und,D.und,fK,fK];rfl
theorem hZ{xs:List D}:(∀x∈xs,x.und 0=M)->D.unds 0 xs=M:=by
 induction xs with
 |nil=>intro _;rfl
 |cons x xs ih=>intro h;rw[D.unds,h x mS1,ih λy a=>h y (mC1 _ a)];rfl
theorem nX{n k l:Nat}{ws:List D}{B U:Sto}{Q:D×Sto->Prop}(s:HZ n B U)(hn:n<=2^38)(hk:0<k)(hw:U[k]? = Z (.lst ws))(C:∀ x∈ws,x.und 0=M)(P:ws.length<=10)(aq:0<ws.length)(A:l<=1)(q:∀ys V,(ys.Sublist ws/\l<=ys.length)->ys.length<=10->HZ (n+12) B V->HZ (n+12) U V->V.length=U.length->Q (.tup ys,V)):W (db 3 eV [.ref 0,.ref k,.int (l:Nat)] U) Q:=by
 refine sL (c':=n+12) O O s ?_;have N:=s.self;unfold eV;refine ib ?_;unfold kw;refine eu (λr S=>∃(ys:List D) (j:Nat),ys.Sublist ws/\ys.length<=10/\HZ (n+10) U S/\S[k]?=Z (.lst ws)/\S[j]?=Z (.lst ys)/\r=[Z (.ref 0),Z (.ref k),Z (.int (l:Nat)),Z (.ref j)]) ?_ ?_
 ·walk_at"w";refine eJ hw ?_;refine jS (λi e r S=>∃x,HZ (n+i) U S/\S[k]?=Z (.lst ws)/\r=[x,Z (.ref 0)]/\i<=ws.length/\e.length<=i/\e.Sublist (ws.take i)) ws 0 [] _ _ ⟨Y,N,hw,O,by omega,by simp,.refl _⟩ ?_ ?_ ?_
  ·rintro i e r S ⟨x,_,h,_⟩;exact h9 h
  ·rintro i d I e r S ⟨x,w,h,rfl,hi,v,c⟩;have E:=(gE1.mp I).1;rw[bI]at *
   walk_at"w";refine eU w (by omega) (by decide) (by decide) λX T a2 u R L=>?_;walk_at"w";split
   ·refine⟨_,a2,u.at h hk,O,by omega,by simp;omega,?_⟩;rw[cb,I];exact c.append (.refl _)
   ·exact⟨_,a2,u.at h hk,O,by omega,by omega,c.trans (by rw[cb];exact List.sublist_append_left _ _)⟩
  ·rintro ys r S ⟨x,w,h,rfl,hi,v,c⟩;rw[a0,bI]at *
   rw[bR]at c;walk_at"w";refine⟨di (by omega),ys,S.length,c,by omega,(w.app λo t=>by simp at t;subst t;rw[Ob.und];exact dI (hZ λy p=>C y (c.subset p))).more (by omega),?_,by rw[dh];rfl,O⟩;rw[gL1 (gE1.mp h).1];exact h
 rintro r S ⟨ys,j,f,g,G,H,F,rfl⟩;refine eu (λr S=>∃(ys:List D) (j:Nat),(ys.Sublist ws/\l<=ys.length)/\ys.length<=10/\HZ (n+12) U S/\S[j]?=Z (.lst ys)/\r=[Z (.ref 0),Z (.ref k),Z (.int (l:Nat)),Z (.ref j)]) ?_ ?_
 ·walk_at"w";refine eJ F ?_;walk_at"w";split
  ·refine eJ H ?_;walk_at"w";refine eU G (by omega) (by omega) (by omega) λi V a ar l hi=>?_;have m:i<ws.length:=by omega
   refine gp (i:=i) (ar.at H hk) (gG1 m) ?_;walk_at"w";refine⟨[ws[i]],V.length,⟨List.singleton_sublist.mpr (bN m),by simpa using A⟩,by simp,(a.app λo t=>by simp at t;subst t;rw[Ob.und];exact dI (hZ λy p=>by simp at p;subst p;exact C _ (bN m))).more (by omega),by rw[dh];rfl,O⟩
  ·rename_i z;exact⟨ys,j,⟨f,by simp at z;omega⟩,g,G.more (by omega),F,O⟩
 rintro r S ⟨ys,j,f,g,am,K,rfl⟩;walk_at"w";refine eJ K ?_;exact⟨am,by rw[D.und];exact hZ λy p=>C y (f.1.subset p),λao a b l=>q ys ao f g a b l⟩
abbrev wb:=dL×List Nat×List Nat
def fD(x:wb):D:=.tup [dW x.1,.tup [.tup (nmD x.2.1),.tup (nmD x.2.2)]]
def Jx(x:wb):Prop:=(WP x.1/\Con x.1)/\(x.2.1.length<=8/\x.2.2.length<=8)/\0<x.2.1.length/\Ris x.1.length x.2.1/\Ris x.1.length x.2.2
theorem ux(n:Nat)(x:wb):(fD x).und n=M:=by
 unfold fD;simp only[D.und,D.unds,kx,dI (fK _),Bool.and_self]
def eD(fs:List wb)(ey hs ss:List D)(mo ch be:Nat):D:=.tup [.tup (fs.map fD),.tup ey,.tup hs,.tup ss,.int (mo:Nat),.int (ch:Nat),.int (be:Nat)]
def wEy:List D:=[.str "came",.str "chalk",.str "doors",.str "others"]
def wHa:List D:=[.str "leave",.str "mark",.str "wipe"]
def wSt:List D:=[.non,.int 0,.int 1,.int 2,.int 3]
structure JU (fs:List wb)(ey hs ss:List D)(mo ch be:Nat):Prop where
 f0:0<fs.length
 f6:fs.length<=6
 f:∀x∈fs,Jx x
 e:ey.Sublist wEy
 el:ey.length<=10
 h:hs.Sublist wHa/\1<=hs.length
 hl:hs.length<=10
 s:ss.Sublist wSt/\1<=ss.length
 sl:ss.length<=10
 m0:0<mo
 m3:mo<=3
 c8:ch<=8
 b40:be<=40
theorem z8{n km:Nat}{B U:Sto}{Q:D×Sto->Prop}(s:HZ n B U)(hn:n<=2^37)(hk0:0<km)(hm8:km<=8)(q:∀(fs:List wb) (f hs j:List D) (E ch K:Nat) V,JU fs f hs j E ch K->HZ (n+2000) B V->HZ (n+2000) U V->V.length=U.length->Q (eD fs f hs j E ch K,V)):W (db 2 fP [.ref 0,.int (km:Nat)] U) Q:=by
 have hpos:=s.pos;have hbl:=s.len;refine sL (c':=n+2000) O O s ?_;have s0:=s.self;unfold fP;refine ib ?_;unfold ku;generalize hb:U.length=b;refine eu (λr S=>HZ n U S/\S[b]?=Z (.lst [])/\r=[Z (.ref 0),Z (.int (km:Nat)),Z (.ref b),Y,Y,Y,Y,Y,Y]) ?_ ?_
 ·walk_at"w";exact⟨s0.app λo am=>by simp at am;subst am;rfl,by rw[<- hb,dh];rfl,by rw[hb]⟩
 rintro r S ⟨s1,b1,rfl⟩;refine eu (λr S=>∃(fs:List wb) (p F:Option D),0<fs.length/\fs.length<=6/\(∀x∈fs,Jx x)/\HZ (n+1001) U S/\S[b]?=Z (.lst (fs.map fD))/\r=[Z (.ref 0),Z (.int (km:Nat)),Z (.ref b),p,F,Y,Y,Y,Y]) ?_ ?_
 ·walk_at"w";have s2:HZ n U (S++[.lst (nmD [1,2,1,3,2,1,3,6])]):=s1.app λo am=>by simp at am;subst am;rw[Ob.und];exact dI (fK _)
  have e4:Ob.lst [D.int 1,D.int 2,D.int 1,D.int 3,D.int 2,D.int 1,D.int 3,D.int 6] = .lst (nmD [1,2,1,3,2,1,3,6]):=rfl;rw[e4];refine eU s2 (by omega) (by decide) (by decide) λk U1 a1 I l1 hk=>?_;have hk8:k<([1,2,1,3,2,1,3,6]:List Nat).length:=by simp;omega
  have L:=s1.len;have hat:U1[S.length]?=Z (.lst (nmD [1,2,1,3,2,1,3,6])):=I.at (by rw[dh];rfl) (by omega);have hb1:U1[b]?=Z (.lst []):=I.at (by rw[gL1 (gE1.mp b1).1];exact b1) (by omega);refine gp (i:=k) hat (jc hk8) ?_;have hv:0<[1,2,1,3,2,1,3,6][k]/\[1,2,1,3,2,1,3,6][k]<=6:=by
   have:=bN hk8;simp only[aD,cE,or_false]at this;omega
  generalize [1,2,1,3,2,1,3,6][k]=t at hv;walk_at"w";refine⟨fF (by omega),?_⟩;rw[Int.toNat_natCast];refine fR (λi r S=>∃(fs:List wb) (p F:Option D),i<=t/\fs.length=i/\(∀x∈fs,Jx x)/\HZ (n+1+150*i) U S/\S[b]?=Z (.lst (fs.map fD))/\r=[Z (.ref 0),Z (.int (km:Nat)),Z (.ref b),p,F,Y,Y,Y,Y]) _ 0 _ _ ⟨[],_,_,by omega,O,λx X=>(by cases X),a1,hb1,O⟩ (λ_ _ _ _=>rfl) ?_ ?_
  ·rintro i d hd r S ⟨fs,p,F,hi,H,g,sS,bS,rfl⟩;have P:=(gE1.mp hd).1;rw[ej]at P;rw[bI]at *
   walk_at"w";unfold i9;refine eu (λr V=>∃w:dL,0<w.length/\w.length<=8/\(WP w/\Con w)/\HZ (n+1+150*i+110) U V/\V[b]?=Z (.lst (fs.map fD))/\r=[Z (.ref 0),Z (.int (km:Nat)),Z (.ref b),Z d,Z (dW w),Y,Y,Y,Y]) ?_ ?_
   ·walk_at"w";refine HG sS (by omega) hk0 hm8 λw V h1 h2 h3 a A l=>?_;exact⟨w,h1,h2,h3,a,A.at bS (by omega),O⟩
   rintro r V ⟨w,h1,h2,h3,sV,bV,rfl⟩;walk_at"w";refine oi ?_;walk_at"w";refine⟨b,fs.map fD,O,bV,?_⟩;refine Bq (m:=w.length) (xs:=w.map dR) sV (by omega) (unds_map (tK 0) w) (by simp) h1 h2 λR C V1 hR hC hRC a A l=>?_;walk_at"w";refine(sU (A.at bV (by omega))).mpr ⟨di (by rw[lM1];omega),?_⟩;have ef:fs.map fD++[D.tup [dW w,.tup [.tup (nmD R),.tup (nmD C)]]]=(fs++[((w,R,C):wb)]).map fD:=by rw[ca];rfl
   rw[ef];refine⟨fs++[(w,R,C)],_,_,by omega,by simp[H],λx X=>?_,(a.set (by omega) (by rw[Ob.und];exact unds_map (ux _) _)).more (by omega),aG (gE1.mp (A.at bV (by omega))).1,O⟩;rcases aE.mp X with z|z
   ·exact g x z
   ·simp at z;subst z;exact⟨h3,⟨hR,hC⟩,hRC⟩
  ·rintro r S ⟨fs,p,F,hi,H,g,sS,bS,rfl⟩;rw[ej,bI]at *
   exact⟨O,fs,_,_,by omega,by omega,g,sS.more (by omega),bS,O⟩
 rintro r S ⟨fs,p,F,hf0,H,g,s2,b2,rfl⟩;have e:∀{n':Nat} {S:Sto} (ws:List D),HZ n' U S->(∀x∈ws,x.und 0=M)->HZ n' U (S++[.lst ws]):=λws h G=>h.app λo am=>by simp at am;subst am;rw[Ob.und];exact dI (hZ G)
 refine eu (λr S=>∃f,f.Sublist wEy/\f.length<=10/\HZ (n+1020) U S/\S[b]?=Z (.lst (fs.map fD))/\r=[Z (.ref 0),Z (.int (km:Nat)),Z (.ref b),p,F,Z (.tup f),Y,Y,Y]) ?_ ?_
 ·walk_at"w";have G:∀x∈[D.str "came",D.str "chalk",D.str "doors",D.str "others"],x.und 0=M:=by simp[D.und]
  have L:=s2.len;refine nX (l:=0) (e _ s2 G) (by omega) (by omega) (by rw[dh];rfl) G (by simp) (by simp) (by decide) λys V h1 h2 a A l=>?_;walk_at"w";exact⟨ys,h1.1,h2,a.more (by omega),A.at (by rw[gL1 (gE1.mp b2).1];exact b2) (by omega),O⟩
 rintro r S ⟨f,wq,hel,s3,b3,rfl⟩;refine eu (λr S=>∃hs,(hs.Sublist [D.str "leave",.str "mark",.str "wipe"]/\1<=hs.length)/\hs.length<=10/\HZ (n+1040) U S/\S[b]?=Z (.lst (fs.map fD))/\r=[Z (.ref 0),Z (.int (km:Nat)),Z (.ref b),p,F,Z (.tup f),Z (.tup hs),Y,Y]) ?_ ?_
 ·walk_at"w";have G:∀x∈[D.str "leave",D.str "mark",D.str "wipe"],x.und 0=M:=by simp[D.und]
  have L:=s3.len;refine nX (l:=1) (e _ s3 G) (by omega) (by omega) (by rw[dh];rfl) G (by simp) (by simp) (by decide) λys V h1 h2 a A l=>?_;walk_at"w";exact⟨ys,h1,h2,a.more (by omega),A.at (by rw[gL1 (gE1.mp b3).1];exact b3) (by omega),O⟩
 rintro r S ⟨hs,T,hhl,s4,b4,rfl⟩;refine eu (λr S=>∃j,(j.Sublist [D.non,.int 0,.int 1,.int 2,.int 3]/\1<=j.length)/\j.length<=10/\HZ (n+1060) U S/\S[b]?=Z (.lst (fs.map fD))/\r=[Z (.ref 0),Z (.int (km:Nat)),Z (.ref b),p,F,Z (.tup f),Z (.tup hs),Z (.tup j),Y]) ?_ ?_
 ·walk_at"w";have G:∀x∈[D.non,D.int 0,D.int 1,D.int 2,D.int 3],x.und 0=M:=by simp[D.und]
  have L:=s4.len;refine nX (l:=1) (e _ s4 G) (by omega) (by omega) (by rw[dh];rfl) G (by simp) (by simp) (by decide) λys V h1 h2 a A l=>?_;walk_at"w";exact⟨ys,h1,h2,a.more (by omega),A.at (by rw[gL1 (gE1.mp b4).1];exact b4) (by omega),O⟩
 rintro r S ⟨j,ar,hsl,s5,b5,rfl⟩;refine eu (λr S=>∃E ch K:Nat,(0<E/\E<=3/\ch<=8/\K<=40)/\HZ (n+1070) U S/\S[b]?=Z (.lst (fs.map fD))/\r=[Z (.ref 0),Z (.int (km:Nat)),Z (.ref b),p,F,Z (.tup f),Z (.tup hs),Z (.tup j),Z (.tup [.int (E:Nat),.int (ch:Nat),.int (K:Nat)])]) ?_ ?_
 ·walk_at"w";refine eU s5 (by omega) (by decide) (by decide) λE V1 a1 I l1 h1=>?_;walk_at"w";refine eU a1 (by omega) (by decide) (by decide) λch V2 a2 a2' l2 h2=>?_;refine eU a2 (by omega) (by decide) (by decide) λu V3 a3 a3' l3 h3=>?_;refine eU a3 (by omega) (by decide) (by decide) λv V4 a4 a4' l4 h4=>?_;walk_at"w";have e2:Ob.lst [D.int (u:Nat),D.int (v:Nat)] = .lst (nmD [u,v]):=rfl;rw[e2];have hVl:=a4.len;have a5:=e (nmD [u,v]) a4 λx X=>by obtain⟨i,_,rfl⟩:=b0.mp X;rfl
  refine eU a5 (by omega) (by decide) (by decide) λw V5 a6 ao l6 h6=>?_;have aq:w<([u,v]:List Nat).length:=by simp;omega
  refine gp (i:=w) (ao.at (by rw[dh];rfl) (by omega)) (jc aq) ?_;walk_at"w";refine⟨E+1,ch,[u,v][w],⟨by omega,by omega,by omega,?_⟩,a6.more (by omega),?_,by simp[Int.add_comm]⟩
  ·have:=bN aq;simp only[aD,cE,or_false]at this;omega
  refine ao.at ?_ (by omega);have:=a4'.at (a3'.at (a2'.at (I.at b5 (by omega)) (by omega)) (by omega)) (by omega);rw[gL1 (gE1.mp this).1];exact this
 rintro r S ⟨E,ch,K,⟨m0,m3,c8,b40⟩,s6,b6,rfl⟩;walk_at"w";refine eJ b6 ?_;walk_at"w";have hh:D.unds 0 hs=M:=hZ λy N=>by
  have:=T.1.subset N;simp only[aD,cE,or_false]at this;rcases this with z|z|z<;>rw[z]<;>rfl
 have hsu:D.unds 0 j=M:=hZ λy N=>by
  have:=ar.1.subset N;simp only[aD,cE,or_false]at this;rcases this with z|z|z|z|z<;>rw[z]<;>rfl
 have heu:D.unds 0 f=M:=hZ λy N=>by
  have:=wq.subset N;simp only[wEy,aD,cE,or_false]at this;rcases this with z|z|z|z<;>rw[z]<;>rfl
 refine⟨s6.more (by omega),?_,λU' a c l=>q fs f hs j E ch K U' ⟨hf0,H,g,wq,hel,T,hhl,ar,hsl,m0,m3,c8,b40⟩ a c (by rw[l,hb])⟩;simp only[D.und,D.unds,unds_map (ux 0),heu,hh,hsu,bH,Bool.and_self]
theorem r9{c:List (Nat×List D)}{g:FG}{b:FS}{Q:Fl×Ev×Sto->Prop}(I:Nat->Ev->Sto->Prop):∀ (items:List D) (k:Nat) (r:Ev) (S:Sto),I k r S ->
  (∀i r S,I i r S->q9 S c=M) ->
  (∀i d,items[i]?=Z d -> ∀r S,I (k+i) r S->W (g d r S) λp=>W (b p.1 p.2) λq=>(q.1 = .nx/\I (k+i+1) q.2.1 q.2.2)\/(∃v,q.1 = .rt v/\Q (.rt v,q.2))\/(q.1 = .bk/\Q (.nx,q.2))) ->
  (∀r S,I (k+items.length) r S->Q (.nx,r,S))->W (jd c g b items r S) Q:=by
 intro items
 induction items with
 |nil=>intro k r S hi a _ l;rw[jd];dsimp only;rw[ak (a _ _ _ hi),dv];exact l r S (by simpa using hi)
 |cons d ds ih=>
  intro k r S hi a m l;rw[jd];dsimp only;rw[ak (a _ _ _ hi),dk];obtain⟨p,o,⟨f,s,n⟩,t,h⟩:=m 0 d O r S (by simpa using hi);refine⟨p,o,?_⟩;dsimp only;rw[dk];refine⟨_,t,?_⟩;dsimp only at h ⊢;rcases h with⟨rfl,e⟩|⟨v,rfl,j⟩|⟨rfl,j⟩
  ·exact ih (k+1) s n e a (fun i d u r S e=>by
    have:=m (i+1) d u r S (by rw[show k+(i+1)=k+1+i by lia];exact e);rw[show k+(i+1)+1=k+1+i+1 by lia]at this;exact this) λr S e=>l r S (by rw[lC1,show k+(ds.length+1)=k+1+ds.length by lia];exact e)
  ·exact dv.mpr j
  ·exact dv.mpr j
theorem DJ{a b:FS}{r:Ev}{S:Sto}{Q:Fl×Ev×Sto->Prop}(h:W (a r S) λp=>(p.1 = .nx/\W (b p.2.1 p.2.2) Q) \/ ∃v,p.1 = .rt v/\Q (.rt v,p.2)):W (dq a b r S) Q:=by
 obtain⟨⟨f,c,d⟩,e,h⟩:=h;unfold dq;rw[e];dsimp only at h;rcases h with⟨rfl,h⟩|⟨v,rfl,h⟩
 ·exact h
 ·exact dv.mpr h
theorem DZ{α:Type}{c:List (Nat×List D)}{g:FG}{t:FT}{b:FV}{S:Sto}{f:α->D}{Q:List D×Ev×Sto->Prop}(F:α->List D)(P:Ev->Prop)(d:q9 S c=true):∀ (xs:List α) (r:Ev),P r ->
  (∀a∈xs,∀r,P r->W (g (f a) r S) λp=>W (t p.1 p.2) λk=>k.1=M/\W (b p.1 k.2) λx=>x.1=F a/\x.2.2=S/\P x.2.1) ->
  (∀e,P e->Q (xs.flatMap F,e,S))->W (fz c g t b (xs.map f) r S) Q
 |[],r,hr,_,h=>by rw[ba,fz];dsimp only;rw[ak d,dv];exact h r hr
 |a::xs,r,hr,hs,h=>by
  rw[mP1,fz];dsimp only;rw[ak d,dk];obtain⟨p,j,⟨k,u,n,⟨x,s,o,l,m⟩⟩⟩:=hs a mS1 r hr;refine⟨p,j,?_⟩;dsimp only;rw[dk];refine⟨k,u,?_⟩;dsimp only;rw[ak n,dk];refine⟨x,s,?_⟩;dsimp only;rw[l,jM];refine DZ F P d xs x.2.1 m (λa q=>hs a (mC1 _ q)) λe i=>?_;have:=h e i;rw[List.flatMap_cons,<- o]at this;exact this
theorem Dw{m:FI}{g:FG}{t:FT}{b:FV}{r:Ev}{S:Sto}{Q:List D×Ev×Sto->Prop}:W (sC m g t b r S) Q↔W (m r S) λp=>W (fz p.1.chk g t b p.1.items r p.2) Q:=by
 unfold sC;rw[dk]
theorem v8{f g:FN}{a b c:FE}{r:Ev}{S:Sto}{Q:D×Sto->Prop}:W (me f g a b c r S) Q↔W (a r S) λp=>W (b r p.2) λq=>W (f [p.1,q.1] q.2) λt=>W (match t.1 with | .bl k=>if k=true then(c r t.2).bind λz=>g [q.1,z.1] z.2 else some (.bl false,t.2)|_=>none) Q:=by
 unfold me;simp only[dk]
 try exact Iff.rfl
theorem x3{α:Type}{f:α->Nat}{k:Nat}:∀{l:List α},(∀x∈l,f x<=k)->(l.map f).sum<=k*l.length
 |[],_=>by simp
 |x::l,h=>by
  have h1:=h x mS1;have h2:=x3 (l:=l) λy a=>h y (mC1 _ a);rw[mP1,List.sum_cons,lC1,Nat.mul_add];lia
open Classical in
def tf(P:Prop):Bool:=decide P
theorem iP{P:Prop}:tf P=M↔P:=by unfold tf;exact @decide_eq_true_iff P (Classical.propDecidable P)
theorem kM{P:Prop}(h:P):tf P=M:=iP.mpr h
theorem m7{P:Prop}{b:Bool}(h:b=M↔P):b=tf P:=by rw[bL,iP];exact h
theorem gM{P:Prop}(h:¬ P):tf P=J:=(m7 ⟨λz=>(by cases z),λz=>(h z).elim⟩).symm
theorem ow{P Q:Prop}(h:P↔Q):tf P=tf Q:=m7 (iP.trans h)
abbrev RZ:=List (List (Int×Int))
def zP(p:Int×Int):D:=.tup [.int p.1,.int p.2]
def zR(r:List (Int×Int)):D:=.tup (r.map zP)
def zW(w:RZ):D:=.tup (w.map zR)
theorem Ep(n:Nat)(p:Int×Int):(zP p).und n=M:=rfl
theorem xI(n:Nat)(r:List (Int×Int)):(zR r).und n=M:=by unfold zR;rw[D.und];exact Law.unds_map (Ep n) r
theorem pG(n:Nat)(w:RZ):(zW w).und n=M:=by unfold zW;rw[D.und];exact Law.unds_map (xI n) w
def up(p:Nat×Nat):Int×Int:=(p.1,p.2)
def pF(w:dL):RZ:=w.map λr=>r.map up
theorem tI{a b:Nat×Nat}(h:up a=up b):a=b:=by
 obtain⟨a1,a2⟩:=a;obtain⟨b1,b2⟩:=b;injection h with h1 h2;exact Prod.ext (by dsimp only;lia) (by dsimp only;lia)
theorem vV(w:dL):zW (pF w)=dW w:=by
 unfold zW pF dW;rw[bu];refine congrArg D.tup (cq λr _=>?_);show zR (r.map up)=dR r;unfold zR dR;rw[bu];exact congrArg D.tup (cq λp _=>rfl)
def AtZ(w:RZ)(r d:Nat)(p:Int×Int):Prop:=∃row,w[r]?=Z row/\row[d]?=Z p
theorem AtZ.det{w:RZ}{r d:Nat}{p q:Int×Int}(h:AtZ w r d p)(h':AtZ w r d q):p=q:=by
 obtain⟨e,h1,h2⟩:=h;obtain⟨c,a,b⟩:=h';rw[h1]at a;cases a;rw[h2]at b;cases b;rfl
theorem vZ{w:dL}{r d:Nat}{p:Int×Int}:AtZ (pF w) r d p ↔ ∃q,At w r d q/\p=up q:=by
 unfold AtZ At pF;rw[gP1];constructor
 ·rintro⟨a,h1,h2⟩;obtain⟨b,c,rfl⟩:=oM1.mp h1;rw[gP1]at h2;obtain⟨q,e,rfl⟩:=oM1.mp h2;exact⟨q,⟨b,c,e⟩,O⟩
 ·rintro⟨q,⟨a,h1,h2⟩,rfl⟩;exact⟨a.map up,by rw[h1];rfl,by rw[gP1,h2];rfl⟩
def my(w:RZ):Prop:=1<=w.length/\w.length<=8 /\ ∀row∈w,row.length<=4
def Ht(w:RZ)(r d:Nat)(p:Int×Int):Prop:=p≠((r:Int),(d:Int))/\0<=p.1/\0<=p.2/\AtZ w p.1.toNat p.2.toNat ((r:Int),(d:Int))
def pz(w:RZ):Prop:=∀r d p,AtZ w r d p->Ht w r d p
theorem At.lt{w:dL}{r d:Nat}{p:Nat×Nat}(h:At w r d p):r<w.length:=by
 obtain⟨a,h1,_⟩:=h;exact(gE1.mp h1).1
theorem HF{w:RZ}(hf:my w)(hp:pz w):∃w',w=pF w'/\WP w':=by
 let w':dL:=w.map λr=>r.map λp=>(p.1.toNat,p.2.toNat)
 have e:w=pF w':=by
  refine bT λr=>?_;unfold pF;rw[gP1,gP1];cases hr:w[r]? with
  |none=>rfl
  |some a=>
   show Z a=Z ((a.map λp=>(p.1.toNat,p.2.toNat)).map up);refine congrArg Z (bT λd=>?_);rw[gP1,gP1];cases hd:a[d]? with
   |none=>rfl
   |some p=>
    obtain⟨_,h1,h2,_⟩:=hp r d p ⟨a,hr,hd⟩;show Z p=Z (up (p.1.toNat,p.2.toNat));refine congrArg Z (Prod.ext ?_ ?_)
    ·show p.1=((p.1.toNat:Nat):Int);lia
    ·show p.2=((p.2.toNat:Nat):Int);lia
 refine⟨w',e,?_⟩;generalize w'=v at e;subst e;have i:(pF v).length=v.length:=by unfold pF;rw[lM1]
 have b:∀r d p,At v r d p->p≠(r,d)/\At v p.1 p.2 (r,d):=λr d p h=>by
  obtain⟨h1,_,_,h2⟩:=hp r d (up p) (vZ.mpr ⟨p,h,O⟩);refine⟨λz=>h1 (by rw[z];rfl),?_⟩;obtain⟨q,c,k⟩:=vZ.mp h2;have:q=(r,d):=tI (by rw[<- k];rfl);rw[this]at c;have g:(up p).1.toNat=p.1:=Int.toNat_natCast _;have j:(up p).2.toNat=p.2:=Int.toNat_natCast _;rw[g,j]at c;exact c
 obtain⟨l,f,m⟩:=hf;rw[i]at l f;refine⟨by lia,f,λr a h=>?_,λr d p h=>(b r d p h).2,λr d p h=>(b r d p h).1⟩;have:=m (a.map up) (by unfold pF;exact b0.mpr ⟨a,gM1 h,O⟩)
 rwa [lM1]at this
theorem WP.form{w:dL}(h:WP w):my (pF w)/\pz (pF w):=by
 refine⟨⟨?_,?_,λb e=>?_⟩,λr d p c=>?_⟩
 ·unfold pF;rw[lM1];exact h.pos
 ·unfold pF;rw[lM1];exact h.few
 ·obtain⟨a,h1,rfl⟩:=b0.mp e;obtain⟨i,hi⟩:=bt h1;rw[lM1];exact h.le i a hi
 ·obtain⟨q,h1,rfl⟩:=vZ.mp c;refine⟨λz=>h.ne r d q h1 (tI z),by unfold up;lia,by unfold up;lia,?_⟩;rw[show(up q).1.toNat=q.1 from Int.toNat_natCast _,show(up q).2.toNat=q.2 from Int.toNat_natCast _];exact vZ.mpr ⟨_,h.back r d q h1,O⟩
theorem qm{w:RZ}{r:Nat}{row:List (Int×Int)}{S:Sto}(h:w[r]?=Z row):dm (zW w) (.int r) S=Z (zR row,S):=ix_tup (by rw[gP1,h];rfl)
theorem sj{row:List (Int×Int)}{i:Nat}{p:Int×Int}{S:Sto}(h:row[i]?=Z p):dm (zR row) (.int i) S=Z (zP p,S):=ix_tup (by rw[gP1,h];rfl)
theorem zw{row:List (Int×Int)}{S:Sto}:dZ (zR row) S=Z (.int row.length,S):=by simp[zR,dZ,dn]
theorem uj{w:RZ}{S:Sto}:dZ (zW w) S=Z (.int w.length,S):=by simp[zW,dZ,dn]
theorem GW{S:Sto}{n:Nat}{a b:Int×Int}:g6 S (n+2) (zP a) (zP b)=Z (tf (a=b)):=by
 obtain⟨a1,a2⟩:=a;obtain⟨b1,b2⟩:=b;rw[g6];have d:∀x y:Int,g6 S (n+1) (.int x) (.int y)=Z (x == y):=λx y=>rfl;have c:(a1 == b1&&a2 == b2)=tf ((a1,a2)=(b1,b2)):=m7 (by rw[bA1,beq_iff_eq,beq_iff_eq,Prod.mk.injEq]);rw[<- c];simp[zP,dn,wU,d]
theorem zT{a b:Int×Int}{S:Sto}:gEq (zP a) (zP b) S=Z (.bl (tf (a=b)),S):=by
 show(g6 S dX (zP a) (zP b)).map _=_;rw[show dX=58+2 from rfl,GW];rfl
theorem v4:∀{l:List D},(∀x∈l,∃b,x=D.bl b)->Mi.uG l=Z (tf (∀x∈l,x=D.bl M))
 |[],_=>by rw[kM (λx c=>by cases c)];rfl
 |x::l,h=>by
  obtain⟨b,rfl⟩:=h x mS1;rw[Mi.uG,v4 λy a=>h y (mC1 _ a)];refine congrArg Z (m7 ?_);rw[bA1,iP,List.forall_mem_cons];refine and_congr ?_ Iff.rfl;cases b<;>simp
theorem AV{n:Nat}{xs:List D}{S:Sto}{Q:D×Sto->Prop}(h:S[n]?=Z (.lst xs))(hx:∀x∈xs,∃b,x=D.bl b)(q:Q (.bl (tf (∀x∈xs,x=D.bl M)),S)):W (gl (.ref n) S) Q:=by
 refine W.of ?_ q;unfold gl;rw[ge h,oS1];dsimp only;rw[v4 hx];rfl
theorem dQ{T:Ty}{m:FE}{r:Ev}{S:Sto}{Q:D×Sto->Prop}:W (d7 T m r S) Q↔W (m r S) λp=>W (io p.2 T p.1) λb=>Q (.bl b,p.2):=by
 unfold d7;rw[dk];simp only[jM]
theorem nI{S:Sto}{T:Ty}{xs:List D}:io S T (.tup xs)=Z (decide (T = .tuple)):=rfl
theorem qz{a:Bool}:D.bl a=D.bl M↔a=M:=⟨λh=>(by injection h),λh=>(by rw[h])⟩
theorem wJ{row:List (Int×Int)}{S:Sto}{Q:D×Sto->Prop}(q:Q (.bl (tf (row.length<=4)),S)):W (db 1 gr [zR row] S) Q:=by
 refine jg O (by rw[D.unds,xI];rfl) ?_;unfold gr;refine ib ?_;unfold lQ;rw[show zR row = .tup (row.map zP)from rfl];by_cases c:row.length<=4
 ·rw[kM c]at q;refine eu (λr V=>V=[]/\r=[Z (.tup (row.map zP))]) ?_ ?_
  ·((try walk_at"w");repeat(simp only[dQ,nI];try walk_at"w"))
   simp only[decide_true,bW,fC];walk_at"w";rw[lM1,aj (by rw[al];lia)];walk_at"w"
  rintro r V ⟨rfl,rfl⟩;walk_at"w";refine fu.mpr ?_;refine nD (f:=zP) (λ_=>D.bl M) (λa=>∃x,a=[x]) O row _ ⟨_,O⟩ ?_ ?_
  ·rintro e _ a ⟨x,rfl⟩;have h1:db 2 dN [zP e,.int 2] []=Z (.bl M,[]):=rfl;have h2:∀i:Int,db 1 fg [.int i] []=Z (.bl M,[]):=λi=>rfl;have d:dm (zP e) (.int 0) []=Z (.int e.1,[]):=rfl;have g:dm (zP e) (.int 1) []=Z (.int e.2,[]):=rfl
   ((try walk_at"w");repeat(simp only[h1,h2,d,g];try walk_at"w"))
   exact⟨_,O⟩
  ·rintro a _;refine⟨di (by rw[lM1];lia),?_⟩;walk_at"w";refine AV O (λx b=>by obtain⟨_,_,rfl⟩:=b0.mp b;exact⟨_,O⟩) ?_;rw[kM λx b=>by obtain⟨_,_,rfl⟩:=b0.mp b;rfl];exact⟨O,q⟩
 ·rw[gM c]at q
  ((try walk_at"w");repeat(simp only[dQ,nI];try walk_at"w"))
  simp only[decide_true,bW,fC];walk_at"w";rw[lM1,ak (by rw[al];lia)];exact⟨O,q⟩
theorem C3{w:RZ}{S:Sto}{Q:D×Sto->Prop}(q:Q (.bl (tf (my w)),S)):W (db 1 fU [zW w] S) Q:=by
 refine jg O (by rw[D.unds,pG];rfl) ?_;unfold fU;refine ib ?_;unfold kC;rw[show zW w = .tup (w.map zR)from rfl];by_cases e:1<=w.length
 rotate_left
 ·rw[gM λh=>e h.1]at q
  ((try walk_at"w");repeat(simp only[dQ,nI,v8];try walk_at"w"))
  simp only[decide_true,bW,fi];walk_at"w";rw[lM1,ai (show¬ (1:Int)<=(w.length:Int) by lia)];walk_at"w";exact⟨O,q⟩
 by_cases d:w.length<=8
 rotate_left
 ·rw[gM λh=>d h.2.1]at q
  ((try walk_at"w");repeat(simp only[dQ,nI,v8];try walk_at"w"))
  simp only[decide_true,bW,fi];walk_at"w";rw[lM1,ah (show(1:Int)<=(w.length:Int) by lia)];walk_at"w";rw[ai (show¬ (w.length:Int)<=8 by lia)];walk_at"w";exact⟨O,q⟩
 refine eu (λr V=>V=[]/\r=[Z (.tup (w.map zR))]) ?_ ?_
 ·((try walk_at"w");repeat(simp only[dQ,nI,v8];try walk_at"w"))
  simp only[decide_true,bW,fi];walk_at"w";rw[lM1,ah (show(1:Int)<=(w.length:Int) by lia)];walk_at"w";rw[ah (show(w.length:Int)<=8 by lia)];walk_at"w"
 rintro r V ⟨rfl,rfl⟩;walk_at"w";refine fu.mpr ?_;refine nD (f:=zR) (λa=>D.bl (tf (a.length<=4))) (λc=>∃x,c=[x]) O w _ ⟨_,O⟩ ?_ ?_
 ·rintro a b c ⟨x,rfl⟩;walk_at"w";refine wJ ?_;exact⟨O,O,_,O⟩
 ·rintro c _;refine ⟨di (by rw [lM1];lia),?_⟩;walk_at"w";refine AV rfl (fun x g=>by obtain ⟨_,_,rfl⟩:=b0.mp g;exact ⟨_,rfl⟩) ?_;refine ⟨rfl,?_⟩;have:tf (∀ x∈w.map fun a=>D.bl (tf (a.length<=4)),x=D.bl true)=tf (my w):=ow (by
   rw[List.forall_mem_map];constructor
   ·exact λh=>⟨e,d,λa b=>iP.mp (qz.mp (h a b))⟩
   ·exact λh a b=>qz.mpr (iP.mpr (h.2.2 a b)))
  rw[this];exact q
theorem B0{w:RZ}{r d:Nat}{p:Int×Int}{S:Sto}{Q:D×Sto->Prop}(h:AtZ w r d p)(q:Q (.bl (tf (Ht w r d p)),S)):W (db 3 gG [zW w,.int r,.int d] S) Q:=by
 refine jg O (by rw[D.unds,pG,D.unds,D.unds,D.und,D.und];rfl) ?_;unfold gG;refine ib ?_;unfold mm;obtain⟨y,a1,a2⟩:=h;refine eu (λs V=>V=[]/\s=[Z (zW w),Z (.int r),Z (.int d),Z (.int p.1),Z (.int p.2)]) ?_ ?_
 ·((try walk_at"w");repeat(simp only[qm a1,sj a2];try walk_at"w"))
  unfold zP;walk_at"w"
 rintro s V ⟨rfl,rfl⟩;have v:gEq (.tup [.int p.1,.int p.2]) (.tup [.int r,.int d]) []=Z (.bl (tf (p=((r:Int),(d:Int)))),[]):=zT (a:=p) (b:=((r:Int),(d:Int)))
 ((try walk_at"w");repeat(simp only[v];try walk_at"w"))
 by_cases f:p=((r:Int),(d:Int))
 ·rw[gM (λh=>h.1 f)]at q;rw[kM f];walk_at"w";exact⟨O,q⟩
 rw[gM f]
 ((try walk_at"w");repeat(simp only[me,uj];try walk_at"w"))
 by_cases e:0<=p.1
 rotate_left
 ·rw[gM (λh=>e h.2.1)]at q;rw[ai e];walk_at"w";exact⟨O,q⟩
 rw[ah e]
 ((try walk_at"w");repeat(simp only[uj];try walk_at"w"))
 by_cases c3:p.1<(w.length:Int)
 rotate_left
 ·rw [gM (fun h=>by
   obtain⟨_,_,_,row2,b1,_⟩:=h;have:=(gE1.mp b1).1;lia)]at q
  rw[ai c3];walk_at"w";exact⟨O,q⟩
 rw[ah c3];obtain⟨k,x⟩:=Int.eq_ofNat_of_zero_le e;have m:k<w.length:=by lia
 obtain⟨row2,c⟩:∃row2,w[k]?=some row2:=⟨_,gG1 m⟩;have i:p.1.toNat=k:=by lia
 rw[x]
 ((try walk_at"w");repeat(simp only[me];try walk_at"w"))
 by_cases c4:0<=p.2
 rotate_left
 ·rw[gM (λh=>c4 h.2.2.1)]at q;rw[ai c4];walk_at"w";exact⟨O,q⟩
 rw[ah c4];have o:dm (zW w) (.int (k:Int)) []=Z (zR row2,[]):=qm c
 ((try walk_at"w");repeat(simp only[o,zw];try walk_at"w"))
 by_cases c5:p.2<(row2.length:Int)
 rotate_left
 ·rw [gM (fun h=>by
   obtain⟨_,_,_,t,b1,b2⟩:=h;rw[i,c]at b1;cases b1;have:=(gE1.mp b2).1;lia)]at q
  rw[ai c5];walk_at"w";exact⟨O,q⟩
 rw[ah c5];obtain⟨l,z⟩:=Int.eq_ofNat_of_zero_le c4;have j:l<row2.length:=by lia
 obtain⟨g,n⟩:∃g,row2[l]?=some g:=⟨_,gG1 j⟩;have u:p.2.toNat=l:=by lia
 rw[z];have A:gEq (zP g) (.tup [.int r,.int d]) []=Z (.bl (tf (g=((r:Int),(d:Int)))),[]):=zT (a:=g) (b:=((r:Int),(d:Int)));have B:dm (zR row2) (.int (l:Int)) []=Z (zP g,[]):=sj n
 ((try walk_at"w");repeat(simp only[o,B,A];try walk_at"w"))
 refine⟨O,?_⟩;have:tf (g=((r:Int),(d:Int)))=tf (Ht w r d p):=ow (by
  constructor
  ·rintro rfl;exact⟨f,e,c4,by rw[i,u];exact⟨row2,c,n⟩⟩
  ·rintro⟨_,_,_,h⟩;rw[i,u]at h;exact(AtZ.det ⟨row2,c,n⟩ h))
 rw[this];exact q
def rz(w:RZ)(r:Nat):List (Int×Int):=w[r]?.getD []
theorem CA{w:RZ}{S:Sto}{Q:D×Sto->Prop}(hf:my w)(q:Q (.bl (tf (pz w)),S)):W (db 1 gg [zW w] S) Q:=by
 obtain⟨z,v,o⟩:=hf;refine jg O (by rw[D.unds,pG];rfl) ?_;unfold gg;refine ib ?_;unfold lk
 ((try walk_at"w");repeat(simp only[uj];try walk_at"w"))
 rw[k6,Int.toNat_natCast];refine⟨fF (by lia),?_⟩;refine DZ (f:=λj:Nat=>D.int j) (λr=>(af (rz w r).length).map λd=>D.bl (tf (∀p,AtZ w r d p->Ht w r d p))) (λr=>∃s g,r=[s,g,Z (zW w)]) O (af w.length) _ ⟨_,_,O⟩ ?_ ?_
 ·rintro m l r ⟨s,g,rfl⟩;have l:=aA.mp l;obtain⟨row,a⟩:∃row,w[m]?=some row:=⟨_,gG1 l⟩;have y:=o row (gM1 a);have c:rz w m=row:=by unfold rz;rw[a];rfl
  ((try walk_at"w");repeat(simp only[Dw,qm a,zw];try walk_at"w"))
  rw[k6,Int.toNat_natCast,c];refine⟨fF (by lia),?_⟩;refine nD (f:=λj:Nat=>D.int j) (λd=>D.bl (tf (∀p,AtZ w m d p->Ht w m d p))) (λr=>∃g,r=[Z (.int (m:Nat)),g,Z (zW w)]) O (af row.length) _ ⟨_,O⟩ ?_ ?_
  ·rintro d n r ⟨g,rfl⟩;have n:=aA.mp n;have e:AtZ w m d row[d]:=⟨row,a,gG1 n⟩;walk_at"w";refine B0 e ?_;refine⟨congrArg D.bl (ow ⟨λh p i=>by rw[<- e.det i];exact h,λh=>h _ e⟩),O,_,O⟩
  ·rintro t ⟨g,rfl⟩;exact⟨O,O,_,_,O⟩
 ·rintro t _;have u:((List.range w.length).flatMap fun r=>(List.range (rz w r).length).map fun d=>D.bl (tf (∀ p,AtZ w r d p->Ht w r d p))).length<=1000:=by
   rw[List.length_flatMap];refine aB (x3 (k:=4) λx b=>?_) (show 4*_<=1000 by rw[cA];lia);rw[lM1,cA];have l:=aA.mp b;have a:w[x]?=Z w[x]:=gG1 l;unfold rz;rw[a];exact o _ (gM1 a)
  refine⟨di (aB u (by decide)),?_⟩;walk_at"w";refine AV O (λx b=>by
   obtain⟨r,_,b⟩:=List.mem_flatMap.mp b;obtain⟨_,_,rfl⟩:=b0.mp b;exact⟨_,O⟩) ?_
  refine⟨O,?_⟩;have:tf (∀x∈(af w.length).flatMap λr=>(af (rz w r).length).map λd=>D.bl (tf (∀p,AtZ w r d p->Ht w r d p)),x=D.bl M)=tf (pz w):=ow (by
   constructor
   ·intro h r d p i;obtain⟨row,h1,h2⟩:=i;have c:rz w r=row:=by unfold rz;rw[h1];rfl
    have:=h _ (List.mem_flatMap.mpr ⟨r,aA.mpr (gE1.mp h1).1,b0.mpr ⟨d,aA.mpr (by rw[c];exact(gE1.mp h2).1),O⟩⟩);exact iP.mp (qz.mp this) p ⟨row,h1,h2⟩
   ·intro h x b;obtain⟨r,_,b⟩:=List.mem_flatMap.mp b;obtain⟨d,_,rfl⟩:=b0.mp b;exact qz.mpr (iP.mpr λp i=>h r d p i))
  rw[this];exact q
theorem B9{xs:List Nat}{x:Nat}:nmD xs++[D.int (x:Int)]=nmD (xs++[x]):=by simp[nmD]
theorem EU{w:dL}{r:Nat}(hr:r<w.length):∃row,w[r]?=Z row:=⟨_,gG1 hr⟩
theorem Jk{w:dL}{r:Nat}{row:List (Nat×Nat)}{S:Sto}{Q:D×Sto->Prop}(h:w[r]?=Z row)(q:Q (.tup (row.map dP),S)):W (dm (dW w) (.int r) S) Q:=
 sR (i:=r) (x:=.tup (row.map dP)) (by rw[gP1,h];rfl) q
def dF(L:List (Nat×List Nat)):List (Key×D):=L.map λp=>(Sum.inl (p.1:Int),D.tup (nmD p.2))
def s9(L:List (Nat×List Nat)):Sto:=[.dct (dF L),.lst (nmD (L.map (·.1)))]
theorem mQ:∀{L:List (Nat×List Nat)} {p:Nat×List Nat},(L.map (·.1)).Nodup->p∈L->dB (dF L) (Sum.inl (p.1:Int))=Z (.tup (nmD p.2))
 |[],_,_,h=>by cases h
 |x::L,p,nd,h=>by
  rw[mP1,aL]at nd;unfold dF dB;rw[mP1,bb];rcases aD.mp h with z|z
  ·subst z;simp
  ·have a:x.1≠p.1:=λe=>nd.1 (by rw[e];exact b0.mpr ⟨p,z,O⟩);have:decide ((Sum.inl (x.1:Int):Key)=Sum.inl (p.1:Int))=J:=ai λe=>a (by injection e with e;lia);dsimp only;rw[this];exact mQ (L:=L) nd.2 z
theorem v2{L:List (Nat×List Nat)}{v:Nat}(h:v∉L.map (·.1)):((dF L).any λp=>decide (p.1=Sum.inl (v:Int)))=J:=by
 rw[cs];intro z;obtain⟨x,b,e⟩:=bM.mp z;obtain⟨p,a,rfl⟩:=b0.mp b;have e:=of_decide_eq_true e;dsimp only at e;injection e with e;exact h (b0.mpr ⟨p,a,by lia⟩)
theorem se{L:List (Nat×List Nat)}{v:Nat}(h:v∉L.map (·.1)):dB (dF L) (Sum.inl (v:Int))=Y:=by
 unfold dB;rw[Option.map_eq_none_iff,List.find?_eq_none];intro x a z;have:=v2 h;rw[cs]at this;exact this (bM.mpr ⟨x,a,z⟩)
theorem BE{L:List (Nat×List Nat)}{v:Nat}{ws:List Nat}(h:v∉L.map (·.1)):gE (dF L) (Sum.inl (v:Int)) (.tup (nmD ws))=dF (L++[(v,ws)]):=by
 unfold gE;rw[v2 h,aj (by decide)];unfold dF;rw[ca];rfl
theorem yR{S:Sto}{n v:Nat}{F:List (Key×D)}(h:S[n]?=Z (.dct F)):gk (.int (v:Nat)) (.ref n) S=Z (.bl (!(dB F (Sum.inl (v:Int))).isSome),S):=by
 simp only[gk,iX,h,oD,oP1]
theorem IT{S:Sto}{n v:Nat}{F:List (Key×D)}{d:D}(h:S[n]?=Z (.dct F))(a:dB F (Sum.inl (v:Int))=Z d):dm (.ref n) (.int (v:Nat)) S=Z (d,S):=by
 simp only[dm,mH,h,oD,oS1,a,oP1]
theorem EL{S:Sto}{n v:Nat}{F:List (Key×D)}{d:D}(h:S[n]?=Z (.dct F))(a:F≠[])(b:F.length<1000):fQ (.ref n) (.int (v:Nat)) d S=Z (.non,S.set n (.dct (gE F (Sum.inl (v:Int)) d))):=by
 cases F with
 |nil=>exact absurd O a
 |cons x F=>
  have h2:fQ (.ref n) (.int (v:Nat)) d S=jG (.ref n) (.int (v:Nat)) d S:=by simp only[fQ,h]
  rw[h2];simp only[jG,h,oD,oS1];rw[ak (bi b (by decide))]
structure BI (m:Nat)(w:dL)(L:List (Nat×List Nat))(a j:Nat):Prop where
 nd:(L.map (·.1)).Nodup
 inn:∀p∈L,p.1<m
 hd:0∈L.map (·.1)
 len:∀(i:Nat) (p:Nat×List Nat),L[i]?=some p->p.2.length<=i
 rch:∀P:Nat->Prop,P 0->(∀r d p,At w r d p->P r->P p.1) -> ∀p∈L,P p.1
 cl:∀(i d:Nat) (p:Nat×List Nat) (e:Nat×Nat),L[i]?=some p->At w p.1 d e->(i<a\/(i=a/\d<j))->e.1∈L.map (·.1)
theorem few:∀{N:Nat} {l:List Nat},l.Nodup->(∀x∈l,x<N)->l.length<=N
 |0,l,_,h=>by
  cases l with
  |nil=>simp
  |cons a l=>have:=h a mS1;lia
 |N+1,l,n,h=>by
  by_cases d:N∈l
  ·have h1:=few (N:=N) (l:=l.erase N) (n.erase N) fun x c=>by
    have b:=(List.Nodup.mem_erase_iff n).mp c;have:=h x b.2;have:=b.1;lia
   have:=List.length_erase_of_mem d;lia
  ·have:=few (N:=N) (l:=l) n fun x c=>by
    have h1:=h x c;have:x≠N:=λz=>d (z ▸ c);lia
   lia
theorem BI.few{m a j:Nat}{w:dL}{L:List (Nat×List Nat)}(b:BI m w L a j):L.length<=m:=by
 have:=Law.few b.nd (N:=m) λx d=>by
  obtain⟨p,c,rfl⟩:=b0.mp d;exact b.inn p c
 rwa [lM1]at this
theorem BI.old{m a j:Nat}{w:dL}{L:List (Nat×List Nat)}{k:Nat×List Nat}{e:Nat×Nat}(b:BI m w L a j)(n:L[a]?=Z k)(c:At w k.1 j e)(f:e.1∈L.map (·.1)):BI m w L a (j+1):=by
 refine⟨b.nd,b.inn,b.hd,b.len,b.rch,λi d p r h1 h2 t=>?_⟩;by_cases l:i=a/\d=j
 ·obtain⟨rfl,rfl⟩:=l;rw[n]at h1;cases h1;obtain⟨s,o,q⟩:=c
  obtain⟨r2,h,g⟩:=h2;rw[o]at h;cases h;rw[q]at g;cases g;exact f
 ·exact b.cl i d p r h1 h2 (by lia)
theorem BI.new{m a j:Nat}{w:dL}{L:List (Nat×List Nat)}{f:Nat×List Nat}{e:Nat×Nat}(b:BI m w L a j)(n:L[a]?=Z f)(g:At w f.1 j e)(hm:e.1<m)(r:e.1∉L.map (·.1)):BI m w (L++[(e.1,f.2++[j])]) a (j+1):=by
 have u:=(gE1.mp n).1;have k:∀x,x∈L.map (·.1)->x∈(L++[(e.1,f.2++[j])]).map (·.1):=λx o=>by rw[ca];exact aF _ o
 refine⟨?_,λp c=>?_,k 0 b.hd,λi p h=>?_,λP l hc p c=>?_,λi d p B h1 h2 G=>?_⟩
 ·rw[ca,bx];refine⟨b.nd,by simp,λx o y E z=>?_⟩;have:y=e.1:=by simpa using E
  exact r (by rw[<- this,<- z];exact o)
 ·rcases aE.mp c with c|c
  ·exact b.inn p c
  ·rw[cF]at c;subst c;exact hm
 ·by_cases q:i<L.length
  ·rw[gL1 q]at h;exact b.len i p h
  ·have:=(gE1.mp h).1;rw[lA1,aY]at this;have v:i=L.length:=by lia
   subst v;rw[List.getElem?_concat_length]at h;cases h;have:=b.len a f n;rw[lA1,aY];lia
 ·rcases aE.mp c with c|c
  ·exact b.rch P l hc p c
  ·rw[cF]at c;subst c;exact hc _ _ _ g (b.rch P l hc f (gM1 n))
 ·rw[gL1 (by lia)]at h1;by_cases C:i=a/\d=j
  ·obtain⟨rfl,rfl⟩:=C;rw[n]at h1;cases h1;obtain⟨F,A,D⟩:=g
   obtain⟨r2,t,s⟩:=h2;rw[A]at t;cases t;rw[D]at s;cases s;rw[ca];exact mA1 _ (by simp)
  ·exact k _ (b.cl i d p B h1 h2 (by lia))
theorem BI.all{a:Nat}{w:dL}{L:List (Nat×List Nat)}(b:BI w.length w L a 0)(ha:L.length<=a):(∀v,v<w.length->v∈L.map (·.1))↔Con w:=by
 constructor
 ·intro h P k hc v f;obtain⟨p,c,rfl⟩:=b0.mp (h v f);exact b.rch P k hc p c
 ·intro j;refine j (λv=>v∈L.map (·.1)) b.hd λr d e h1 h2=>?_;obtain⟨p,c,g⟩:=b0.mp h2;obtain⟨i,hi⟩:=bt c;exact b.cl i d p e hi (by rw[g];exact h1) (.inl (by have:=(gE1.mp hi).1;lia))
def oL:Option (List Nat)->D
 |none=>.non
 |some x=>.tup (nmD x)
theorem FX{n:Nat}:∀x,(oL x).und n=M
 |none=>rfl
 |some x=>by rw[oL,D.und];exact dI (fK _)
def Eo(ws:List (Option (List Nat))):D:=.tup (ws.map oL)
theorem En{w:dL}{S:Sto}{Q:D×Sto->Prop}(hw:WP w)(q:∀ws:List (Option (List Nat)),(Y∉ws↔Con w)->Q (Eo ws,S)):W (db 2 nE [dW w,.int 0] S) Q:=by
 refine jg O (by rw[D.unds,kx,D.unds,D.und];rfl) ?_;have aq:=hw.pos;have hm:=hw.few;unfold nE;refine ib ?_;unfold AJ;refine eu (λg V=>V=[.dct (dF [(0,[])])]/\g=[Z (dW w),Z (.int 0),Z (.ref 0),Y,Y,Y,Y,Y,Y]) ?_ ?_
 ·have e:zm [((mV 1),(d2 da))] [Z (dW w),Z (.int 0),Y,Y,Y,Y,Y,Y,Y] []=Z (.ref 0,[.dct (dF [(0,[])])]):=rfl
  ((try walk_at"w");repeat(simp only[e];try walk_at"w"))
 rintro g V ⟨rfl,rfl⟩;refine eu (λg V=>V=s9 [(0,[])]/\g=[Z (dW w),Z (.int 0),Z (.ref 0),Z (.ref 1),Y,Y,Y,Y,Y]) ?_ ?_
 ·walk_at"w";exact⟨O,trivial⟩
 rintro g V ⟨rfl,rfl⟩;refine eu (λg V=>V=s9 [(0,[])]/\g=[Z (dW w),Z (.int 0),Z (.ref 0),Z (.ref 1),Z (.int ((0:Nat):Int)),Y,Y,Y,Y]) ?_ ?_
 ·walk_at"w";rfl
 rintro g V ⟨rfl,rfl⟩;refine eu (λg V=>∃L a x4 ao K am I,BI w.length w L a 0/\L.length<=a/\V=s9 L/\g=[Z (dW w),Z (.int 0),Z (.ref 0),Z (.ref 1),x4,ao,K,am,I]) ?_ ?_
 ·refine xC (λk g V=>∃L ao K am I,BI w.length w L k 0/\V=s9 L/\g=[Z (dW w),Z (.int 0),Z (.ref 0),Z (.ref 1),Z (.int (k:Nat)),ao,K,am,I]) 8 ?_ 100000 0 _ _ (by lia) ⟨[(0,[])],_,_,_,_,⟨by simp,λp G=>by simp at G;subst G;exact aq,by simp,λi p h=>by cases i with|zero=>cases h;simp|succ i=>simp at h,λP T _ p G=>by simp at G;subst G;exact T,λi d p e _ _ h=>by lia⟩,O,O⟩;rintro k g V ⟨L,ao,K,am,I,b,rfl,rfl⟩;have hLf:=b.few;unfold rH;walk_at"w";refine eJ (xs:=nmD (L.map (·.1))) O ?_;walk_at"w";rw[eQ,lM1];by_cases U:k<L.length
  ·rw[ak (by rw[al];lia)];refine⟨by lia,?_⟩;obtain⟨r,T⟩:∃p,L[k]?=some p:=⟨_,gG1 U⟩;have wq:=b.inn r (gM1 T);obtain⟨s,o⟩:=EU wq;have hr4:=hw.le _ s o;unfold rG;refine eu (λg V=>V=s9 L/\g=[Z (dW w),Z (.int 0),Z (.ref 0),Z (.ref 1),Z (.int (k:Nat)),Z (.int (r.1:Nat)),K,am,I]) ?_ ?_
   ·walk_at"w";refine gp (i:=k) (xs:=nmD (L.map (·.1))) (x:=.int (r.1:Nat)) O (by rw[nmD,gP1,gP1,T];rfl) ?_;walk_at"w"
   rintro g V ⟨rfl,rfl⟩;refine eu (λg V=>∃l C B E,BI w.length w l k s.length/\l[k]?=Z r/\V=s9 l/\g=[Z (dW w),Z (.int 0),Z (.ref 0),Z (.ref 1),Z (.int (k:Nat)),Z (.int (r.1:Nat)),C,B,E]) ?_ ?_
   ·unfold gJ;rw[dk];refine Jr (xs:=s.map dP) ?_ ?_
    ·obtain⟨p,e,rfl⟩:=Jk (S:=s9 L) (Q:=λp=>p=(.tup (s.map dP),s9 L)) o O;simp only[c9,da,m2,b2,mV,gC1,cv,oS1,e]
    refine fR (λj g V=>∃l C B E,j<=s.length/\BI w.length w l k j/\l[k]?=Z r/\V=s9 l/\g=[Z (dW w),Z (.int 0),Z (.ref 0),Z (.ref 1),Z (.int (k:Nat)),Z (.int (r.1:Nat)),C,B,E]) _ 0 _ _ ⟨L,_,_,_,by lia,b,T,O,O⟩ (λ_ _ _ _=>rfl) ?_ ?_
    ·rintro j dd N g V ⟨l,C,B,E,hj,m,c,rfl,rfl⟩;rw[ig,gP1]at N;obtain⟨z,hz,rfl⟩:=oM1.mp N;obtain⟨goal,u,rfl⟩:=oM1.mp hz;have hjlt:=(gE1.mp u).1;rw[bI]at *
     have H:At w r.1 j goal:=⟨s,o,u⟩;have hLf':=m.few;have ar:=mQ m.nd (gM1 c);have X:l≠[]:=λz=>by rw[z]at c;simp at c
     unfold dP;walk_at"w";unfold rJ
     ((try walk_at"w");repeat(simp only[yR (S:=s9 l) (n:=0) (F:=dF l) O];try walk_at"w"))
     by_cases y:goal.1∈l.map (·.1)
     ·obtain⟨p',hp',e'⟩:=b0.mp y;have t:=mQ m.nd hp';rw[e']at t;rw[t,aj (by simp)];exact⟨l,_,_,_,by lia,m.old c H y,c,O,O⟩
     ·rw[se y,ak (by simp)]
      ((try walk_at"w");repeat(simp only[IT (S:=s9 l) (n:=0) (F:=dF l) O ar];try walk_at"w"))
      have hpl:r.2.length<=8:=by
       have h1:=m.len k r c;have h2:=(gE1.mp c).1;lia
      refine⟨di (by rw[eQ];lia),?_⟩;rw[B9]
      ((try walk_at"w");repeat(simp only[EL (S:=s9 l) (n:=0) (v:=goal.1) (F:=dF l) (d:=.tup (nmD (r.2++[j]))) O (by unfold dF;simpa using X) (by unfold dF;rw[lM1];lia)];try walk_at"w"))
      rw[BE y];refine oi ?_;walk_at"w";refine⟨1,nmD (l.map (·.1)),O,O,?_⟩;refine(sU (n:=1) (xs:=nmD (l.map (·.1))) O).mpr ⟨di (by rw[eQ,lM1];lia),?_⟩;refine⟨l++[(goal.1,r.2++[j])],_,_,_,by lia,m.new c H (hw.back _ _ _ H).lt y,by rw[gL1 (gE1.mp c).1];exact c,?_,O⟩;unfold s9;simp[nmD]
    ·rintro g V ⟨l,C,B,E,hj,m,c,rfl,rfl⟩;rw[ic,lM1,bI]at m;exact⟨O,l,_,_,_,m,c,O,O⟩
   rintro g V ⟨l,C,B,E,m,c,rfl,rfl⟩;refine W.of (x:=(.nx,[Z (dW w),Z (.int 0),Z (.ref 0),Z (.ref 1),Z (.int ((k+1:Nat):Int)),Z (.int (r.1:Nat)),C,B,E],s9 l)) O ?_;refine⟨O,l,_,_,_,_,⟨m.nd,m.inn,m.hd,m.len,m.rch,λi d p e h1 h2 h3=>m.cl i d p e h1 h2 ?_⟩,O,O⟩;rcases(show i<k\/i=k by lia)with h|rfl
   ·exact .inl h
   ·rw[c]at h1;cases h1;obtain⟨row',g1,g2⟩:=h2;rw[o]at g1;cases g1;exact .inr ⟨O,(gE1.mp g2).1⟩
  ·rw[aj (by rw[al];lia)];exact⟨L,k,_,_,_,_,_,b,by lia,O,O⟩
 rintro g V ⟨L,a,x4,ao,K,am,I,b,ha,rfl,rfl⟩;have R:∀v:Nat,∃x:Option (List Nat),(dB (dF L) (Sum.inl (v:Int))).getD .non=oL x/\(x=Y↔v∉L.map (·.1)):=λv=>by
  by_cases A:v∈L.map (·.1)
  ·obtain⟨p,G,e⟩:=b0.mp A;have h1:=mQ b.nd G;rw[e]at h1;exact⟨Z p.2,by rw[h1];rfl,⟨λz=>(by cases z),λz=>(z A).elim⟩⟩
  ·exact⟨Y,by rw[se A];rfl,⟨λ_=>A,λ_=>rfl⟩⟩
 obtain⟨f,hf⟩:=Classical.axiomOfChoice R
 ((try walk_at"w");repeat(simp only[zx];try walk_at"w"))
 refine⟨fF (by lia),?_⟩;rw[k6,Int.toNat_natCast];refine nD (f:=λj:Nat=>D.int j) (λv=>oL (f v)) (λg=>∃x,g=[x,Z (.ref 0)]) O (af w.length) _ ⟨_,O⟩ ?_ ?_
 ·rintro v A g ⟨x,rfl⟩;walk_at"w";refine W.of (x:=(oL (f v),s9 L)) ?_ ⟨O,O,_,O⟩;show(Z ((dB (dF L) (Sum.inl (v:Int))).getD .non,s9 L))=_;rw[(hf v).1]
 ·rintro g ⟨x,rfl⟩;refine⟨di (by rw[lM1,cA];lia),?_⟩;walk_at"w";refine eJ O ?_;refine⟨?_,?_⟩
  ·rw[D.und];exact Mi.unds_map λ_ _=>FX _
  ·have:=q ((List.range w.length).map f) (by
    rw[<- b.all ha];constructor
    ·intro h v A;refine Classical.byContradiction λz=>h (b0.mpr ⟨v,aA.mpr A,(hf v).2.mpr z⟩)
    ·intro h z;obtain⟨v,A,e⟩:=b0.mp z;exact(hf v).2.mp e (h v (aA.mp A)))
   unfold Eo at this;rw[bu]at this;exact this
theorem yQ{S:Sto}:∀xs:List (Option (List Nat)),su (g6 S dX) .non (xs.map oL)=Z (tf (Y∈xs))
 |[]=>by rw[gM (by simp)];rfl
 |x::xs=>by
  rw[mP1,su,yQ xs];cases x with
  |none=>
   have:tf (Y∈Y::xs)=M:=kM mS1;rw[this];rfl
  |some x=>
   have:tf (Y∈Z x::xs)=tf (Y∈xs):=ow (by simp);rw[this];rfl
theorem CT{w:dL}{S:Sto}{Q:D×Sto->Prop}(hw:WP w)(q:Q (.bl (tf (Con w)),S)):W (db 1 e6 [dW w] S) Q:=by
 refine jg O (by rw[D.unds,kx];rfl) ?_;unfold e6;refine ib ?_;unfold iI;walk_at"w";refine En hw λws h=>?_;have a:gk .non (Eo ws) []=Z (.bl (!tf (Y∈ws)),[]):=by
  show(su (g6 [] dX) .non (ws.map oL)).map _=_;rw[yQ];rfl
 ((try walk_at"w");repeat(simp only[a];try walk_at"w"))
 refine⟨O,?_⟩;have:(!tf (Y∈ws))=tf (Con w):=m7 (by rw[<- h,Bool.not_eq_true',<- Bool.not_eq_true,iP]);rw[this];exact q
def sY(w:RZ):Prop:=∃w',w=pF w'/\WP w'/\Con w'
theorem uS{a b:dL}(h:pF a=pF b):a=b:=by
 unfold pF at h;exact(List.map_inj_right λx y e=>(List.map_inj_right λ_ _=>tI).mp e).mp h
theorem CJ{w:RZ}{S:Sto}{Q:D×Sto->Prop}(q:Q (.bl (tf (sY w)),S)):W (db 1 gF [zW w] S) Q:=by
 refine jg O (by rw[D.unds,pG];rfl) ?_;unfold gF;refine ib ?_;unfold n6;walk_at"w";refine C3 ?_;by_cases b:my w
 rotate_left
 ·rw[gM (λ⟨a,e,h,_⟩=>b (by rw[e];exact h.form.1))]at q;rw[gM b];walk_at"w";exact⟨O,q⟩
 rw[kM b];walk_at"w";refine CA b ?_;by_cases c:pz w
 rotate_left
 ·rw[gM (λ⟨a,e,h,_⟩=>c (by rw[e];exact h.form.2))]at q;rw[gM c];walk_at"w";exact⟨O,q⟩
 rw[kM c];walk_at"w";obtain⟨a,rfl,d⟩:=HF b c;rw[vV];refine CT d ?_;refine⟨O,?_⟩;have:tf (Con a)=tf (sY (pF a)):=ow ⟨λh=>⟨a,O,d,h⟩,λ⟨v,e,_,h⟩=>by rw[uS e];exact h⟩;rw[this];exact q
mutual
def vd(S:Sto):D->Bool
 | .non=>M
 | .bl _=>M
 | .int _=>M
 | .str _=>M
 | .tup xs=>ft S xs
 | .rol xs=>ft S xs
 | .ref n=>match S[n]? with
  |some (.lst _)=>M
  |some (.dct _)=>M
  |some (.dcT _)=>M
  |_=>J
 | .fn _=>J
def ft(S:Sto):List D->Bool
 |[]=>M
 |d::ds=>vd S d&&ft S ds
end
mutual
theorem HH{S T:Sto}:∀{d:D},vd S d=M->d.und 0=M->vd T d=M
 | .non,_,_=>by rw[vd]
 | .bl _,_,_=>by rw[vd]
 | .int _,_,_=>by rw[vd]
 | .str _,_,_=>by rw[vd]
 | .tup xs,v,h=>by rw[D.und]at h;rw[vd]at v ⊢;exact m4 v h
 | .rol xs,v,h=>by rw[D.und]at h;rw[vd]at v ⊢;exact m4 v h
 | .ref k,_,h=>by simp[D.und]at h
 | .fn x,v,_=>by simp[vd]at v
theorem m4{S T:Sto}:∀{ds:List D},ft S ds=M->D.unds 0 ds=M->ft T ds=M
 |[],_,_=>by rw[ft]
 |d::ds,v,h=>by
  rw[D.unds,bA1]at h;rw[ft,bA1]at v;rw[ft,HH v.1 h.1,m4 v.2 h.2];rfl
end
theorem dz{S:Sto}{d:D}:∀{ds:List D},ft S ds=M->d∈ds->vd S d=M
 |[],_,h=>by cases h
 |x::ds,h,m=>by
  rw[ft,bA1]at h;rcases aD.mp m with z|z
  ·rw[z];exact h.1
  ·exact dz h.2 z
theorem fI{n:Nat}{f:FN}{ds:List D}{S:Sto}{Q:D×Sto->Prop}(hn:ds.length=n)(b:d3 S)(hv:ft S ds=M)(h:∀T,d3 T->ft T ds=M->W (f ds T) λp=>(∃G,p.2=T++G)/\p.1.und 0=M/\Q (p.1,S)):W (db n f ds S) Q:=by
 cases hu:D.unds 0 ds with
 |true=>exact jg hn hu ((h [] rfl (m4 hv hu)).mono λp q=>⟨q.2.1,q.2.2⟩)
 |false=>
  refine sK hn hu ((h S b hv).mono ?_);rintro⟨d,V⟩ ⟨⟨G,e⟩,a,q⟩;dsimp only at e a q;subst e;rw[uv a b];exact q
def jE:D->Bool
 | .tup _=>M
 |_=>J
def rf:D->Bool
 | .int _=>M
 |_=>J
def xk:D->Bool
 | .bl _=>M
 |_=>J
theorem eP{S:Sto}{d:D}(h:vd S d=M):io S .tuple d=Z (jE d):=by
 cases d with
 |ref n=>
  rw[vd]at h;rw[io];split at h<;>first|(rename_i e;rw[e];rfl)|rfl|cases h
 |fn x=>simp[vd]at h
 |_=>rfl
theorem tL{S:Sto}{d:D}(h:vd S d=M):io S .int d=Z (rf d||xk d):=by
 cases d with
 |ref n=>
  rw[vd]at h;rw[io];split at h<;>first|(rename_i e;rw[e];rfl)|rfl|cases h
 |fn x=>simp[vd]at h
 |_=>rfl
theorem pH{S:Sto}{d:D}(h:vd S d=M):io S .bool d=Z (xk d):=by
 cases d with
 |ref n=>
  rw[vd]at h;rw[io];split at h<;>first|(rename_i e;rw[e];rfl)|rfl|cases h
 |fn x=>simp[vd]at h
 |_=>rfl
theorem rg{S:Sto}{d:D}(h:vd S d=M):ft S [d]=M:=by rw[ft,ft,h];rfl
theorem vd1'{S:Sto}{d:D}{ds:List D}(h:ft S (d::ds)=M):vd S d=M:=dz h mS1
theorem pC{d:D}{S:Sto}{Q:D×Sto->Prop}(c:d3 S)(hv:vd S d=M)(q:Q (.bl (rf d),S)):W (db 1 fg [d] S) Q:=by
 refine fI O c (rg hv) λT _ a=>?_;have h1:=tL (vd1' a);have h2:=pH (vd1' a);unfold fg;refine ib ?_;unfold n4
 ((try walk_at"w");repeat(simp only[d7,h1,h2];try walk_at"w"))
 cases d with
 |int i=>exact⟨⟨[],(aK T).symm⟩,O,q⟩
 |bl b=>exact⟨⟨[],(aK T).symm⟩,O,q⟩
 |_=>exact⟨⟨[],(aK T).symm⟩,O,q⟩
def j4:D->Bool
 | .tup xs=>decide (xs.length=2)
 |_=>J
theorem xN{d:D}{S:Sto}{Q:D×Sto->Prop}(b:d3 S)(hv:vd S d=M)(q:Q (.bl (j4 d),S)):W (db 2 dN [d,.int 2] S) Q:=by
 refine fI O b (by rw[ft,hv,ft,ft,vd];rfl) λT _ a=>?_;have h1:=eP (vd1' a);unfold dN;refine ib ?_;unfold ip
 ((try walk_at"w");repeat(simp only[d7,h1];try walk_at"w"))
 cases d with
 |tup xs=>
  ((try walk_at"w");repeat(simp only[jE];try walk_at"w"))
  refine⟨⟨[],(aK T).symm⟩,O,?_⟩;have e:(((xs.length:Nat):Int) == 2)=j4 (.tup xs):=by rw[j4,bL,beq_iff_eq,al];lia
  rw[e];exact q
 |_=>exact⟨⟨[],(aK T).symm⟩,O,q⟩
def fV(m:Nat):D->Bool
 | .int i=>decide (0<=i)&&decide (i<m)
 |_=>J
theorem Do{m:Nat}{d:D}(h:rf d=J):fV m d=J:=by
 cases d with
 |int i=>cases h
 |_=>rfl
theorem AI{d:D}(h:rf d=M):∃i,d = .int i:=by
 cases d with
 |int i=>exact⟨i,O⟩
 |_=>cases h
theorem Dh{r:Ev}{S:Sto}{m i:Nat}{j:Int}{c:FE}{Q:D×Sto->Prop}(hi:r[i]?=Z (Z (.int j)))(hc:c r S=Z (.int m,S))(q:Q (.bl (decide (0<=j)&&decide (j<m)),S)):W (me (b2 (fB λi j=>decide (i<=j))) (b2 oo) (mC (D.int (0))) (mV i) c r S) Q:=by
 have e:mV i r S=Z (.int j,S):=by unfold mV;rw[hi]
 rw[v8];unfold mC;rw[dv];dsimp only;rw[e,dv];dsimp only;unfold b2 fB;dsimp only;rw[dv];dsimp only;cases h:decide (0<=j)with
 |false=>
  rw[aj (by decide),dv];rw[h]at q;exact q
 |true=>
  rw[ak O,hc,dk,dv];rw[h]at q;exact W.of O q
theorem lj{m:Nat}{d:D}{S:Sto}{Q:D×Sto->Prop}(e:d3 S)(hv:vd S d=M)(q:Q (.bl (fV m d),S)):W (db 2 eL [d,.int m] S) Q:=by
 refine fI O e (by rw[ft,hv,ft,ft,vd];rfl) λT c b=>?_;have a:=vd1' b;unfold eL;refine ib ?_;unfold n9;walk_at"w";refine pC c a ?_;walk_at"w";cases hw:rf d with
 |false=>
  rw[aj (by decide)];rw[Do hw]at q
  first|exact⟨⟨[],(aK T).symm⟩,rfl,q⟩|(rw[dv];exact⟨⟨[],(aK T).symm⟩,O,q⟩)
 |true=>
  rw[ak O];obtain⟨i,rfl⟩:=AI hw;refine Dh (m:=m) O O ?_
  try walk_at"w"
  exact⟨⟨[],(aK T).symm⟩,O,q⟩
def oE(rs:List Nat):Bool:=(af (rs.length-1)).all λi=>decide (rs.getD i 0<rs.getD (i+1) 0)
def EQ(rs:List Nat):List Nat:=(fe (ddI (rs.map λ(r:Nat)=>(r:Int)))).map Int.toNat
theorem EO(rs:List Nat):(fe (ddI (rs.map λ(r:Nat)=>(r:Int)))).map D.int=nmD (EQ rs):=by
 unfold nmD EQ;rw[bu];refine cq λi hi=>?_;obtain⟨x,_,rfl⟩:=b0.mp (nB.mp ((eb _).mem_iff.mp hi));rfl
theorem zH{rs:List Nat}(h:oE rs=M):rs.Pairwise (· < ·):=by
 unfold oE at h;rw[bA]at h;have a:∀i,i+1<rs.length->rs.getD i 0<rs.getD (i+1) 0:=λi hi=>by
  have:=h i (aA.mpr (by lia));exact of_decide_eq_true this
 rw[b7];intro i j hi d e;have b:∀k,i+k+1<rs.length->rs.getD i 0<rs.getD (i+k+1) 0:=by
  intro k
  induction k with
  |zero=>intro c;exact a i c
  |succ k ih=>intro c;exact bi (ih (by lia)) (a (i+k+1) (by lia))
 have:=b (j-i-1) (by lia);rw[show i+(j-i-1)+1=j by lia]at this;rw[bG,bG,gG1 hi,gG1 d]at this;exact this
theorem CQ(rs:List Nat):(rs == EQ rs)=oE rs:=by
 rw[bL,beq_iff_eq];constructor
 ·intro e;have d:=hM (ddI (rs.map fun (r:Nat)=>(r:Int)));have f:(fe (ddI (rs.map fun (r:Nat)=>(r:Int)))).Nodup:=(eb _).nodup_iff.mpr (lg _ [] br);have lt:rs.Pairwise (· < ·):=by
   rw[e];unfold EQ;refine cu.mpr ?_;have c:=List.pairwise_and_iff.mpr ⟨d,f⟩;refine List.Pairwise.imp_of_mem ?_ c;intro a b g j h;obtain⟨x,_,rfl⟩:=b0.mp (nB.mp ((eb _).mem_iff.mp g));obtain⟨y,_,rfl⟩:=b0.mp (nB.mp ((eb _).mem_iff.mp j));have h1:=h.1;have h2:=h.2;show x<y;have:x≠y:=λz=>h2 (by rw[z]);lia
  unfold oE;rw[bA];intro i hi;have hi:=aA.mp hi;rw[al,bG,bG,gG1 (by lia),gG1 (by lia)];exact b7.mp lt i (i+1) (by lia) (by lia) (by lia)
 ·intro h;have d:=zH h;have e:fe (ddI (rs.map fun (r:Nat)=>(r:Int)))=rs.map fun (r:Nat)=>(r:Int):=by
   refine kW ((eb _).trans ((List.perm_ext_iff_of_nodup (lg _ [] br) ?_).mpr λk=>?_)) (hM _) ?_
   ·exact cu.mpr (d.imp λh z=>by lia)
   ·exact nB
   ·exact cu.mpr (d.imp λh=>by lia)
  unfold EQ;rw[e,bu];have:(Int.toNat∘λ(r:Nat)=>(r:Int))=id:=by funext x;simp
  rw[this,List.map_id]
mutual
def bd(k:Nat):D->Bool
 | .tup xs=>decide (xs.length<=k)&&xn k xs
 | .non=>M
 | .bl _=>M
 | .int _=>M
 | .str _=>M
 | .rol _=>J
 | .ref _=>M
 | .fn _=>J
def xn(k:Nat):List D->Bool
 |[]=>M
 |d::ds=>bd k d&&xn k ds
end
mutual
theorem qB{k k':Nat}(h:k<=k'):∀{d:D},bd k d=M->bd k' d=M
 | .tup xs,q=>by
  rw[bd,bA1,al]at q;rw[bd,sM h q.2,ah (by lia)];rfl
 | .non,_=>by rw[bd]
 | .bl _,_=>by rw[bd]
 | .int _,_=>by rw[bd]
 | .str _,_=>by rw[bd]
 | .rol _,q=>by simp[bd]at q
 | .ref _,_=>by rw[bd]
 | .fn _,q=>by simp[bd]at q
theorem sM{k k':Nat}(h:k<=k'):∀{ds:List D},xn k ds=M->xn k' ds=M
 |[],_=>by rw[xn]
 |d::ds,q=>by
  rw[xn,bA1]at q;rw[xn,qB h q.1,sM h q.2];rfl
end
theorem n3{k:Nat}:∀xs:List D,xn k xs=xs.all (bd k)
 |[]=>by rw[xn];rfl
 |x::xs=>by rw[xn,n3 xs];rfl
theorem tG{S:Sto}:∀xs:List D,ft S xs=xs.all (vd S)
 |[]=>by rw[ft];rfl
 |x::xs=>by rw[ft,tG xs];rfl
theorem iO{n:Nat}:∀xs:List D,D.unds n xs=xs.all (D.und n)
 |[]=>rfl
 |x::xs=>by rw[D.unds,iO xs];rfl
structure Ok (k:Nat)(S:Sto)(d:D):Prop where
 v:vd S d=true
 u:d.und S.length=true
 b:bd k d=true
theorem Ok.tup{k:Nat}{S:Sto}{xs:List D}(b:xs.length<=k)(h:∀x∈xs,Ok k S x):Ok k S (.tup xs):=by
 refine⟨?_,?_,?_⟩
 ·rw[vd,tG,bA];exact λx a=>(h x a).v
 ·rw[D.und,iO,bA];exact λx a=>(h x a).u
 ·rw[bd,n3,bA1,al,bA];exact⟨b,λx a=>(h x a).b⟩
theorem Ok.of{k:Nat}{S:Sto}{xs:List D}(h:Ok k S (.tup xs)):xs.length<=k /\ ∀x∈xs,Ok k S x:=by
 obtain⟨h1,h2,a⟩:=h;rw[vd,tG,bA]at h1;rw[D.und,iO,bA]at h2;rw[bd,n3,bA1,al,bA]at a;exact⟨a.1,λx b=>⟨h1 x b,h2 x b,a.2 x b⟩⟩
theorem Ok.more{k k':Nat}{S:Sto}{d:D}(h:Ok k S d)(hk:k<=k'):Ok k' S d:=⟨h.v,h.u,qB hk h.b⟩
mutual
theorem DD{k:Nat}{S:Sto}:∀{d:D},bd k d=M->d.und 0=M->vd S d=M
 | .non,_,_=>by rw[vd]
 | .bl _,_,_=>by rw[vd]
 | .int _,_,_=>by rw[vd]
 | .str _,_,_=>by rw[vd]
 | .tup xs,v,h=>by
  rw[D.und]at h;rw[bd,bA1]at v;rw[vd];exact xF v.2 h
 | .rol xs,v,h=>by simp[bd]at v
 | .ref k,_,h=>by simp[D.und]at h
 | .fn x,v,_=>by simp[bd]at v
theorem xF{k:Nat}{S:Sto}:∀{ds:List D},xn k ds=M->D.unds 0 ds=M->ft S ds=M
 |[],_,_=>by rw[ft]
 |d::ds,v,h=>by
  rw[D.unds,bA1]at h;rw[xn,bA1]at v;rw[ft,DD v.1 h.1,xF v.2 h.2];rfl
end
theorem Ok.shut{k:Nat}{S:Sto}{d:D}(h:d.und 0=M)(hb:bd k d=M):Ok k S d:=⟨DD hb h,kI h,hb⟩
theorem Ok.lst{k n:Nat}{S:Sto}{xs:List D}(h:S[n]?=Z (.lst xs)):Ok k S (.ref n):=⟨by rw[vd,h],by rw[D.und,al];exact(gE1.mp h).1,by rw[bd]⟩
theorem Ok.dct{k n:Nat}{S:Sto}{xs:List (Key×D)}(h:S[n]?=Z (.dct xs)):Ok k S (.ref n):=⟨by rw[vd,h],by rw[D.und,al];exact(gE1.mp h).1,by rw[bd]⟩
theorem Ok.nm{k:Nat}{S:Sto}{rs:List Nat}(h:rs.length<=k):Ok k S (.tup (nmD rs)):=Ok.tup (by rw[eQ];exact h) λx a=>by
 obtain⟨i,_,rfl⟩:=b0.mp a;exact .shut O (by rw[bd])
mutual
theorem uR{S a:Sto}(h:∀n,vd S (.ref n)=M->vd a (.ref n)=M):∀{d:D},vd S d=M->vd a d=M
 | .non,_=>by rw[vd]
 | .bl _,_=>by rw[vd]
 | .int _,_=>by rw[vd]
 | .str _,_=>by rw[vd]
 | .tup xs,q=>by rw[vd]at q ⊢;exact kH h q
 | .rol xs,q=>by rw[vd]at q ⊢;exact kH h q
 | .ref n,q=>h n q
 | .fn x,q=>by simp[vd]at q
theorem kH{S a:Sto}(h:∀n,vd S (.ref n)=M->vd a (.ref n)=M):∀{ds:List D},ft S ds=M->ft a ds=M
 |[],_=>by rw[ft]
 |d::ds,q=>by
  rw[ft,bA1]at q;rw[ft,uR h q.1,kH h q.2];rfl
end
mutual
theorem xG{A B:Sto}:∀{d:D},vd (A++B) d=M->d.und A.length=M->vd A d=M
 | .non,_,_=>by rw[vd]
 | .bl _,_,_=>by rw[vd]
 | .int _,_,_=>by rw[vd]
 | .str _,_,_=>by rw[vd]
 | .tup xs,q,u=>by rw[vd]at q ⊢;rw[D.und]at u;exact pE q u
 | .rol xs,q,u=>by rw[vd]at q ⊢;rw[D.und]at u;exact pE q u
 | .ref n,q,u=>by
  rw[D.und,al]at u;rw[vd]at q ⊢;rw[gL1 u]at q;exact q
 | .fn x,q,_=>by simp[vd]at q
theorem pE{A B:Sto}:∀{ds:List D},ft (A++B) ds=M->D.unds A.length ds=M->ft A ds=M
 |[],_,_=>by rw[ft]
 |d::ds,q,u=>by
  rw[ft,bA1]at q;rw[D.unds,bA1]at u;rw[ft,xG q.1 u.1,pE q.2 u.2];rfl
end
theorem CS{o:Ob}{n:Nat}(h:Hnd o n):∃xs,o = .lst xs:=by
 obtain⟨g,m,c,rfl,_⟩:=h;exact⟨_,O⟩
theorem Ok.on{k n n':Nat}{o o':Ob}{T G:Sto}{d:D}(h:Ok k (o::T) d)(ho:Hnd o' n'):Ok k (o'::(T++G)) d:=by
 refine⟨uR (λi hi=>?_) h.v,xJ (by simp) h.u,h.b⟩;obtain⟨xs,rfl⟩:=CS ho;cases i with
 |zero=>rw[vd];rfl
 |succ i=>
  rw[vd,gC1]at hi ⊢;cases e:T[i]? with
  |none=>rw[e]at hi;cases hi
  |some x=>
   rw[gL1 (gE1.mp e).1,e];rw[e]at hi;exact hi
abbrev ClT(T:Sto):Prop:=T.all (Ob.und (T.length+1))=M
theorem Ax{m k n':Nat}{f:FN}{ds:List D}{o:Ob}{T:Sto}{Q:D×Sto->Prop}(hn:ds.length=m)(g:D.unds 0 ds=J)(d:ClT T)(h:W (f ds (o::T)) λp=>∃x o' G,p=(x,o'::(T++G))/\Hnd o' n'/\ClT (T++G)/\Ok k (o'::(T++G)) x)(q:∀x o' G,Hnd o' n'->ClT (T++G)->Ok k (o'::(T++G)) x->Q (x,o'::(T++G))):W (db m f ds (o::T)) Q:=by
 refine sK hn g (h.mono ?_);rintro p ⟨x,o',G,rfl,c,hc,b⟩;unfold gc;split
 ·rename_i a;have e:(o'::(T++G)).take (o::T).length=o'::(T++[]):=by rw[aK,lC1,List.take_succ_cons,List.take_left]
  rw[e];refine q x o' [] c (by rw[aK];exact d) ⟨?_,?_,b.b⟩
  ·rw[bA1]at a;rw[aK];refine xG (A:=o'::T) (B:=G) (by rw[bm];exact b.v) ?_;have:=a.1
   rwa [lC1]at this
  ·rw[bA1]at a;rw[aK];have:=a.1
   rwa [lC1]at this
 ·exact q x o' G c hc b
theorem Au{T G:Sto}(h:ClT T)(hg:∀o∈G,o.und ((T++G).length+1)=M):ClT (T++G):=by
 rw[ClT,bA]at h ⊢;intro o a;rcases aE.mp a with a|a
 ·exact nw (by rw[lA1];lia) (h o a)
 ·exact hg o a
theorem Ij:∃B:Int,∀S:Sto,gu (.int 10) (.int 30) S=Z (.int B,S):=⟨10^30,λS=>by
 unfold gu;dsimp only;rw[ak ⟨by decide,by decide,by decide⟩];rfl⟩
def EK(k:Nat)(r:Ev)(o:Ob)(T:Sto)(e:FE):Prop:=∀G,ClT (T++G)->W (e r (o::(T++G))) λp=>∃G',p.2=o::(T++(G++G'))/\ClT (T++(G++G'))/\Ok k (o::(T++(G++G'))) p.1
def AK(k:Nat)(r:Ev)(o:Ob)(T:Sto)(n:Nat)(a:FA):Prop:=∀G,ClT (T++G)->W (a r (o::(T++G))) λp=>∃G',p.2=o::(T++(G++G'))/\ClT (T++(G++G'))/\p.1.length=n /\ ∀x∈p.1,Ok k (o::(T++(G++G'))) x
section
variable{k n N:Nat}{r:Ev}{o:Ob}{T:Sto}{e:FE}{a:FA}{d:D}
theorem fw(ho:Hnd o N)(h:∀S,e r S=Z (d,S))(hd:Ok k (o::T) d):EK k r o T e:=λG a=>by
 refine W.of (h _) ⟨[],by rw[aK],by rw[aK];exact a,?_⟩;rw[aK];exact hd.on (n:=N) ho
theorem fj:AK k r o T 0 da:=λG a=>W.of O ⟨[],by rw[aK],by rw[aK];exact a,O,λx h=>by cases h⟩
theorem df(ho:Hnd o N)(he:EK k r o T e)(ha:AK k r o T n a):AK k r o T (n+1) (c9 e a):=λG i=>by
 unfold c9;rw[dk];refine(he G i).mono ?_;rintro⟨d,S⟩ ⟨G1,c,h1,h2⟩;dsimp only at c h2 ⊢;subst c;rw[dk];refine(ha (G++G1) h1).mono ?_;rintro⟨l,S⟩ ⟨G2,f,g,h,b⟩;dsimp only at f h b ⊢;subst f;rw[aW]at g b;refine dv.mpr ⟨G1++G2,by rw[aW],g,by rw[lC1,h],λx j=>?_⟩;rcases aD.mp j with z|z
 ·rw[z];have:=h2.on (n:=N) (G:=G2) ho
  rwa [aW,aW]at this
 ·exact b x z
theorem hX(ha:AK k r o T n a)(hn:n<=k)(hk:k<=1000):EK k r o T (d2 a):=λG d=>by
 rw[AS];refine(ha G d).mono ?_;rintro⟨l,S⟩ ⟨G1,c,h1,h2,b⟩;dsimp only at c h2 b ⊢;subst c;exact⟨di (by lia),G1,O,h1,.tup (by lia) b⟩
theorem FM{k:Nat}{S:Sto}{L:List D}(h:∀x∈L,Ok k S x):D.unds S.length L=M:=by rw[iO,bA];exact λx a=>(h x a).u
theorem nW(a:ClT T){L:List D}(h:∀x∈L,Ok k (o::T) x):ClT (T++[.lst L]):=Au a λx b=>by
 rw[cF.mp b,Ob.und];refine gy ?_ (FM h);simp
theorem vw(ha:AK k r o T n a)(hn:n<=1000)(G:Sto)(e:ClT (T++G)):W (eW a r (o::(T++G))) λp=>∃b L,p=(.ref (T++(G++b)).length.succ,o::(T++(G++b)++[.lst L]))/\ClT (T++(G++b)++[.lst L])/\L.length=n /\ ∀x∈L,Ok k (o::(T++(G++b))) x:=by
 rw[AT];refine(ha G e).mono ?_;rintro⟨l,S⟩ ⟨G1,d,h1,h2,c⟩;dsimp only at d h2 c ⊢;subst d;exact⟨di (by lia),G1,l,O,nW h1 c,h2,c⟩
theorem Ag(ho:Hnd o N)(ha:AK k r o T n a)(hn:n<=1000):EK k r o T (eW a):=λG b=>by
 refine(vw ha hn G b).mono ?_;rintro p ⟨G1,L,rfl,h1,h2,c⟩;refine⟨G1++[.lst L],by simp,by simpa using h1,.lst (xs:=L) ?_⟩;rw[cr,gC1,show T++(G++(G1++[Ob.lst L]))=(T++(G++G1))++[Ob.lst L] by simp,dh];rfl
theorem Da:EK k r o T oU:=λG a=>by
 refine W.of (x:=(.ref (T++G).length.succ,o::(T++G++[.dct []]))) O ⟨[.dct []],by simp,?_,.dct (xs:=[]) ?_⟩
 ·rw[<- aW];exact Au a λx b=>by rw[cF.mp b];rfl
 ·rw[cr,gC1,<- aW,dh];rfl
theorem eT(ho:Hnd o N)(h:d.und 0=M)(hb:bd k d=M):EK k r o T (mC d):=fw ho (λ_=>rfl) (.shut h hb)
end
def lN(d:D):Bool:=match d with
 | .tup xs=>match xs with
  |[a,b]=>rf a&&rf b
  |_=>J
 |_=>J
def kU(d:D):Bool:=match d with
 | .tup xs=>decide (xs.length<=4)&&xs.all lN
 |_=>J
def sx(d:D):Bool:=match d with
 | .tup xs=>decide (1<=xs.length)&&decide (xs.length<=8)&&xs.all kU
 |_=>J
theorem oC{c:List (Nat×List D)}{g:FG}{t:FT}{e:FE}{S:Sto}{Q:List D×Ev×Sto->Prop}(F:D->D)(P:Ev->Prop)(d:q9 S c=M)(xs:List D)(r:Ev)(hr:P r)(h:∀a∈xs,∀r,P r->W (g a r S) λp=>W (t p.1 p.2) λb=>b.1=M/\W (e p.1 b.2) λx=>x.1=F a/\x.2=S/\P p.1)(q:∀i,P i->Q (xs.map F,i,S)):W (fz c g t (d1 e) xs r S) Q:=by
 have:=nD (f:=id) F P d xs r hr h q
 rwa [List.map_id]at this
theorem Db{d:D}(h:j4 d=J):lN d=J:=by
 unfold lN;split
 ·rename_i xs;split
  ·cases h
  ·rfl
 ·rfl
theorem vR{d:D}(h:j4 d=M):∃a b,d = .tup [a,b]:=by
 cases d with
 |tup xs=>
  have:xs.length=2:=of_decide_eq_true h
  match xs,this with
  |[a,b],_=>exact⟨a,b,O⟩
 |_=>cases h
theorem zC{d:D}{S:Sto}{Q:D×Sto->Prop}(j:d3 S)(hv:vd S d=M)(q:Q (.bl (kU d),S)):W (db 1 gr [d] S) Q:=by
 refine fI O j (rg hv) λT c m=>?_;have e:=vd1' m;have h1:=eP e;unfold gr;refine ib ?_;unfold lQ
 ((try walk_at"w");repeat(simp only[d7,h1,fC];try walk_at"w"))
 cases d with
 |tup xs=>
  ((try walk_at"w");repeat(simp only[jE];try walk_at"w"))
  by_cases f:(4:Int)<(xs.length:Int)
  ·rw [if_pos (decide_eq_true f)];have:kU (.tup xs)=false:=by
    show(decide (xs.length<=4)&&xs.all lN)=J;rw[ai (by omega)];rfl
   rw[this]at q;exact⟨⟨[],(aK T).symm⟩,O,q⟩
  ·rw[aj (by rw[al];exact f)];rw[vd]at e;refine fu.mpr ?_;refine oC (λx=>.bl (lN x)) (λr=>∃x,r=[x]) O xs _ ⟨_,O⟩ ?_ ?_
   ·rintro a l k ⟨x,rfl⟩;have b:=dz e l;walk_at"w";refine xN c b ?_;walk_at"w";cases h2:j4 a with
    |false=>
     walk_at"w";exact⟨by rw[Db h2],_,O⟩
    |true=>
     obtain⟨y,z,rfl⟩:=vR h2;have g:dm (.tup [y,z]) (.int 0) T=Z (y,T):=ix_tup (i:=0) O;have h:dm (.tup [y,z]) (.int 1) T=Z (z,T):=ix_tup (i:=1) O;rw[vd]at b
     ((try walk_at"w");repeat(simp only[g];try walk_at"w"))
     refine pC c (dz b (by simp)) ?_;walk_at"w";cases hy:rf y with
     |false=>
      walk_at"w";exact⟨by show D.bl J=D.bl (rf y&&rf z);rw[hy];rfl,_,O⟩
     |true=>
      ((try walk_at"w");repeat(simp only[h];try walk_at"w"))
      refine pC c (dz b (by simp)) ?_;exact⟨by show D.bl (rf z)=D.bl (rf y&&rf z);rw[hy];rfl,O,_,O⟩
   ·rintro k _;refine ⟨di (by rw [lM1];omega),?_⟩;walk_at"w";have n:gl (.ref T.length) (T++[.lst (xs.map fun x=>D.bl (lN x))])=some (.bl (xs.all lN),T++[.lst (xs.map fun x=>D.bl (lN x))]):=by
     simp only[gl,dn,dh,cv,oS1,iK,oP1]
    ((try walk_at"w");repeat(simp only[n];try walk_at"w"))
    refine⟨⟨_,O⟩,O,?_⟩;have:kU (.tup xs)=xs.all lN:=by
     show(decide (xs.length<=4)&&xs.all lN)=_;rw[ah (by omega)];rfl
    rw[this]at q;exact q
 |_=>exact⟨⟨[],(aK T).symm⟩,O,q⟩
theorem GP{d:D}{S:Sto}{Q:D×Sto->Prop}(h:d3 S)(hv:vd S d=M)(q:Q (.bl (sx d),S)):W (db 1 fU [d] S) Q:=by
 refine fI O h (rg hv) λT l k=>?_;have f:=vd1' k;have h1:=eP f;unfold fU;refine ib ?_;unfold kC
 ((try walk_at"w");repeat(simp only[d7,h1,fi];try walk_at"w"))
 cases d with
 |tup xs=>
  ((try walk_at"w");repeat(simp only[jE,me];try walk_at"w"))
  by_cases g:1<=xs.length/\xs.length<=8
  ·have b:decide ((1:Int)<=(xs.length:Int))=M:=ah (by omega);have e:decide ((xs.length:Int)<=8)=M:=ah (by omega)
   ((try walk_at"w");repeat(simp only[b,e];try walk_at"w"))
   rw[vd]at f;refine fu.mpr ?_;refine oC (λx=>.bl (kU x)) (λr=>∃x,r=[x]) O xs _ ⟨_,O⟩ ?_ ?_
   ·rintro a j i ⟨x,rfl⟩;have c:=dz f j;walk_at"w";refine zC l c ?_;exact⟨O,O,_,O⟩
   ·rintro i _;refine ⟨di (by rw [lM1];omega),?_⟩;have m:gl (.ref T.length) (T++[.lst (xs.map fun x=>D.bl (kU x))])=some (.bl (xs.all kU),T++[.lst (xs.map fun x=>D.bl (kU x))]):=by
     simp only[gl,dn,dh,cv,oS1,iK,oP1]
    ((try walk_at"w");repeat(simp only[m];try walk_at"w"))
    refine⟨⟨_,O⟩,O,?_⟩;have:sx (.tup xs)=xs.all kU:=by
     show(decide (1<=xs.length)&&decide (xs.length<=8)&&xs.all kU)=_;rw[ah g.1,ah g.2];rfl
    rw[this]at q;exact q
  ·have:sx (.tup xs)=false:=by
    show(decide (1<=xs.length)&&decide (xs.length<=8)&&xs.all kU)=J;by_cases z:1<=xs.length
    ·rw[ai (p:=xs.length<=8) (by omega),aZ];rfl
    ·rw[ai z];rfl
   rw[this]at q;by_cases z:1<=xs.length
   ·have b:decide ((1:Int)<=(xs.length:Int))=M:=ah (by omega);have e:decide ((xs.length:Int)<=8)=J:=ai (by omega)
    ((try walk_at"w");repeat(simp only[b,e];try walk_at"w"))
    exact⟨⟨[],(aK T).symm⟩,O,q⟩
   ·have b:decide ((1:Int)<=(xs.length:Int))=J:=ai (by omega)
    ((try walk_at"w");repeat(simp only[b];try walk_at"w"))
    exact⟨⟨[],(aK T).symm⟩,O,q⟩
 |_=>exact⟨⟨[],(aK T).symm⟩,O,q⟩
theorem B8{d:D}{S:Sto}{Q:D×Sto->Prop}(c:d3 S)(hv:vd S d=M)(hf:sx d=J)(q:Q (.bl J,S)):W (db 1 gF [d] S) Q:=by
 refine fI O c (rg hv) λT a b=>?_;unfold gF;refine ib ?_;unfold n6;walk_at"w";refine GP a (vd1' b) ?_
 ((try walk_at"w");repeat(simp only[hf];try walk_at"w"))
 exact⟨⟨[],(aK T).symm⟩,O,q⟩
theorem qj{α:Type}{f:α->D}:∀{xs:List D},(∀x∈xs,∃a,x=f a) -> ∃l:List α,xs=l.map f
 |[],_=>⟨[],O⟩
 |x::xs,h=>by
  obtain⟨a,rfl⟩:=h x mS1;obtain⟨l,rfl⟩:=qj (xs:=xs) λy b=>h y (mC1 _ b);exact⟨a::l,O⟩
theorem qi{α:Type}{f:α->D}(hf:∀a b,f a=f b->a=b):∀{l m:List α},l.map f=m.map f->l=m
 |[],[],_=>rfl
 |[],_::_,h=>by cases h
 |_::_,[],h=>by cases h
 |a::l,b::m,h=>by
  rw[mP1,mP1]at h;injection h with h1 h2;rw[hf a b h1,qi hf h2]
theorem Ei(a b:Int×Int)(h:zP a=zP b):a=b:=by
 unfold zP at h;injection h with h;injection h with h1 h;injection h with h2 h;injection h1 with h1;injection h2 with h2;exact Prod.ext h1 h2
theorem Eh(a b:List (Int×Int))(h:zR a=zR b):a=b:=by
 unfold zR at h;injection h with h;exact qi Ei h
theorem Eg{a b:RZ}(h:zW a=zW b):a=b:=by
 unfold zW at h;injection h with h;exact qi Eh h
def iM(d:D):Bool:=tf (∃w,d=zW w/\sY w)
theorem tE(w:RZ):iM (zW w)=tf (sY w):=ow ⟨λ⟨v,e,g⟩=>by rw[Eg e];exact g,λg=>⟨w,O,g⟩⟩
theorem xD{d:D}(h:rf d=M):∃i,d = .int i:=by
 cases d with
 |int i=>exact⟨i,O⟩
 |_=>cases h
theorem GY{d:D}(h:lN d=M):∃p,d=zP p:=by
 unfold lN at h;split at h
 ·split at h
  ·rename_i a b;rw[bA1]at h;obtain⟨i,rfl⟩:=xD h.1;obtain⟨j,rfl⟩:=xD h.2;exact⟨(i,j),O⟩
  ·cases h
 ·cases h
theorem EZ{d:D}(h:kU d=M):∃r,d=zR r:=by
 unfold kU at h;split at h
 ·rename_i xs;rw[bA1,bA]at h;obtain⟨l,rfl⟩:=qj λx a=>GY (h.2 x a);exact⟨l,O⟩
 ·cases h
theorem GM{d:D}(h:sx d=M):∃w,d=zW w:=by
 unfold sx at h;split at h
 ·rename_i xs;rw[bA1,bA]at h;obtain⟨l,rfl⟩:=qj λx a=>EZ (h.2 x a);exact⟨l,O⟩
 ·cases h
theorem GN{w:RZ}(h:my w):sx (zW w)=M:=by
 obtain⟨h1,h2,d⟩:=h;show(decide (1<=(w.map zR).length)&&decide ((w.map zR).length<=8)&&(w.map zR).all kU)=M;rw[lM1,ah h1,ah h2,cG,cG,bA];intro x b;obtain⟨a,c,rfl⟩:=b0.mp b;show(decide ((a.map zP).length<=4)&&(a.map zP).all lN)=M;rw[lM1,ah (d a c),cG,bA];intro y e;obtain⟨p,_,rfl⟩:=b0.mp e;rfl
theorem jU{w:RZ}(h:sY w):my w/\pz w:=by
 obtain⟨a,rfl,h1,h2⟩:=h;exact h1.form
theorem CL{d:D}{S:Sto}{Q:D×Sto->Prop}(a:d3 S)(hv:vd S d=M)(q:Q (.bl (iM d),S)):W (db 1 gF [d] S) Q:=by
 cases hf:sx d with
 |false=>
  refine B8 a hv hf ?_;have:iM d=J:=gM λ⟨w,e,g⟩=>by
   rw[e,GN (jU g).1]at hf;cases hf
  rw[this]at q;exact q
 |true=>
  obtain⟨w,rfl⟩:=GM hf;rw[tE]at q;exact CJ q
def qf(y e:D):Bool:=if ek y=M then(D4 y e).getD J else J
def fq(e y:D):Bool:=qf y e
theorem tH{S:Sto}{k:Nat}(h:vd S (.ref k)=M):(∃xs,S[k]?=Z (.lst xs))\/(dn S (.ref k)=Y/\mF S (.ref k)=M):=by
 rw[vd]at h;split at h
 ·rename_i xs e;exact .inl ⟨xs,e⟩
 ·rename_i xs e;exact .inr ⟨by rw[dn,e],by rw[mF,e]⟩
 ·rename_i xs e;exact .inr ⟨by rw[dn,e],by rw[mF,e]⟩
 ·cases h
theorem sy{S:Sto}{e:D}(h:ek e=M):dn S e=Y/\mF S e=J:=by
 cases e<;>first|exact⟨rfl,rfl⟩|cases h
theorem C8{a b:D}(ha:ek a=M)(hb:ek b=M):D4 a b=Z ((D4 a b).getD J):=by
 cases a<;>cases b<;>first|rfl|(simp[ek]at ha;done)|(simp[ek]at hb;done)
theorem D3{S:Sto}{n:Nat}{e y:D}(hf:ek e=M)(hv:vd S y=M):g6 S (n+1) y e=Z (qf y e):=by
 obtain⟨h1,h2⟩:=sy (S:=S) hf;have a:ek y=M->g6 S (n+1) y e=Z (qf y e):=λd=>by
  obtain⟨c,b⟩:=sy (S:=S) d;rw[g6,h1,c];have f:C7 S y e=D4 y e:=by unfold C7;rw[h2,b]
  show C7 S y e=_;rw[f];unfold qf;rw[ak d];exact C8 d hf
 cases y with
 |tup xs=>rw[g6,h1];show(if ek e=M then _ else _)=_;rw[ak hf];rfl
 |rol xs=>rw[g6,h1];show(if ek e=M then _ else _)=_;rw[ak hf];rfl
 |fn x=>simp[vd]at hv
 |ref k=>
  rcases tH hv with⟨xs,h⟩|⟨c,b⟩
  ·rw[g6,h1,dn,h];show(if ek e=M then _ else _)=_;rw[ak hf];rfl
  ·rw[g6,h1,c];show C7 S _ e=_;unfold C7;rw[h2,b];show(if ek e=M then _ else _)=_;rw[ak hf];rfl
 |_=>exact a O
def DN:List D->List D->Bool
 |x::xs,y::ys=>qf x y&&DN xs ys
 |[],[]=>M
 |_,_=>J
theorem uA{S:Sto}{n:Nat}:∀{xs es:List D},ft S xs=M->(∀e∈es,ek e=M)->wU (g6 S (n+1)) xs es=Z (DN xs es)
 |[],[],_,_=>rfl
 |[],_::_,_,_=>rfl
 |_::_,[],_,_=>rfl
 |x::xs,e::es,hv,hf=>by
  rw[ft,bA1]at hv;rw[wU,D3 (hf e mS1) hv.1,uA hv.2 λy a=>hf y (mC1 _ a)];rfl
def qt(y:D)(es:List D):Bool:=match y with
 | .tup xs=>DN xs es
 |_=>J
theorem z9{S:Sto}{n:Nat}{y:D}{es:List D}(hf:∀e∈es,ek e=M)(hv:vd S y=M):g6 S (n+2) y (.tup es)=Z (qt y es):=by
 cases y with
 |tup xs=>
  rw[vd]at hv;rw[g6];show(if J=J then(if J=M/\_ then _ else wU (g6 S (n+1)) xs es)else _)=_;rw[ak O,aj (by simp),uA hv hf];rfl
 |rol xs=>rfl
 |fn x=>simp[vd]at hv
 |ref k=>
  rcases tH hv with⟨xs,h⟩|⟨a,b⟩
  ·have c:dn S (.ref k)=Z (M,xs):=by rw[dn,h]
   rw[g6,c];rfl
  ·rw[g6,a];show(if ek (D.ref k)=M then _ else if mF S (.ref k)=M then _ else _)=_;rw[b];rfl
 |_=>rfl
theorem mR{S:Sto}{y:D}{es:List D}(hf:∀e∈es,ek e=M)(hv:vd S y=M):gEq y (.tup es) S=Z (.bl (qt y es),S):=by
 unfold gEq;rw[show dX=58+2 from rfl,z9 hf hv];rfl
theorem CZ{S:Sto}{y:D}{es:List D}(hf:∀e∈es,ek e=M)(hv:vd S y=M):gNe y (.tup es) S=Z (.bl (!qt y es),S):=by
 unfold gNe;rw[show dX=58+2 from rfl,z9 hf hv];rfl
theorem ut{S:Sto}{n:Nat}{e:D}(hf:ek e=M):∀{xs:List D},ft S xs=M->su (g6 S (n+1)) e xs=Z (xs.any (fq e))
 |[],_=>rfl
 |x::xs,hv=>by
  rw[ft,bA1]at hv;rw[su,D3 hf hv.1,ut hf hv.2];rfl
theorem ur{S:Sto}{e:D}{xs:List D}(hf:ek e=M)(hv:ft S xs=M):lM e (.tup xs) S=Z (.bl (xs.any (fq e)),S):=by
 show(Option.bind (dn S (.tup xs)) λp=>(su (g6 S dX) e p.2).map λb=>(D.bl b,S))=_;show((su (g6 S dX) e xs).map λb=>(D.bl b,S))=_;rw[show dX=59+1 from rfl,ut hf hv];rfl
theorem Ay{n:Nat}{f:FN}{ds:List D}{S:Sto}{Q:D×Sto->Prop}(hn:ds.length=n)(b:D.unds 0 ds=J)(c:d3 S)(h:W (f ds S) λp=>(∃G,p.2=S++G)/\p.1.und 0=M/\Q (p.1,S)):W (db n f ds S) Q:=by
 refine sK hn b (h.mono ?_);rintro⟨d,V⟩ ⟨⟨G,e⟩,a,q⟩;dsimp only at e a q;subst e;rw[uv a c];exact q
theorem u4{f:Nat->D}{m:Nat}{y:D}{rs:List Nat}{T:Sto}(hm:∀ r∈rs,r<m)(d:∀ i j,i<m->j<m->oo (f i) (f j) T=Z (.bl (decide (i<j)),T))(g:rs.length<=1000)(a:dZ y T=Z (.int rs.length,T))(b:∀(i:Nat) (h:i<rs.length),dm y (.int (i:Nat)) T=Z (f rs[i],T)):W (eh [y] T) λp=>(∃G,p.2=T++G)/\p.1 = .bl (oE rs):=by
 unfold eh;refine ib ?_;unfold ml
 ((try walk_at"w");repeat(simp only[a];try walk_at"w"))
 refine⟨AH (by lia) (by lia),?_⟩;rw[k6,show((rs.length:Int)-1).toNat=rs.length-1 by lia];refine nD (f:=λj:Nat=>D.int j) (λi=>D.bl (decide (rs.getD i 0<rs.getD (i+1) 0))) (λc=>∃x,c=[x,Z y]) O (af (rs.length-1)) _ ⟨_,O⟩ ?_ ?_
 ·rintro i hi c ⟨x,rfl⟩;have hi:=aA.mp hi;have h1:i<rs.length:=by lia
  have h2:i+1<rs.length:=by lia
  ((try walk_at"w");repeat(simp only[b i h1];try walk_at"w"))
  rw[show((i:Int)+1)=((i+1:Nat):Int) by push_cast;rfl]
  ((try walk_at"w");repeat(simp only[b (i+1) h2,d _ _ (hm _ (bN h1)) (hm _ (bN h2))];try walk_at"w"))
  refine⟨?_,_,O⟩;rw[bG,bG,gG1 h1,gG1 h2];rfl
 ·rintro c _;refine ⟨di (by rw [lM1,cA];lia),?_⟩;walk_at"w";have e:gl (.ref T.length) (T++[.lst ((List.range (rs.length-1)).map fun i=>D.bl (decide (rs.getD i 0<rs.getD (i+1) 0)))])=some (.bl (oE rs),T++[.lst ((List.range (rs.length-1)).map fun i=>D.bl (decide (rs.getD i 0<rs.getD (i+1) 0)))]):=by
   unfold gl;rw[ge (n:=T.length) (xs:=(af (rs.length-1)).map λi=>D.bl (decide (rs.getD i 0<rs.getD (i+1) 0))) (by rw[dh];rfl),oS1];dsimp only;rw[iK];rfl
  ((try walk_at"w");repeat(simp only[e];try walk_at"w"))
  exact⟨⟨_,O⟩,trivial⟩
theorem GF{f:Nat->D}{rs:List Nat}{T:Sto}(i:Nat)(h:i<rs.length):dm (.tup (rs.map f)) (.int (i:Nat)) T=Z (f rs[i],T):=ix_tup (by rw[gP1,gG1 h];rfl)
theorem tU{f:Nat->D}{m:Nat}{rs:List Nat}{S:Sto}{Q:D×Sto->Prop}(c:∀ i,(f i).und 0=M)(hm:∀ r∈rs,r<m)(a:∀ i j,i<m->j<m->oo (f i) (f j) []=Z (.bl (decide (i<j)),[]))(b:rs.length<=1000)(q:Q (.bl (oE rs),S)):W (db 1 eh [.tup (rs.map f)] S) Q:=by
 refine jg O (by rw[D.unds,D.und,unds_map c];rfl) ?_;refine(u4 hm a b ?_ (λi h=>GF i h)).mono ?_
 ·simp[dZ,dn]
 ·rintro⟨d,V⟩ ⟨_,e⟩;dsimp only at e;subst e;exact⟨O,q⟩
theorem yq:∀{l m:List Nat},l.Pairwise (· < ·)->m.Pairwise (· < ·)->(∀x,x∈l↔x∈m)->l=m
 |[],[],_,_,_=>rfl
 |[],b::m,_,_,h=>by have:=(h b).mpr mS1;cases this
 |a::l,[],_,_,h=>by have:=(h a).mp mS1;cases this
 |a::l,b::m,hl,hm,h=>by
  rw[bZ]at hl hm;have e:a=b:=by
   rcases aD.mp ((h a).mp mS1)with z|z
   ·exact z
   ·rcases aD.mp ((h b).mpr mS1)with y|y
    ·exact y.symm
    ·have:=hm.1 a z;have:=hl.1 b y;lia
  subst e;rw[yq hl.2 hm.2 λx=>?_];constructor
  ·intro c;rcases aD.mp ((h x).mp (mC1 _ c))with z|z
   ·have:=hl.1 x c;lia
   ·exact z
  ·intro c;rcases aD.mp ((h x).mpr (mC1 _ c))with z|z
   ·have:=hm.1 x c;lia
   ·exact z
theorem GJ{rs:List Nat}(h:rs.Pairwise (· < ·)):oE rs=M:=by
 unfold oE;rw[bA];intro i hi;have hi:=aA.mp hi;have h1:i<rs.length:=by lia
 have h2:i+1<rs.length:=by lia
 rw[al,bG,bG,gG1 h1,gG1 h2];exact b7.mp h i (i+1) h1 h2 (by lia)
theorem nC{f:Nat->D}{n:Nat}(hf:∀i j,i<n->j<n->f i=f j->i=j):∀{l m:List Nat},(∀x∈l,x<n)->(∀x∈m,x<n)->l.map f=m.map f->l=m
 |[],[],_,_,_=>rfl
 |[],_::_,_,_,h=>by cases h
 |_::_,[],_,_,h=>by cases h
 |a::l,b::m,hl,hm,h=>by
  rw[mP1,mP1]at h;injection h with h1 h2;rw[hf a b (hl a mS1) (hm b mS1) h1,nC hf (λx c=>hl x (mC1 _ c)) (λx c=>hm x (mC1 _ c)) h2]
def ord(ws xs:List D):Bool:=tf (xs=ws.filter λw=>tf (w∈xs))
theorem qo{f:Nat->D}{n:Nat}(hf:∀i j,i<n->j<n->f i=f j->i=j){rs:List Nat}(hr:∀r∈rs,r<n):oE rs=ord ((af n).map f) (rs.map f):=by
 have e:((af n).map f).filter (λw=>tf (w∈rs.map f))=((af n).filter λi=>tf (i∈rs)).map f:=by
  rw[List.filter_map]
  congr 1
  refine cH λi hi=>?_;have hi:=aA.mp hi;refine ow ⟨λh=>?_,λh=>b0.mpr ⟨i,h,O⟩⟩;obtain⟨j,b,e⟩:=b0.mp h;rw[<- hf j i (hr j b) hi e];exact b
 unfold ord;rw[e];refine m7 ⟨λh=>?_,λh=>?_⟩
 ·congr 1
  refine yq (zH h) (List.Pairwise.filter _ b9) λx=>?_;rw[az,aA,iP];exact⟨λa=>⟨hr x a,a⟩,λa=>a.2⟩
 ·have h2:=nC hf hr (λx a=>aA.mp (az.mp a).1) h;rw[h2];exact GJ (List.Pairwise.filter _ b9)
theorem AN{e:D}{xs:List D}(h:∀x∈xs,(fq e x=M↔x=e)):xs.any (fq e)=tf (e∈xs):=m7 ⟨λz=>by
 obtain⟨x,a,b⟩:=bM.mp z;rw[<- (h x a).mp b];exact a,λz=>bM.mpr ⟨e,z,(h e z).mpr O⟩⟩
theorem tV:∀{xs es:List D},(∀x∈xs,∀e∈es,(qf x e=M↔x=e))->DN xs es=tf (xs=es)
 |[],[],_=>(kM O).symm
 |[],_::_,_=>(gM λz=>by cases z).symm
 |_::_,[],_=>(gM λz=>by cases z).symm
 |x::xs,e::es,h=>by
  rw[DN,tV λa c b d=>h a (mC1 _ c) b (mC1 _ d)];refine m7 ?_;rw[bA1,h x mS1 e mS1,iP,List.cons.injEq]
theorem yk{s:Str}{x:D}:qf x (.str s)=M↔x = .str s:=by
 cases x with
 |str t=>show(t == s)=M↔_;rw[beq_iff_eq];exact⟨λh=>(by rw[h]),λh=>(by injection h)⟩
 |_=>exact⟨λh=>(by cases h),λh=>(by cases h)⟩
theorem GO{s:Str}{x:D}:fq (.str s) x=M↔x = .str s:=yk
theorem vP{f:D->D->Option Bool}:∀{xs ys:List D},xs.length≠ys.length->DN xs ys=J
 |[],[],h=>by simp at h
 |[],_::_,_=>rfl
 |_::_,[],_=>rfl
 |x::xs,y::ys,h=>by
  rw[DN,vP (f:=f) (xs:=xs) (ys:=ys) (by simpa using h),aZ]
theorem vN{S:Sto}{i j:Nat}{xs es:List D}(h1:S[i]?=Z (.lst xs))(h2:S[j]?=Z (.lst es))(hv:ft S xs=M)(hf:∀e∈es,ek e=M):g6 S dX (.ref i) (.ref j)=Z (DN xs es):=by
 rw[show dX=58+1+1 from rfl,g6,dn,dn,h1,h2];show(if M=M then(if M=M/\xs.length≠es.length then Z J else wU (g6 S (58+1)) xs es)else _)=_;rw[ak O];by_cases a:xs.length=es.length
 ·rw[aj (λz=>z.2 a),uA hv hf]
 ·rw[ak ⟨O,a⟩,vP (f:=λ_ _=>Y) a]
def JN:D->Bool
 | .str _=>M
 |_=>J
theorem xL{S:Sto}{d:D}(h:vd S d=M):io S .str d=Z (JN d):=by
 cases d with
 |ref n=>
  rw[vd]at h;rw[io];split at h<;>first|(rename_i e;rw[e];rfl)|rfl|cases h
 |fn x=>simp[vd]at h
 |_=>rfl
theorem GK{S:Sto}{e:D}{n:Nat}{xs:List D}(hf:ek e=M)(h:S[n]?=Z (.lst xs))(hv:ft S xs=M):lM e (.ref n) S=Z (.bl (xs.any (fq e)),S):=by
 simp only[lM,wS,I7,h,dn,oS1];rw[show dX=59+1 from rfl,ut hf hv];rfl
theorem DW{ws:List D}(hs:∀w∈ws,∃s,w = .str s){d:D}(h:JN d=J):tf (d∈ws)=J:=gM λz=>by
 obtain⟨s,rfl⟩:=hs d z;cases h
theorem uy:∀w∈wEy,∃s,w=D.str s:=by
 intro w a;simp only[wEy,aD,cE,or_false]at a;rcases a with z|z|z|z<;>exact⟨_,z⟩
theorem uu:∀w∈wHa,∃s,w=D.str s:=by
 intro w a;simp only[wHa,aD,cE,or_false]at a;rcases a with z|z|z<;>exact⟨_,z⟩
theorem qL{s:Str}{ws:List D}:ws.any (fq (.str s))=tf (D.str s∈ws):=AN λ_ _=>GO
theorem CK{d:D}{S:Sto}{Q:D×Sto->Prop}(c:d3 S)(hv:vd S d=M)(q:Q (.bl (tf (d∈wEy)),S)):W (db 1 jA [d] S) Q:=by
 refine fI O c (rg hv) λT j a=>?_;have h1:=xL (vd1' a);unfold jA;refine ib ?_;unfold sN;cases hs:JN d with
 |false=>
  ((try walk_at"w");repeat(simp only[d7,h1,hs];try walk_at"w"))
  rw[DW uy hs]at q;exact⟨⟨[],(aK T).symm⟩,O,q⟩
 |true=>
  cases d with
  |str s=>
   ((try walk_at"w");repeat(simp only[d7,h1,hs];try walk_at"w"))
   unfold mT;refine fu.mpr ?_;refine nD (f:=λp:Str×Int=>D.tup [.str p.1,.int p.2]) (λp=>D.str p.1) (λr=>∃x y,r=[x,y]) O [("came",5),("chalk",2),("doors",5),("others",2)] _ ⟨_,_,O⟩ ?_ ?_
   ·rintro p i r ⟨x,y,rfl⟩;walk_at"w";exact⟨_,_,O⟩
   ·rintro h _;refine⟨di (by simp),?_⟩;have g:(T++[Ob.lst wEy])[T.length]?=Z (.lst wEy):=by rw[dh];rfl
    have b:([((Str.ofString "came"),(5:Int)),(Str.ofString "chalk",2),(Str.ofString "doors",5),(Str.ofString "others",2)].map λp:Str×Int=>D.str p.1)=wEy:=rfl;rw[b]
    ((try walk_at"w");repeat(simp only[GK (e:=.str s) O g O,qL];try walk_at"w"))
    exact⟨⟨_,O⟩,O,q⟩
  |_=>cases hs
theorem zD{d:D}{S:Sto}{Q:D×Sto->Prop}(b:d3 S)(hv:vd S d=M)(q:Q (.bl (tf (d∈wHa)),S)):W (db 1 iE [d] S) Q:=by
 refine fI O b (rg hv) λT c a=>?_;have h1:=xL (vd1' a);unfold iE;refine ib ?_;unfold px;cases hs:JN d with
 |false=>
  ((try walk_at"w");repeat(simp only[d7,h1,hs];try walk_at"w"))
  rw[DW uu hs]at q;exact⟨⟨[],(aK T).symm⟩,O,q⟩
 |true=>
  cases d with
  |str s=>
   have e:lM (.str s) mU T=Z (.bl (wHa.any (fq (.str s))),T):=ur O O
   ((try walk_at"w");repeat(simp only[d7,h1,hs,e,qL];try walk_at"w"))
   exact⟨⟨[],(aK T).symm⟩,O,q⟩
  |_=>cases hs
def fE(i:Nat):D:=wEy.getD i .non
def fH(i:Nat):D:=wHa.getD i .non
theorem GS(i:Nat):(fE i).und 0=M:=by
 unfold fE;rw[bG];cases h:wEy[i]? with
 |none=>rfl
 |some x=>obtain⟨s,rfl⟩:=uy x (gM1 h);rfl
theorem GR(i:Nat):(fH i).und 0=M:=by
 unfold fH;rw[bG];cases h:wHa[i]? with
 |none=>rfl
 |some x=>obtain⟨s,rfl⟩:=uu x (gM1 h);rfl
theorem c4{P:Nat->Prop}(b:P 0)(h1:P 1)(h2:P 2)(a:P 3):∀i,i<4->P i
 |0,_=>b
 |1,_=>h1
 |2,_=>h2
 |3,_=>a
 |i+4,h=>by lia
theorem c3{P:Nat->Prop}(a:P 0)(h1:P 1)(h2:P 2):∀i,i<3->P i
 |0,_=>a
 |1,_=>h1
 |2,_=>h2
 |i+3,h=>by lia
theorem D2:∀i j,i<4->j<4->oo (fE i) (fE j) []=Z (.bl (decide (i<j)),[]):=λi j hi a=>by
 revert j
 refine c4 (P:=λi=>∀j,j<4->oo (fE i) (fE j) []=Z (.bl (decide (i<j)),[])) ?_ ?_ ?_ ?_ i hi<;>exact c4 (by kernel_rfl!) (by kernel_rfl!) (by kernel_rfl!) (by kernel_rfl!)
theorem D1:∀i j,i<3->j<3->oo (fH i) (fH j) []=Z (.bl (decide (i<j)),[]):=λi j hi a=>by
 revert j
 refine c3 (P:=λi=>∀j,j<3->oo (fH i) (fH j) []=Z (.bl (decide (i<j)),[])) ?_ ?_ ?_ i hi<;>exact c3 (by kernel_rfl!) (by kernel_rfl!) (by kernel_rfl!)
theorem zG{f:Nat->D}{n:Nat}(h:∀i j,i<n->j<n->oo (f i) (f j) []=Z (.bl (decide (i<j)),[])):∀i j,i<n->j<n->f i=f j->i=j:=λi j hi a e=>by
 have h1:=h i j hi a;have h2:=h j i a hi;rw[e]at h1 h2;rw[h1]at h2;injection h2 with h2;injection h2 with h2;injection h2 with h2;by_cases z:i<j
 ·rw[ah z,ai (by lia)]at h2;cases h2
 ·by_cases b:j<i
  ·rw[ai z,ah b]at h2;cases h2
  ·lia
theorem k1{f:Nat->D}{n:Nat}:∀{xs:List D},(∀x∈xs,x∈(af n).map f) -> ∃a:List Nat,xs=a.map f /\ ∀r∈a,r<n
 |[],_=>⟨[],O,λr c=>by cases c⟩
 |x::xs,h=>by
  obtain⟨i,hi,rfl⟩:=b0.mp (h x mS1);obtain⟨a,rfl,c⟩:=k1 (xs:=xs) λy d=>h y (mC1 _ d);refine⟨i::a,O,λr b=>?_⟩;rcases aD.mp b with z|z
  ·rw[z];exact aA.mp hi
  ·exact c r z
theorem mO{ws xs:List D}(h:xs.all (λx=>tf (x∈ws))=J):ord ws xs=J:=gM λz=>by
 have:xs.all (λx=>tf (x∈ws))=M:=bA.mpr λx a=>kM (by rw[z]at a;exact(az.mp a).1);rw[this]at h;cases h
def jY(ws:List D)(d:D):Bool:=match d with
 | .tup xs=>ord ws xs
 |_=>J
theorem eX{d:D}(h:jE d=M):∃xs,d = .tup xs:=by
 cases d with
 |tup xs=>exact⟨xs,O⟩
 |_=>cases h
theorem vc{ws:List D}{d:D}(h:jE d=J):jY ws d=J:=by
 cases d with
 |tup xs=>cases h
 |_=>rfl
theorem lR{T:Sto}{xs:List D}{F:D->Bool}:gl (.ref T.length) (T++[.lst (xs.map λx=>D.bl (F x))])=Z (.bl (xs.all F),T++[.lst (xs.map λx=>D.bl (F x))]):=by
 unfold gl;rw[ge (n:=T.length) (xs:=xs.map λx=>D.bl (F x)) (by rw[dh];rfl),oS1];dsimp only;rw[iK];rfl
theorem GT{d:D}{S:Sto}{Q:D×Sto->Prop}(h:d3 S)(hv:vd S d=M)(j:∀xs,d = .tup xs->xs.length<=1000)(q:Q (.bl (jY wEy d),S)):W (db 1 hU [d] S) Q:=by
 refine fI O h (rg hv) λT i c=>?_;have e:=vd1' c;have h1:=eP e;unfold hU;refine ib ?_;unfold oa;cases ht:jE d with
 |false=>
  ((try walk_at"w");repeat(simp only[d7,h1,ht];try walk_at"w"))
  rw[vc ht]at q;exact⟨⟨[],(aK T).symm⟩,O,q⟩
 |true=>
  obtain⟨xs,rfl⟩:=eX ht;have a:=j xs O;rw[vd]at e
  ((try walk_at"w");repeat(simp only[d7,h1,ht];try walk_at"w"))
  refine fu.mpr ?_;refine oC (λx=>.bl (tf (x∈wEy))) (λr=>∃x,r=[x]) O xs _ ⟨_,O⟩ ?_ ?_
  ·rintro x b r ⟨y,rfl⟩;walk_at"w";refine CK i (dz e b) ?_;exact⟨O,O,_,O⟩
  ·rintro k _;refine⟨di (by rw[lM1];lia),?_⟩
   ((try walk_at"w");repeat(simp only[lR (F:=λx=>tf (x∈wEy))];try walk_at"w"))
   cases ha:xs.all (λx=>tf (x∈wEy))with
   |false=>
    walk_at"w";have:jY wEy (.tup xs)=J:=mO ha;rw[this]at q;exact⟨⟨_,O⟩,O,q⟩
   |true=>
    walk_at"w";rw[bA]at ha;obtain⟨rs,rfl,g⟩:=k1 (n:=4) (f:=fE) λx b=>iP.mp (ha x b);rw[lM1]at a;refine tU GS g D2 a ?_;have:jY wEy (.tup (rs.map fE))=oE rs:=(qo (zG D2) g).symm;rw[this]at q;exact⟨⟨_,O⟩,O,q⟩
def fT(ws:List D)(d:D):Bool:=match d with
 | .tup xs=> !xs.isEmpty&&ord ws xs
 |_=>J
theorem nl{ws:List D}{d:D}(h:jE d=J):fT ws d=J:=by
 cases d with
 |tup xs=>cases h
 |_=>rfl
theorem Cz{xs:List D}:(((xs.length:Nat):Int) == 0)=xs.isEmpty:=by
 cases xs with
 |nil=>rfl
 |cons x xs=>rfl
theorem CU{d:D}{S:Sto}{Q:D×Sto->Prop}(i:d3 S)(hv:vd S d=M)(k:∀xs,d = .tup xs->xs.length<=1000)(q:Q (.bl (fT wHa d),S)):W (db 1 gI [d] S) Q:=by
 refine fI O i (rg hv) λT j c=>?_;have e:=vd1' c;have h1:=eP e;unfold gI;refine ib ?_;unfold ms;cases ht:jE d with
 |false=>
  ((try walk_at"w");repeat(simp only[d7,h1,ht];try walk_at"w"))
  rw[nl ht]at q;exact⟨⟨[],(aK T).symm⟩,O,q⟩
 |true=>
  obtain⟨xs,rfl⟩:=eX ht;have a:=k xs O;rw[vd]at e;cases he:xs.isEmpty with
  |true=>
   ((try walk_at"w");repeat(simp only[d7,h1,ht,Cz,he];try walk_at"w"))
   have:fT wHa (.tup xs)=J:=by show(!xs.isEmpty&&_)=J;rw[he];rfl
   rw[this]at q;exact⟨⟨[],(aK T).symm⟩,O,q⟩
  |false=>
   have h:fT wHa (.tup xs)=ord wHa xs:=by show(!xs.isEmpty&&_)=_;rw[he];rfl
   rw[h]at q
   ((try walk_at"w");repeat(simp only[d7,h1,ht,Cz,he];try walk_at"w"))
   refine fu.mpr ?_;refine oC (λx=>.bl (tf (x∈wHa))) (λr=>∃x,r=[x]) O xs _ ⟨_,O⟩ ?_ ?_
   ·rintro x b r ⟨y,rfl⟩;walk_at"w";refine zD j (dz e b) ?_;exact⟨O,O,_,O⟩
   ·rintro l _;refine⟨di (by rw[lM1];lia),?_⟩
    ((try walk_at"w");repeat(simp only[lR (F:=λx=>tf (x∈wHa))];try walk_at"w"))
    cases ha:xs.all (λx=>tf (x∈wHa))with
    |false=>
     walk_at"w";rw[mO ha]at q;exact⟨⟨_,O⟩,O,q⟩
    |true=>
     walk_at"w";rw[bA]at ha;obtain⟨rs,rfl,g⟩:=k1 (n:=3) (f:=fH) λx b=>iP.mp (ha x b);rw[lM1]at a;refine tU GR g D1 a ?_;have:ord wHa (rs.map fH)=oE rs:=(qo (zG D1) g).symm;rw[this]at q;exact⟨⟨_,O⟩,O,q⟩
def fS(i:Nat):D:=wSt.getD i .non
theorem c5{P:Nat->Prop}(c:P 0)(h1:P 1)(h2:P 2)(b:P 3)(a:P 4):∀i,i<5->P i
 |0,_=>c
 |1,_=>h1
 |2,_=>h2
 |3,_=>b
 |4,_=>a
 |i+5,h=>by lia
def Cv:D->D
 | .non=>.int (-1)
 |d=>d
theorem ui:∀i,i<5->Cv (fS i) = .int ((i:Int)-1):=c5 O O O O O
theorem GI:∀i j,i<5->j<5->fS i=fS j->i=j:=λi j hi a e=>by
 have h:=congrArg Cv e;rw[ui i hi,ui j a]at h;injection h with h;lia
theorem uZ{x:D}:(mf x||fV 4 x)=tf (x∈wSt):=by
 refine m7 ⟨λh=>?_,λh=>?_⟩
 ·rw[bJ]at h;rcases h with h|h
  ·cases x with
   |non=>exact mS1
   |_=>cases h
  ·cases x with
   |int i=>
    rw[fV,bA1,al,al]at h;rcases(show i=0\/i=1\/i=2\/i=3 by lia)with z|z|z|z<;>subst z<;>simp[wSt]
   |_=>cases h
 ·simp only[wSt,aD,cE,or_false]at h;rcases h with z|z|z|z|z<;>subst z<;>rfl
theorem Jm{a b:FE}{r:Ev}{S:Sto}{Q:D×Sto->Prop}:W (Cs a b r S) Q↔W (a r S) λp=>W (ou p.2 p.1) λk=>if k=M then Q p else W (b r p.2) Q:=by
 unfold Cs;rw[dk];simp only[dk,oj,dv]
theorem Bp{d:D}{S:Sto}{Q:D×Sto->Prop}(B:d3 S)(hv:vd S d=M)(E:∀xs,d = .tup xs->xs.length<=1000)(q:Q (.bl (fT wSt d),S)):W (db 1 gH [d] S) Q:=by
 refine fI O B (rg hv) λT z s=>?_;have t:=vd1' s;have h1:=eP t;unfold gH;refine ib ?_;unfold mq;cases ht:jE d with
 |false=>
  ((try walk_at"w");repeat(simp only[d7,h1,ht];try walk_at"w"))
  rw[nl ht]at q;exact⟨⟨[],(aK T).symm⟩,O,q⟩
 |true=>
  obtain⟨xs,rfl⟩:=eX ht;have b:=E xs O;rw[vd]at t;cases he:xs.isEmpty with
  |true=>
   ((try walk_at"w");repeat(simp only[d7,h1,ht,Cz,he];try walk_at"w"))
   have:fT wSt (.tup xs)=J:=by show(!xs.isEmpty&&_)=J;rw[he];rfl
   rw[this]at q;exact⟨⟨[],(aK T).symm⟩,O,q⟩
  |false=>
   have A:fT wSt (.tup xs)=ord wSt xs:=by show(!xs.isEmpty&&_)=_;rw[he];rfl
   rw[A]at q
   ((try walk_at"w");repeat(simp only[d7,h1,ht,Cz,he];try walk_at"w"))
   refine fu.mpr ?_;refine oC (λx=>.bl (tf (x∈wSt))) (λr=>∃x,r=[x]) O xs _ ⟨_,O⟩ ?_ ?_
   ·rintro x g r ⟨y,rfl⟩;walk_at"w";rw[Jm]
    ((try walk_at"w");repeat(simp only[zQ,ou,mS];try walk_at"w"))
    cases hn:mf x with
    |true=>
     rw[ak O];have l:tf (x∈wSt)=M:=by rw[<- uZ,hn];rfl
     rw[l]
     first|exact⟨rfl,rfl,_,rfl⟩|exact⟨rfl,_,rfl⟩
    |false=>
     rw[aj (by decide)]
     try walk_at"w"
     refine lj (m:=4) z (dz t g) ?_;have l:tf (x∈wSt)=fV 4 x:=by rw[<- uZ,hn];rfl
     rw[l]
     first|exact⟨rfl,rfl,_,rfl⟩|exact⟨rfl,_,rfl⟩
   ·rintro C _;refine⟨di (by rw[lM1];lia),?_⟩
    ((try walk_at"w");repeat(simp only[lR (F:=λx=>tf (x∈wSt))];try walk_at"w"))
    cases ha:xs.all (λx=>tf (x∈wSt))with
    |false=>
     walk_at"w";rw[mO ha]at q;exact⟨⟨_,O⟩,O,q⟩
    |true=>
     walk_at"w";rw[bA]at ha;obtain⟨rs,rfl,k⟩:=k1 (n:=5) (f:=fS) λx g=>iP.mp (ha x g);rw[lM1]at b;refine fu.mpr ?_;generalize a:T++[Ob.lst ((rs.map fS).map λx=>D.bl (tf (x∈wSt)))]=T1;have u:d3 T1:=by
      rw[<- a];exact gD z λo v=>by
       rw[cF.mp v,Ob.und,bu];exact unds_map (λ_=>rfl) rs
     refine oC Cv (λr=>∃x,r=[x]) O (rs.map fS) _ ⟨_,O⟩ ?_ ?_
     ·rintro x g r ⟨y,rfl⟩
      ((try walk_at"w");repeat(simp only[zQ,lK];try walk_at"w"))
      cases x with
      |non=>first|exact⟨rfl,rfl,_,rfl⟩|exact⟨rfl,_,rfl⟩
      |_=>first|exact⟨rfl,rfl,_,rfl⟩|exact⟨rfl,_,rfl⟩
     ·rintro C _;rw [bu];have G:rs.map (Cv∘fS)=rs.map fun i:Nat=>D.int ((i:Int)-1):=cq fun i hi=>ui i (k i hi);rw [G];refine ⟨di (by rw [lM1];lia),?_⟩;have h:d3 (T1++[Ob.lst (rs.map fun i:Nat=>D.int ((i:Int)-1))]):=gD u fun o v=>by
       rw[cF.mp v,Ob.und];exact unds_map (λ_=>rfl) rs
      have c:(T1++[Ob.lst (rs.map λi:Nat=>D.int ((i:Int)-1))])[T1.length]?=Z (.lst (rs.map λi:Nat=>D.int ((i:Int)-1))):=by rw[dh];rfl
      walk_at"w";refine Ay O (by simp[D.unds,D.und]) h ?_;refine(u4 (f:=λi:Nat=>D.int ((i:Int)-1)) (m:=5) (rs:=rs) k ?_ b ?_ ?_).mono ?_
      ·intro i j _ _;show Z (D.bl (decide (((i:Int)-1)<((j:Int)-1))),_)=_;rw[show decide (((i:Int)-1)<((j:Int)-1))=decide (i<j) by rw[bL,al,al];lia]
      ·simp only[dZ,ge c,oP1,lM1]
      ·intro i hi;obtain⟨p,e,rfl⟩:=gp (i:=i) (Q:=λp=>p=(D.int ((rs[i]:Int)-1),T1++[Ob.lst (rs.map λi:Nat=>D.int ((i:Int)-1))])) c (by rw[gP1,gG1 hi];rfl) O;exact e
      ·rintro⟨d,V⟩ ⟨w,e⟩;dsimp only at e w;subst e;refine⟨w,O,?_⟩;have:ord wSt (rs.map fS)=oE rs:=(qo GI k).symm;rw[this]at q;refine⟨⟨[Ob.lst ((rs.map fS).map λx=>D.bl (tf (x∈wSt)))]++[Ob.lst (rs.map λi:Nat=>D.int ((i:Int)-1))],by rw[<- a,aW]⟩,O,q⟩
def fc(lo hi:Int):D->Bool
 | .int i=>decide (lo<=i)&&decide (i<=hi)
 |_=>J
theorem Ln{S:Sto}{d:D}{a b:Int}(h:vd S d=M):ft S [d,.int a,.int b]=M:=by rw[ft,h,ft,ft,ft,vd,vd];rfl
theorem hD{d:D}{lo hi:Int}{S:Sto}{Q:D×Sto->Prop}(c:d3 S)(hv:vd S d=M)(q:Q (.bl (fc lo hi d),S)):W (db 3 dS [d,.int lo,.int hi] S) Q:=by
 refine fI O c (Ln hv) λT e a=>?_;have h1:=tL (vd1' a);have h2:=pH (vd1' a);unfold dS;refine ib ?_;unfold jL;cases d with
 |int i=>
  have a1:io T .int (.int i)=Z M:=h1;have a2:io T .bool (.int i)=Z J:=h2
  ((try walk_at"w");repeat(simp only[d7,a1,a2,me];try walk_at"w"))
  cases hc:decide (lo<=i)with
  |true=>
   walk_at"w";have:fc lo hi (.int i)=decide (i<=hi):=by show(decide (lo<=i)&&_)=_;rw[hc];rfl
   rw[this]at q;exact⟨⟨[],(aK T).symm⟩,O,q⟩
  |false=>
   walk_at"w";have:fc lo hi (.int i)=J:=by show(decide (lo<=i)&&_)=_;rw[hc];rfl
   rw[this]at q;exact⟨⟨[],(aK T).symm⟩,O,q⟩
 |bl b=>
  have a1:io T .int (.bl b)=Z M:=h1;have a2:io T .bool (.bl b)=Z M:=h2
  ((try walk_at"w");repeat(simp only[d7,a1,a2];try walk_at"w"))
  exact⟨⟨[],(aK T).symm⟩,O,q⟩
 |_=>
  have a1:=h1;simp only[rf,xk,Bool.or_self]at a1
  ((try walk_at"w");repeat(simp only[d7,a1];try walk_at"w"))
  exact⟨⟨[],(aK T).symm⟩,O,q⟩
theorem mX{m:Nat}{d:D}:fV m d=fc 0 ((m:Int)-1) d:=by
 cases d with
 |int i=>rw[fV,fc,bL];simp only[bA1,al];lia
 |_=>rfl
theorem AG{a b c:D}{S:Sto}{Q:D×Sto->Prop}(j:d3 S)(ha:vd S a=M)(hb:vd S b=M)(hc:vd S c=M)(q:Q (.bl (fc 1 3 a&&fc 0 8 b&&fc 0 40 c),S)):W (db 3 gi [a,b,c] S) Q:=by
 refine fI O j (by rw[ft,ha,ft,hb,ft,hc,ft];rfl) λT e d=>?_;have h1:=vd1' d;have h2:vd T b=M:=dz d (by simp);have k:vd T c=M:=dz d (by simp);unfold gi;refine ib ?_;unfold lm g7 g8 g9;walk_at"w";refine lj (m:=4) e h1 ?_;walk_at"w";cases h4:fV 4 a with
 |false=>
  walk_at"w";have:fc 1 3 a=J:=by
   cases a with
   |int i=>
    rw[fV,cI,decide_eq_false_iff_not,decide_eq_false_iff_not]at h4;rw[fc,cI,decide_eq_false_iff_not,decide_eq_false_iff_not];lia
   |_=>rfl
  rw[this]at q;exact⟨⟨[],(aK T).symm⟩,O,q⟩
 |true=>
  cases a with
  |int i=>
   rw[fV,bA1,al,al]at h4;walk_at"w";by_cases f:i=0
   ·subst f
    try walk_at"w"
    exact⟨⟨[],(aK T).symm⟩,O,q⟩
   ·have g:(i == 0)=J:=beq_eq_false_iff_ne.mpr f;have h:fc 1 3 (.int i)=M:=by rw[fc,bA1,al,al];lia
    rw[h,cG]at q
    ((try walk_at"w");repeat(simp only[g];try walk_at"w"))
    refine lj (m:=9) e h2 ?_;walk_at"w";cases h5:fV 9 b with
    |false=>
     walk_at"w";rw[mX]at h5;rw[show fc 0 8 b=J from h5]at q;exact⟨⟨[],(aK T).symm⟩,O,q⟩
    |true=>
     walk_at"w";rw[mX]at h5;rw[show fc 0 8 b=M from h5,cG]at q;refine lj (m:=41) e k ?_;rw[mX];exact⟨⟨[],(aK T).symm⟩,O,q⟩
  |_=>cases h4
theorem g5{S:Sto}{G:Sto}:∀{xs:List D},ft S xs=M->ft (S++G) xs=M:=λh=>kH (λn a=>by
 rcases tH a with⟨ys,e⟩|⟨_,e⟩
 ·rw[vd,gL1 (gE1.mp e).1,e]
 ·rw[mF]at e;rw[vd];split at e
  ·rename_i ks z;rw[gL1 (gE1.mp z).1,z]
  ·rename_i ks z;rw[gL1 (gE1.mp z).1,z]
  ·cases e) h
theorem uQ{d:D}{k:Nat}{ws:List D}{S:Sto}{Q:D×Sto->Prop}(m:d3 S)(hk:S[k]?=Z (.lst ws))(hw:∀w∈ws,∃s,w = .str s)(z:ws.length<=10)(hv:vd S d=M)(q:Q (.bl (jY ws d),S)):W (db 2 ei [d,.ref k] S) Q:=by
 refine Ay O (by rw[D.unds,D.unds,D.und];simp) m ?_;have h1:=eP hv;unfold ei;refine ib ?_;unfold ji;cases ht:jE d with
 |false=>
  ((try walk_at"w");repeat(simp only[d7,h1,ht];try walk_at"w"))
  rw[vc ht]at q;exact⟨⟨[],(aK S).symm⟩,O,q⟩
 |true=>
  obtain⟨xs,rfl⟩:=eX ht;have j:=hv;rw[vd]at j;have l:nM (.tup xs) S=Z (.ref S.length,S++[.lst xs]):=rfl
  ((try walk_at"w");repeat(simp only[d7,h1,ht,l];try walk_at"w"))
  have b:(S++[Ob.lst xs])[k]?=Z (.lst ws):=by rw[gL1 (gE1.mp hk).1];exact hk
  refine eJ b ?_;have:=iY (c:=[(k,ws)]) (S:=S++[Ob.lst xs]) (f:=λd:D=>d) (g:=gN 0) (t:=mB (m2 (b2 lM) (mV 0) (mV 1))) (e:=mV 0) (Q:=λp=>p.1=ws.filter (λw=>xs.any (fq w))/\p.2.2=S++[Ob.lst xs]) (λw=>xs.any (fq w)) (λw=>w) (λr=>∃x,r=[x,Z (.tup xs)]) (h9 b) ws [Y,Z (.tup xs)] ⟨_,O⟩ (by
   rintro w a r ⟨y,rfl⟩;obtain⟨s,rfl⟩:=hw w a
   ((try walk_at"w");repeat(simp only[ur (e:=.str s) (xs:=xs) (S:=S++[Ob.lst xs]) O (g5 j)];try walk_at"w"))
   exact⟨⟨_,O⟩,λ_=>trivial⟩) (λn _=>⟨by rw[cJ],O⟩)
  rw[cJ]at this;refine W.mono this ?_;rintro⟨ys,n,C⟩ ⟨rfl,h2⟩;dsimp only at h2 ⊢;subst h2;have o:ws.filter (λw=>xs.any (fq w))=ws.filter λw=>tf (w∈xs):=cH λw a=>by
   obtain⟨s,rfl⟩:=hw w a;exact qL
  rw[o];have h:∀e∈ws.filter (λw=>tf (w∈xs)),ek e=M:=λe i=>by
   obtain⟨s,rfl⟩:=hw e (az.mp i).1;rfl
  refine⟨di (by have:=cy (λw=>tf (w∈xs)) ws;lia),?_⟩;have v:(S++[Ob.lst xs]++[Ob.lst (ws.filter λw=>tf (w∈xs))])[S.length]?=Z (.lst xs):=by rw[aW,dh];rfl
  have A:(S++[Ob.lst xs]++[Ob.lst (ws.filter λw=>tf (w∈xs))])[(S++[Ob.lst xs]).length]?=Z (.lst (ws.filter λw=>tf (w∈xs))):=by rw[dh];rfl
  have u:gEq (.ref S.length) (.ref (S++[Ob.lst xs]).length) (S++[Ob.lst xs]++[Ob.lst (ws.filter λw=>tf (w∈xs))])=Z (.bl (ord ws xs),S++[Ob.lst xs]++[Ob.lst (ws.filter λw=>tf (w∈xs))]):=by
   unfold gEq;rw[vN v A (g5 (g5 j)) h,tV λx B e i=>?_]
   ·rfl
   ·obtain⟨s,rfl⟩:=hw e (az.mp i).1;exact yk
  refine W.of u ?_;exact⟨⟨_,aW _ _ _⟩,O,q⟩
theorem ifs2{c:FT}{k:FS}{r:Ev}{T:Sto}{b:Bool}{Q:Fl×Ev×Sto->Prop}(hc:W (c r T) λp=>p=(!b,T))(a:b=J->Q (.rt (.bl J),r,T))(h1:b=M->W (k r T) Q):W (dq (eg c (dJ (mC (D.bl J))) hB) k r T) Q:=by
 obtain⟨_,e,rfl⟩:=hc;unfold dq eg;rw[e,oS1];cases b with
 |false=>exact dv.mpr (a O)
 |true=>exact h1 O
theorem LV{c:FT}{r:Ev}{T:Sto}{b:Bool}{Q:Fl×Ev×Sto->Prop}(hc:W (c r T) λp=>p=(!b,T))(a:b=J->Q (.rt (.bl J),r,T))(h1:b=M->Q (.nx,r,T)):W (eg c (dJ (mC (D.bl J))) hB r T) Q:=by
 obtain⟨_,e,rfl⟩:=hc;unfold eg;rw[e,oS1];cases b with
 |false=>exact dv.mpr (a O)
 |true=>exact dv.mpr (h1 O)
def Jy(rs:List (List D))(r d:Nat)(x:D):Prop:=∃a b:Nat,x=dP (a,b)/\(a,b)≠(r,d) /\ ∃row y,rs[a]?=Z row/\row[b]?=Z y/\qt y [.int (r:Nat),.int (d:Nat)]=M
theorem D0{r d:Nat}:∀e∈[D.int (r:Nat),D.int (d:Nat)],ek e=M:=λe a=>by
 simp only[aD,cE,or_false]at a;rcases a with z|z<;>subst z<;>rfl
theorem u5{a b r d:Nat}:qt (dP (a,b)) [.int (r:Nat),.int (d:Nat)]=tf ((a,b)=(r,d)):=by
 show(((a:Int) == (r:Int))&&(((b:Int) == (d:Int))&&M))=_;refine m7 ?_;rw[bH,bA1,beq_iff_eq,beq_iff_eq,Prod.mk.injEq];lia
theorem EV{rs:List (List D)}{a:Nat}{row:List D}{T:Sto}(h:rs[a]?=Z row):dm (.tup (rs.map D.tup)) (.int (a:Nat)) T=Z (.tup row,T):=ix_tup (by rw[gP1,h];rfl)
theorem Gx{xs:List D}{T:Sto}:dZ (.tup xs) T=Z (.int (xs.length:Nat),T):=by simp[dZ,dn]
theorem DH{x:D}(h:j4 x=M):∃a b,x = .tup [a,b]:=vR h
def JB:D->D
 | .tup (a::_)=>a
 |_=>.non
theorem Ky{ys:List D}:(((ys.length:Nat):Int) == 2)=decide (ys.length=2):=by
 rw[bL,beq_iff_eq,al];lia
theorem GZ{rs:List (List D)}{r d:Nat}{row:List D}{x:D}{T:Sto}{C G:Option D}{Q:Fl×Ev×Sto->Prop}(R:d3 T)(hv:∀ row∈rs,ft T row=true)(w:rs[r]? = some row)(hx:row[d]? = some x)(aq:Jy rs r d x->Q (.nx,[some (.tup (rs.map D.tup)),some (.int (r:Nat)),some (.tup row),some (.int (d:Nat)),some x,C,G],T))(E:¬ Jy rs r d x->Q (.rt (.bl false),[some (.tup (rs.map D.tup)),some (.int (r:Nat)),some (.tup row),some (.int (d:Nat)),some x,C,G],T)):
  W (gX [Z (.tup (rs.map D.tup)),Z (.int (r:Nat)),Z (.tup row),Z (.int (d:Nat)),Z x,C,G] T) Q:=by
 have f:vd T x=M:=dz (hv row (gM1 w)) (gM1 hx);have wq:∀S,dZ (.tup (rs.map D.tup)) S=Z (.int (rs.length:Nat),S):=λS=>by rw[Gx,lM1]
 have h1:=eP f;unfold gX;refine ifs2 (b:=j4 x&&fc 0 ((rs.length:Int)-1) (JB x)) ?_ (λn=>?_) (λn=>?_)
 ·cases ht:jE x with
  |false=>
   ((try walk_at"w");repeat(simp only[dQ,h1,ht];try walk_at"w"))
   have:j4 x=J:=by cases x with
    |tup ys=>cases ht
    |_=>rfl
   rw[this];rfl
  |true=>
   obtain⟨ys,rfl⟩:=eX ht;cases h2:decide (ys.length=2)with
   |false=>
    have:j4 (.tup ys)=J:=h2
    ((try walk_at"w");repeat(simp only[dQ,h1,ht];try walk_at"w"))
    rw[this,ak (by rw[Ky,h2];rfl)];rfl
   |true=>
    obtain⟨a,b,e⟩:=DH (x:=.tup ys) h2;cases e;have A:∀S,dm (.tup [a,b]) (.int 0) S=Z (a,S):=λS=>ix_tup (i:=0) O;rw[vd]at f
    ((try walk_at"w");repeat(simp only[dQ,h1,ht,A];try walk_at"w"))
    rw[aj (by decide),lM1];refine hD R (dz f (by simp)) ?_;walk_at"w";rw[show j4 (.tup [a,b])=M from rfl,cG];rfl
 ·refine E fun ⟨a,b,e,_,k,y,c,_⟩=>?_;subst e;have:(j4 (dP (a,b))&&fc 0 ((rs.length:Int)-1) (JB (dP (a,b))))=true:=by
   have F:=(gE1.mp c).1;show(M&&(decide ((0:Int)<=(a:Int))&&decide ((a:Int)<=(rs.length:Int)-1)))=M;rw[ah (by lia),ah (by lia)];rfl
  rw[this]at n;cases n
 ·rw[bA1]at n;obtain⟨N,b,rfl⟩:=DH n.1;have u:fc 0 ((rs.length:Int)-1) N=M:=n.2;cases N with
  |int ar=>
   rw[fc,bA1,al,al]at u;obtain⟨a,rfl⟩:∃a:Nat,ar=(a:Nat):=⟨ar.toNat,by lia⟩;obtain⟨ra,h⟩:∃ra,rs[a]?=some ra:=⟨_,gG1 (by lia)⟩;have A:∀S,dm (.tup [.int (a:Nat),b]) (.int 0) S=Z (.int (a:Nat),S):=λS=>ix_tup (i:=0) O;have P:∀S,dm (.tup [.int (a:Nat),b]) (.int 1) S=Z (b,S):=λS=>ix_tup (i:=1) O;have U:∀S,dm (.tup (rs.map D.tup)) (.int (a:Nat)) S=Z (.tup ra,S):=λS=>EV h;have am:vd T b=M:=by rw[vd]at f;exact dz f (by simp)
   have I:=mR (S:=T) (D0 (r:=r) (d:=d)) f;refine ifs2 (b:=fc 0 ((ra.length:Int)-1) b && !qt (.tup [.int (a:Nat),b]) [.int (r:Nat),.int (d:Nat)]) ?_ (λhc=>?_) (λhc=>?_)
   ·((try walk_at"w");repeat(simp only[P,A,U];try walk_at"w"))
    refine hD R am ?_;walk_at"w";cases h4:fc 0 ((ra.length:Int)-1) b with
    |false=>
     walk_at"w";rfl
    |true=>
     ((try walk_at"w");repeat(simp only[I];try walk_at"w"))
     rw[cG,Bool.not_not]
   ·refine E λ⟨v,s,e,l,k,y,c,o,_⟩=>?_;injection e with e;injection e with g e;injection e with j e;injection g with g;have m:v=a:=by lia
    subst m;subst j;rw[h]at c;cases c;have F:=(gE1.mp o).1;have:qt (D.tup [.int (v:Nat),.int (s:Nat)]) [.int (r:Nat),.int (d:Nat)]=J:=by
     have:=u5 (a:=v) (b:=s) (r:=r) (d:=d);rw[gM l]at this;exact this
    rw[this]at hc;have:fc 0 ((ra.length:Int)-1) (.int (s:Nat))=M:=by rw[fc,ah (by lia),ah (by lia)];rfl
    rw[this]at hc;cases hc
   ·rw[bA1]at hc;obtain⟨t,q⟩:=hc;cases b with
    |int ao=>
     rw[fc,bA1,al,al]at t;obtain⟨bn,rfl⟩:∃bn:Nat,ao=(bn:Nat):=⟨ao.toNat,by lia⟩;obtain⟨y,o⟩:∃y,ra[bn]?=some y:=⟨_,gG1 (by lia)⟩;have X:∀S,dm (.tup ra) (.int (bn:Nat)) S=Z (y,S):=λS=>ix_tup o;have B:vd T y=M:=dz (hv ra (gM1 h)) (gM1 o);have l:((a,bn):Nat×Nat)≠(r,d):=λz=>by
      have:=u5 (a:=a) (b:=bn) (r:=r) (d:=d);rw[kM z]at this;rw[show qt (D.tup [.int (a:Nat),.int (bn:Nat)]) [.int (r:Nat),.int (d:Nat)]=M from this]at q;cases q
     have H:=CZ (S:=T) (D0 (r:=r) (d:=d)) B;refine LV (b:=qt y [.int (r:Nat),.int (d:Nat)]) ?_ (λL=>?_) (λL=>?_)
     ·((try walk_at"w");repeat(simp only[A,P,U,X];try walk_at"w"))
      refine W.of H ?_;exact W.of O O
     ·refine E λ⟨v,s,e,_,k,y',c,p,V⟩=>?_;injection e with e;injection e with g e;injection e with j e;injection g with g;injection j with j;have m:v=a:=by lia
      have K:s=bn:=by lia
      subst m;subst K;rw[h]at c;cases c;rw[o]at p;cases p;rw[L]at V;cases V
     ·exact aq ⟨a,bn,O,l,ra,y,h,o,L⟩
    |_=>cases t
  |_=>cases u
def DC(rs:List (List D)):Prop:=∀(r:Nat) (row:List D) (d:Nat) (x:D),rs[r]?=Z row->row[d]?=Z x->Jy rs r d x
theorem k7{α β:Type}{f:α->β}:∀{xs:List β},(∀x∈xs,∃a,x=f a) -> ∃l:List α,xs=l.map f
 |[],_=>⟨[],O⟩
 |x::xs,h=>by
  obtain⟨a,rfl⟩:=h x mS1;obtain⟨l,rfl⟩:=k7 (xs:=xs) λy b=>h y (mC1 _ b);exact⟨a::l,O⟩
theorem G6{a b:Nat×Nat}(h:dP a=dP b):a=b:=by
 unfold dP at h;injection h with h;injection h with h1 h;injection h with h2 h;injection h1 with h1;injection h2 with h2;exact Prod.ext (by lia) (by lia)
def xj(row:List (Nat×Nat)):List D:=row.map dP
theorem D9(w:dL):dW w = .tup ((w.map xj).map D.tup):=by
 unfold dW;rw[bu];rfl
theorem DL{w:dL}{r d:Nat}{row:List D}{x:D}(h:(w.map xj)[r]?=Z row)(hx:row[d]?=Z x):∃p,At w r d p/\x=dP p:=by
 rw[gP1]at h;obtain⟨a,b,rfl⟩:=oM1.mp h;unfold xj at hx;rw[gP1]at hx;obtain⟨p,c,rfl⟩:=oM1.mp hx;exact⟨p,⟨a,b,c⟩,O⟩
theorem Eb{w:dL}{r d:Nat}{p:Nat×Nat}(h:At w r d p):∃a,(w.map xj)[r]?=Z a/\a[d]?=Z (dP p):=by
 obtain⟨b,c,e⟩:=h;exact⟨xj b,by rw[gP1,c];rfl,by unfold xj;rw[gP1,e];rfl⟩
theorem A8{w:dL}(h:WP w):DC (w.map xj):=λr c d x f e=>by
 obtain⟨p,b,rfl⟩:=DL f e;obtain⟨a,h2,g⟩:=Eb (h.back r d p b);exact⟨p.1,p.2,O,h.ne r d p b,a,_,h2,g,by rw[show dP (r,d)=dP (r,d)from rfl,u5];exact kM O⟩
theorem Ds{rs:List (List D)}(u:0<rs.length)(s:rs.length<=8)(A:∀c∈rs,c.length<=4)(h:DC rs):∃w:dL,rs=w.map xj/\WP w:=by
 obtain⟨w,rfl⟩:=k7 (f:=xj) (xs:=rs) λc j=>by
  obtain⟨r,o⟩:=bt j;obtain⟨l,rfl⟩:=k7 (f:=dP) (xs:=c) λx v=>by
   obtain⟨d,B⟩:=bt v;obtain⟨a,b,e,_⟩:=h r c d x o B;exact⟨(a,b),e⟩
  exact⟨l,O⟩
 rw[lM1]at u s;have i:∀r d p,At w r d p->p≠(r,d)/\At w p.1 p.2 (r,d):=λr d p g=>by
  obtain⟨c,h1,h2⟩:=Eb g;obtain⟨a,b,e,n,q,y,C,z,t⟩:=h r c d _ h1 h2;have ep:=G6 e;subst ep;refine⟨n,?_⟩;obtain⟨m,k,rfl⟩:=DL C z;rw[show dP m=dP (m.1,m.2)from rfl,u5,iP]at t;rw[show m=(r,d)from t]at k;exact k
 refine⟨w,O,u,s,λr c o=>?_,λr d p g=>(i r d p g).2,λr d p g=>(i r d p g).1⟩;have:=A (xj c) (b0.mpr ⟨c,gM1 o,O⟩);unfold xj at this
 rwa [lM1]at this
theorem Dc{rs:List (List D)}{T:Sto}{Q:Fl×Ev×Sto->Prop}(E:d3 T)(hv:∀ a∈rs,ft T a=true)(F:DC rs -> ∀p m k g,Q (.nx,[some (.tup (rs.map D.tup)),p,m,k,g,none,none],T))(y:¬ DC rs -> ∀p m k g,Q (.rt (.bl false),[some (.tup (rs.map D.tup)),p,m,k,g,none,none],T)):
  W (gJ (vE (c9 (mV 0) da)) (gT 2 (gn (gN 1) (gn (gN 2) mh))) gW [Z (.tup (rs.map D.tup)),Y,Y,Y,Y,Y,Y] T) Q:=by
 unfold gJ;rw[dk];refine sT (d:=.tup (rs.map D.tup)) (S1:=T) O ?_;refine fu.mpr ?_;refine r9 (λi r S=>S=T/\(∀(r:Nat) (a:List D) (d:Nat) (x:D),r<i->rs[r]?=Z a->a[d]?=Z x->Jy rs r d x) /\ ∃p m k g,r=[Z (.tup (rs.map D.tup)),p,m,k,g,Y,Y]) _ 0 _ _ ⟨O,λr a d x h=>by lia,_,_,_,_,O⟩ (λ_ _ _ _=>rfl) ?_ ?_
 ·rintro i dd b r S ⟨rfl,n,p,m,k,g,rfl⟩;dsimp only at b;rw[ig,gP1]at b;obtain⟨z,A,rfl⟩:=oM1.mp b;obtain⟨a,e,rfl⟩:=oM1.mp A;rw[bI]at *
  walk_at"w";unfold gW gJ;rw[dk];refine sT (d:=.tup a) (S1:=S) O ?_;refine fu.mpr ?_;refine r9 (λj r t=>t=S/\(∀(d:Nat) (x:D),d<j->a[d]?=Z x->Jy rs i d x) /\ ∃k g,r=[Z (.tup (rs.map D.tup)),Z (.int (i:Nat)),Z (.tup a),k,g,Y,Y]) _ 0 _ _ ⟨O,λd x h=>by lia,_,_,O⟩ (λ_ _ _ _=>rfl) ?_ ?_
  ·rintro j dd b r t ⟨rfl,f,k,g,rfl⟩;dsimp only at b;rw[ig]at b;obtain⟨x,l,rfl⟩:=oM1.mp b;rw[bI]at *
   walk_at"w";refine GZ E hv e l (λu=>?_) (λu=>?_)
   ·refine .inl ⟨O,O,λd B G o=>?_,_,_,O⟩;by_cases z:d<j
    ·exact f d B z o
    ·have:d=j:=by lia
     subst this;rw[l]at o;cases o;exact u
   ·refine .inr (.inl ⟨_,O,?_⟩);refine .inr (.inl ⟨_,O,?_⟩);exact y (λC=>u (C i a j x e l)) _ _ _ _
  ·rintro r t ⟨rfl,f,k,g,rfl⟩;refine .inl ⟨O,O,λs q d x w c l=>?_,_,_,_,_,O⟩;by_cases z:s<i
   ·exact n s q d x z c l
   ·have:s=i:=by lia
    subst this;rw[e]at c;cases c;refine f d x ?_ l;rw[ic,bI];exact(gE1.mp l).1
 ·rintro r S ⟨rfl,n,p,m,k,g,rfl⟩;refine F (λr a d x v l=>n r a d x ?_ v l) _ _ _ _;rw[ic,bI,lM1];exact(gE1.mp v).1
structure MI (w:dL)(ao:List Nat)(k:Nat):Prop where
 nd:ao.Nodup
 lt:∀v∈ao,v<w.length
 z:0∈ao
 rch:∀P:Nat->Prop,P 0->(∀r d p,At w r d p->P r->P p.1) -> ∀v∈ao,P v
 nb:∀(i v d:Nat) (p:Nat×Nat),i<k->ao[i]?=some v->At w v d p->p.1∈ao
theorem MI.start{w:dL}(h:WP w):MI w [0] 0:=⟨by simp,λv a=>by rw[cF.mp a];exact h.pos,by simp,λP b _ v a=>by rw[cF.mp a];exact b,λi v d p hi=>by lia⟩
def newL(row:List (Nat×Nat))(ao:List Nat):List Nat:=(row.filter λp=> !ao.contains p.1).map (·.1)
theorem MI.step{w:dL}{ao:List Nat}{k u:Nat}{row:List (Nat×Nat)}(h:MI w ao k)(hw:WP w)(m:ao[k]?=Z u)(hr:w[u]?=Z row):MI w (ao++(af w.length).filter λr=>tf (r∈newL row ao)) (k+1):=by
 have g:∀v,v∈newL row ao -> ∃d p,At w u d p/\p.1=v/\v∉ao:=λv c=>by
  obtain⟨p,f,rfl⟩:=b0.mp c;obtain⟨l,n⟩:=az.mp f;obtain⟨d,A⟩:=bt l;exact⟨d,p,⟨row,hr,A⟩,O,by simpa using n⟩
 have j:∀v,v∈(af w.length).filter (λr=>tf (r∈newL row ao))↔v<w.length/\v∈newL row ao:=λv=>by rw[az,aA,iP]
 refine⟨?_,λv c=>?_,aF _ h.z,λP s hc v c=>?_,λi v d p hi c f=>?_⟩
 ·refine bx.mpr ⟨h.nd,List.Pairwise.filter _ List.nodup_range,λa x b t e=>?_⟩;subst e;obtain⟨_,_,_,_,B⟩:=g a ((j a).mp t).2;exact B x
 ·rcases aE.mp c with z|z
  ·exact h.lt v z
  ·exact((j v).mp z).1
 ·rcases aE.mp c with z|z
  ·exact h.rch P s hc v z
  ·obtain⟨d,p,f,rfl,_⟩:=g v ((j v).mp z).2;exact hc u d p f (h.rch P s hc u (gM1 m))
 ·have y:=(gE1.mp m).1;rw[gL1 (by lia)]at c;by_cases z:i<k
  ·exact aF _ (h.nb i v d p z c f)
  ·have:i=k:=by lia
   subst this;rw[m]at c;cases c;by_cases q:p.1∈ao
   ·exact aF _ q
   ·refine mA1 _ ((j p.1).mpr ⟨(hw.back u d p f).lt,b0.mpr ⟨p,az.mpr ⟨?_,by simpa using q⟩,O⟩⟩);obtain⟨o,h1,h2⟩:=f;rw[hr]at h1;cases h1;exact gM1 h2
theorem MI.few{w:dL}{ao:List Nat}{k:Nat}(h:MI w ao k):ao.length<=w.length:=Law.few h.nd h.lt
theorem MI.end{w:dL}{ao:List Nat}{k:Nat}(h:MI w ao k)(hk:ao.length<=k):ao.length=w.length↔Con w:=by
 constructor
 ·intro e P n hc v b;refine h.rch P n hc v ?_;apply Classical.byContradiction;intro a;have:=Law.few (N:=w.length) (l:=v::ao) (aL.mpr ⟨a,h.nd⟩) fun x f=>by
   rcases aD.mp f with z|z
   ·rw[z];exact b
   ·exact h.lt x z
  rw[lC1]at this;lia
 ·intro hc;have h1:=h.few;by_cases z:ao.length=w.length
  ·exact z
  ·obtain⟨j,m,a⟩:=nO w.length ao (by lia);refine absurd (hc (λv=>v∈ao) h.z (λr d p c g=>?_) j m) a;obtain⟨i,hi⟩:=bt g;exact h.nb i r d p (by have:=(gE1.mp hi).1;lia) hi c
theorem Jq{n b:Nat}{xs ys:List D}{S:Sto}{Q:D×Sto->Prop}(h1:S[n]?=Z (.lst xs))(h2:S[b]?=Z (.lst ys))(a:xs.length+ys.length<=10000)(q:Q (.non,S.set n (.lst (xs++ys)))):W (zS (.ref n) (.ref b) S) Q:=by
 refine W.of ?_ q;simp only[zS,h1,h2];rw[ak (aB a (by decide))]
theorem IG{w:dL}{ao:List Nat}{k u:Nat}{row:List (Nat×Nat)}{T G:Sto}{n c l j:Option D}{Q:Fl×Ev×Sto->Prop}(hw:WP w)(h:MI w ao k)(s:ao[k]? = some u)(hr:w[u]? = some row)(q:∀a,Q (.nx,[some (dW w),n,c,l,j,some (.ref T.length),some (.int ((k+1:Nat):Int))],T++Ob.lst (nmD (ao++(List.range w.length).filter fun r=>tf (r∈newL row ao)))::a)):
  W (gU [Z (dW w),n,c,l,j,Z (.ref T.length),Z (.int (k:Nat))] (T++Ob.lst (nmD ao)::G)) Q:=by
 have N:=hw.few;have y:=h.few;have A:=hw.le u row hr;have B:=(gE1.mp s).1;have g:(T++Ob.lst (nmD ao)::G)[T.length]?=Z (.lst (nmD ao)):=by rw[dh];rfl
 have H:∀S:Sto,S[T.length]?=Z (.lst (nmD ao))->dm (.ref T.length) (.int (k:Nat)) S=Z (.int (u:Nat),S):=λS E=>by
  obtain⟨p,e,rfl⟩:=gp (i:=k) (Q:=λp=>p=(D.int (u:Nat),S)) E (by rw[nmD,gP1,s];rfl) O;exact e
 have am:∀S:Sto,dm (dW w) (.int (u:Nat)) S=Z (.tup (row.map dP),S):=λS=>ix_tup (by rw[gP1,hr];rfl);unfold gU;refine eu (λr S=>∃a,S=T++Ob.lst (nmD (ao++(af w.length).filter λr=>tf (r∈newL row ao)))::a/\r=[Z (dW w),n,c,l,j,Z (.ref T.length),Z (.int (k:Nat))]) ?_ ?_
 ·walk_at"w";refine oi ?_;walk_at"w";refine⟨T.length,nmD ao,O,g,?_⟩
  ((try walk_at"w");repeat(simp only[H _ g,am];try walk_at"w"))
  refine fu.mpr ?_;refine iY (f:=dP) (λp=> !ao.contains p.1) (λp=>D.int (p.1:Nat)) (λr=>∃x,r=[x,Z (.ref T.length)]) O row _ ⟨_,O⟩ ?_ ?_
  ·rintro p o r ⟨x,rfl⟩;have t:∀S,dm (dP p) (.int 0) S=Z (.int (p.1:Nat),S):=λS=>ix_tup (i:=0) O
   ((try walk_at"w");repeat(simp only[t,rW g];try walk_at"w"))
   refine⟨⟨_,O⟩,λ_=>?_⟩
   try((try walk_at"w");repeat(simp only[t];try walk_at"w"))
   all_goals first|trivial|exact⟨rfl,rfl⟩
  ·rintro L _;have z:(row.filter fun p=> !ao.contains p.1).map (fun p=>D.int (p.1:Nat))=nmD (newL row ao):=by
    unfold newL nmD;rw[bu];rfl
   rw[z];have C:(newL row ao).length<=4:=by
    unfold newL;rw[lM1];exact aB (cy _ _) A
   refine⟨di (by rw[eQ];lia),?_⟩;walk_at"w";refine xf (m:=w.length) (f:=λr=>tf (r∈newL row ao)) (xs:=newL row ao) (by rw[gR1 (by lia),show T.length+(G.length+1)-T.length=G.length+1 by lia,gC1,dh];rfl) (λr=>?_) (by lia) ?_
   ·rw[iP];refine⟨λb=>⟨?_,b⟩,λb=>b.2⟩;obtain⟨p,o,rfl⟩:=b0.mp b;obtain⟨d,K⟩:=bt (az.mp o).1;exact(hw.back u d p ⟨row,hr,K⟩).lt
   walk_at"w";have v:((af w.length).filter λr=>tf (r∈newL row ao)).length<=8:=by
    have:=cy (λr=>tf (r∈newL row ao)) (af w.length);rw[cA]at this;lia
   generalize (af w.length).filter (λr=>tf (r∈newL row ao))=F at *
   refine Jq (xs:=nmD ao) (ys:=nmD F) ?_ (by rw[gR1 (by lia),show T.length+(G.length+2)-T.length=G.length+1+1 by lia,gC1,iW];rfl) (by rw[eQ,eQ];lia) ?_
   ·rw[dh];rfl
   ·have I:nmD ao++nmD F=nmD (ao++F):=by simp[nmD]
    rw[I];refine⟨G++[Ob.lst (nmD (newL row ao)),Ob.lst (nmD F)],?_,trivial⟩;rw[List.set_append_right _ _ (nR1 _),Nat.sub_self];rfl
 ·rintro r S ⟨a,rfl,rfl⟩;walk_at"w";have:=q a;rw[show((k+1:Nat):Int)=(k:Int)+1 by push_cast;rfl]at this;exact this
theorem rj:∀{rs c:List (List D)},rs.map D.tup=c.map D.tup->rs=c
 |[],[],_=>rfl
 |[],_::_,e=>by cases e
 |_::_,[],e=>by cases e
 |a::rs,b::c,e=>by
  rw[mP1,mP1]at e;injection e with d f;injection d with d;rw[d,rj f]
def pQ:D->Bool
 | .tup ys=>decide (ys.length<=4)
 |_=>J
theorem Bw{d:D}{xs:List D}(e:d = .tup xs)(h:xs.all pQ=J):iM d=J:=gM λ⟨w,b,g⟩=>by
 subst e;unfold zW at b;injection b with b;subst b;have:(w.map zR).all pQ=M:=bA.mpr λx c=>by
  obtain⟨a,f,rfl⟩:=b0.mp c;show decide ((a.map zP).length<=4)=M;rw[lM1];exact ah ((jU g).1.2.2 a f)
 rw[this]at h;cases h
theorem Bf{xs:List D}(h:¬ (1<=xs.length/\xs.length<=8)):iM (.tup xs)=J:=gM λ⟨w,a,g⟩=>by
 unfold zW at a;injection a with a;subst a;rw[lM1]at h;exact h ⟨(jU g).1.1,(jU g).1.2.1⟩
theorem Be{d:D}(h:jE d=J):iM d=J:=gM λ⟨w,a,g⟩=>by
 subst a;cases h
theorem E1{d:D}(h:pQ d=M):∃ys,d = .tup ys:=by
 cases d with
 |tup ys=>exact⟨ys,O⟩
 |_=>cases h
theorem zy{d:D}{S:Sto}{Q:D×Sto->Prop}(hS:d3 S)(hv:vd S d=M)(q:Q (.bl (iM d),S)):W (db 1 fO [d] S) Q:=by
 refine fI O hS (rg hv) λT hT L=>?_;have E:=vd1' L;have h1:=eP E;unfold fO;refine ib ?_;unfold kr;have nil:∃G,T=T++G:=⟨[],(aK T).symm⟩;refine ifs2 (b:=match d with | .tup xs=>decide (1<=xs.length)&&decide (xs.length<=8)|_=>false) ?_ (λc=>?_) (λc=>?_)
 ·cases ht:jE d with
  |false=>
   ((try walk_at"w");repeat(simp only[dQ,h1,ht];try walk_at"w"))
   cases d with
   |tup xs=>cases ht
   |_=>rfl
  |true=>
   obtain⟨xs,rfl⟩:=eX ht
   ((try walk_at"w");repeat(simp only[dQ,h1,ht,me];try walk_at"w"))
   cases hc:decide ((1:Int)<=(xs.length:Int))with
   |false=>
    walk_at"w";rw[show decide (1<=xs.length)=J by rw[decide_eq_false_iff_not]at hc ⊢;lia];rfl
   |true=>
    walk_at"w";rw[show decide (1<=xs.length)=M by rw[al]at hc ⊢;lia,show decide ((xs.length:Int)<=8)=decide (xs.length<=8) by rw[bL,al,al];lia];rfl
 ·have:iM d=false:=by
   cases d with
   |tup xs=>
    refine Bf λz=>?_;dsimp only at c;rw[ah z.1,ah z.2]at c;cases c
   |_=>exact Be O
  rw[this]at q;exact⟨nil,O,q⟩
 cases d with
 |tup xs=>
  dsimp only at c;rw[bA1,al,al]at c;rw[vd]at E;refine DJ ?_;have cm:W (ev (mTr (mN (b1 gl) (c9 (ed 1 [] (gj (mV 0)) (gN 0) eO (d1 (eY (d7 .tuple (mV 0)) (m2 (b2 (fB λi j=>decide (i<=j))) (mN (b1 dZ) (c9 (mV 0) da)) (mC (D.int 4)))))) da))) [Z (.tup xs),Y,Y,Y,Y,Y,Y] T) λp=>p=(!xs.all pQ,T++[.lst (xs.map λx=>D.bl (pQ x))]):=by
   walk_at"w";refine fu.mpr ?_;refine oC (λx=>.bl (pQ x)) (λr=>∃x,r=[x]) O xs _ ⟨_,O⟩ ?_ ?_
   ·rintro x H r ⟨y,rfl⟩;have s:=eP (dz E H);cases ht:jE x with
    |false=>
     ((try walk_at"w");repeat(simp only[dQ,s,ht];try walk_at"w"))
     refine⟨?_,_,O⟩;cases x with
     |tup ys=>cases ht
     |_=>rfl
    |true=>
     obtain⟨ys,rfl⟩:=eX ht
     ((try walk_at"w");repeat(simp only[dQ,s,ht];try walk_at"w"))
     refine⟨?_,_,O⟩;show D.bl (decide ((ys.length:Int)<=4))=D.bl (decide (ys.length<=4));rw[show decide ((ys.length:Int)<=4)=decide (ys.length<=4) by rw[bL,al,al];lia]
   ·rintro r' _;refine⟨di (by rw[lM1];lia),?_⟩
    ((try walk_at"w");repeat(simp only[lR (F:=pQ)];try walk_at"w"))
  obtain⟨_,ec,rfl⟩:=cm;unfold eg;rw[dk];refine W.of ec ?_;dsimp only;generalize l:T++[Ob.lst (xs.map λx=>D.bl (pQ x))]=T1;have K:d3 T1:=by
   rw[<- l];exact gD hT λo ho=>by
    rw[cF.mp ho,Ob.und];exact unds_map (λ_=>rfl) xs
  have am:∃G,T1=T++G:=⟨_,l.symm⟩;cases ha:xs.all pQ with
  |false=>
   rw[Bw O ha]at q;exact W.of O (.inr ⟨_,O,am,O,q⟩)
  |true=>
   refine W.of O (.inl ⟨O,?_⟩);rw[bA]at ha;obtain⟨C,rfl⟩:=k7 (f:=D.tup) (xs:=xs) λx H=>E1 (ha x H);rw[lM1]at c;have R:∀row∈C,ft T1 row=M:=λrow a=>by
    have:=dz E (b0.mpr ⟨row,a,O⟩);rw[vd]at this;rw[<- l];exact g5 this
   have h4:∀row∈C,row.length<=4:=λrow a=>of_decide_eq_true (ha _ (b0.mpr ⟨row,a,O⟩));refine DJ (Dc K R (λN B n A t=>.inl ⟨O,?_⟩) (λN B n A t=>.inr ⟨_,O,am,O,?_⟩))
   ·obtain ⟨w,rfl,v⟩:=Ds c.1 c.2 h4 N;rw [<- D9] at q ⊢;have eq:iM (dW w)=tf (Con w):=by
     rw[<- vV,tE];refine ow ⟨λ⟨X,e,_,hc⟩=>?_,λhc=>⟨w,O,v,hc⟩⟩;rw[uS e];exact hc
    rw[eq]at q;refine eu (λr S=>S=T1++[Ob.lst (nmD [0])]/\r=[Z (dW w),B,n,A,t,Z (.ref T1.length),Z (.int ((0:Nat):Int))]) ?_ ?_
    ·walk_at"w";exact⟨O,O⟩
    rintro r S ⟨rfl,rfl⟩;refine eu (λr S=>∃ao G B n A t,MI w ao ao.length/\S=T1++Ob.lst (nmD ao)::G /\ ∃k:Nat,r=[Z (dW w),B,n,A,t,Z (.ref T1.length),Z (.int (k:Nat))]) ?_ ?_
    ·refine xC (λk r S=>∃ao G,k<=ao.length/\MI w ao k/\S=T1++Ob.lst (nmD ao)::G/\r=[Z (dW w),B,n,A,t,Z (.ref T1.length),Z (.int (k:Nat))]) 8 ?_ 100000 0 _ _ (by lia) ⟨[0],[],by simp,MI.start v,O,O⟩;rintro k r S ⟨ao,G,hk,h,rfl,rfl⟩;have m:(T1++Ob.lst (nmD ao)::G)[T1.length]?=Z (.lst (nmD ao)):=by rw[dh];rfl
     have aq:=h.few;have wq:=v.few;unfold i8;walk_at"w";refine eJ m ?_;walk_at"w";rw[eQ];by_cases I:k<ao.length
     ·rw[ak (ah (by lia))];refine⟨by lia,?_⟩;obtain⟨u,ar⟩:∃u,ao[k]?=some u:=⟨_,gG1 I⟩;obtain⟨row,V⟩:∃row,w[u]?=some row:=⟨_,gG1 (h.lt u (gM1 ar))⟩;refine IG v h ar V λG'=>⟨O,_,G',?_,h.step v ar V,O,O⟩;rw[lA1];lia
     ·rw[aj (by rw[al];lia)];have:k=ao.length:=by lia
      subst this
      first|exact⟨ao,G,_,_,_,_,h,rfl,_,rfl⟩|exact⟨rfl,ao,G,_,_,_,_,h,rfl,_,rfl⟩
    ·rintro r S ⟨ao,G,z1,z2,z3,z4,h,rfl,k,rfl⟩;have m:(T1++Ob.lst (nmD ao)::G)[T1.length]?=Z (.lst (nmD ao)):=by rw[dh];rfl
     walk_at"w";refine eJ m ?_
     ((try walk_at"w");repeat(simp only[zx];try walk_at"w"))
     rw[eQ];have e9:(((ao.length:Nat):Int) == ((w.length:Nat):Int))=tf (Con w):=m7 (by
      rw[beq_iff_eq,<- h.end (nR1 _)];lia)
     rw[e9];obtain⟨G0,P⟩:=am;exact⟨⟨G0++Ob.lst (nmD ao)::G,by rw[P,aW]⟩,O,q⟩
   ·have:iM (.tup (C.map D.tup))=false:=gM fun ⟨w0,e,g⟩=>by
     obtain⟨X,rfl,U,_⟩:=g;rw[vV,D9]at e;injection e with e;have:C=X.map xj:=rj e;exact N (this ▸ A8 U)
    rw[this]at q;exact q
 |_=>cases c
theorem fv{k:Nat}{xs:List D}(h:bd k (.tup xs)=M):xs.length<=k /\ ∀x∈xs,bd k x=M:=by
 rw[bd,n3,bA1,al,bA]at h;exact h
def toN:D->Nat
 | .int i=>i.toNat
 |_=>0
def eK(m:Nat)(d:D):Bool:=match d with
 | .tup xs=>xs.all (fV m)&&oE (xs.map toN)
 |_=>J
theorem uf{m:Nat}:∀{xs:List D},xs.all (fV m)=M->xs=nmD (xs.map toN)
 |[],_=>rfl
 |x::xs,h=>by
  rw[bK,bA1]at h;have ih:=uf h.2;cases x with
  |int i=>
   have h1:=h.1;unfold fV at h1;rw[bA1,al]at h1;show _::_=D.int ((i.toNat:Nat):Int)::nmD (xs.map toN);rw[<- ih,Int.toNat_of_nonneg h1.1]
  |_=>cases h.1
theorem vi{d:D}{m:Nat}(h:jE d=J):eK m d=J:=by
 cases d with
 |tup xs=>cases h
 |_=>rfl
theorem AU{n:Nat}{S:Sto}{xs:List D}{f:D->Bool}{Q:D×Sto->Prop}(h:S[n]?=Z (.lst (xs.map λx=>.bl (f x))))(q:Q (.bl (xs.all f),S)):W (gl (.ref n) S) Q:=by
 refine W.of ?_ q;unfold gl;rw[ge h,oS1];dsimp only;rw[iK];rfl
def Ji(m:Nat)(d:D):Bool:=match d with
 | .tup xs=>xs.all (fV m)
 |_=>J
theorem EB{m:Nat}{d:D}{e:FE}{a:Option D}{T:Sto}(hv:vd T d=true)(i:∀ xs,d = .tup xs->xs.length<=1000)(he:∀ xs,d = .tup xs -> ∀ x∈xs,W (e [some x,a] T) fun p=>p=(.bl (fV m x),T)):
  W (iV (ev (mTr (d7 .tuple (mV 1)))) (ev (mTr (mN (b1 gl) (c9 (ed 1 [0] (gj (mV 1)) (gN 0) eO (d1 e)) da)))) [a,Z d] T) λp=>(∃G,p.2=T++G)/\p.1 = !(jE d&&Ji m d):=by
 have h1:=eP hv;cases ht:jE d with
 |false=>
  ((try walk_at"w");repeat(simp only[dQ,h1,ht];try walk_at"w"))
  exact⟨⟨[],(aK T).symm⟩,O⟩
 |true=>
  obtain⟨xs,rfl⟩:=eX ht
  ((try walk_at"w");repeat(simp only[dQ,h1,ht];try walk_at"w"))
  rw[fu];have:=nD (c:=[]) (S:=T) (f:=λd:D=>d) (g:=gN 0) (t:=eO) (e:=e) (Q:=λp=>p.1=(xs.map λd=>D.bl (fV m d))/\p.2.2=T) (λd=>.bl (fV m d)) (λr=>∃x,r=[x,a]) O xs [Y,a] ⟨_,O⟩ (by
   rintro x h r ⟨y,rfl⟩;walk_at"w";refine(he xs O x h).mono ?_;rintro p rfl;exact⟨O,O,_,O⟩) (λb _=>⟨O,O⟩)
  rw[cJ]at this;refine W.mono this ?_;rintro⟨ys,b,j⟩ ⟨rfl,h2⟩;dsimp only at h2 ⊢;subst h2;refine⟨di (by rw[lM1];have:=i xs O;lia),?_⟩;refine AU (xs:=xs) (by rw[dh];rfl) ?_;walk_at"w";exact⟨⟨_,O⟩,O⟩
theorem Bn{m:Nat}{d:D}{e:FE}{a:Option D}{T:Sto}(hv:vd T d=true)(i:∀ xs,d = .tup xs->xs.length<=1000)(he:∀ xs,d = .tup xs -> ∀ x∈xs,W (e [some x,a] T) fun p=>p=(.bl (fV m x),T)):
  W (iV (ev (mTr (d7 .tuple (mV 0)))) (ev (mTr (mN (b1 gl) (c9 (ed 1 [1] (gj (mV 0)) (gN 0) eO (d1 e)) da)))) [Z d,a] T) λp=>(∃G,p.2=T++G)/\p.1 = !(jE d&&Ji m d):=by
 have h1:=eP hv;cases ht:jE d with
 |false=>
  ((try walk_at"w");repeat(simp only[dQ,h1,ht];try walk_at"w"))
  exact⟨⟨[],(aK T).symm⟩,O⟩
 |true=>
  obtain⟨xs,rfl⟩:=eX ht
  ((try walk_at"w");repeat(simp only[dQ,h1,ht];try walk_at"w"))
  rw[fu];have:=nD (c:=[]) (S:=T) (f:=λd:D=>d) (g:=gN 0) (t:=eO) (e:=e) (Q:=λp=>p.1=(xs.map λd=>D.bl (fV m d))/\p.2.2=T) (λd=>.bl (fV m d)) (λr=>∃x,r=[x,a]) O xs [Y,a] ⟨_,O⟩ (by
   rintro x h r ⟨y,rfl⟩;walk_at"w";refine(he xs O x h).mono ?_;rintro p rfl;exact⟨O,O,_,O⟩) (λb _=>⟨O,O⟩)
  rw[cJ]at this;refine W.mono this ?_;rintro⟨ys,b,j⟩ ⟨rfl,h2⟩;dsimp only at h2 ⊢;subst h2;refine⟨di (by rw[lM1];have:=i xs O;lia),?_⟩;refine AU (xs:=xs) (by rw[dh];rfl) ?_;walk_at"w";exact⟨⟨_,O⟩,O⟩
theorem DY{c:FT}{k:FS}{r:Ev}{T:Sto}{b:Bool}{Q:Fl×Ev×Sto->Prop}(hc:W (c r T) λp=>(∃G,p.2=T++G)/\p.1 = !b)(f:b=J -> ∀G,Q (.rt (.bl J),r,T++G))(h1:b=M -> ∀G,W (k r (T++G)) Q):W (dq (eg c (dJ (mC (D.bl J))) hB) k r T) Q:=by
 obtain⟨⟨h,g⟩,e,⟨G,a⟩,d⟩:=hc;dsimp only at a d;subst a;subst d;unfold dq eg;rw[e,oS1];cases b with
 |false=>exact dv.mpr (f O G)
 |true=>exact h1 O G
theorem oh{m:Nat}{ws:List D}{d:D}{S:Sto}{Q:D×Sto->Prop}(hw:ws.length=m)(p:d3 S)(h:vd S (.tup ws)=M)(hv:vd S d=M)(o:∀xs,d = .tup xs->xs.length<=1000)(q:Q (.bl (eK m d),S)):W (db 2 fW [.tup ws,d] S) Q:=by
 refine fI O p (by rw[ft,h,ft,hv,ft];rfl) λT u n=>?_;have a:vd T d=M:=dz n (by simp);unfold fW;refine ib ?_;unfold mr;refine DY (EB (m:=m) a o λxs g x l=>?_) (λb G=>?_) (λb G=>?_)
 ·walk_at"w";rw[hw];refine lj u (dz (by rw[g,vd]at a;exact a) l) ?_;rfl
 ·refine ⟨⟨G,rfl⟩,rfl,?_⟩;have:eK m d=false:=by
   cases ht:jE d with
   |false=>exact vi ht
   |true=>
    obtain⟨xs,rfl⟩:=eX ht;rw[ht,cG]at b;show(xs.all (fV m)&&oE (xs.map toN))=J;rw[show xs.all (fV m)=J from b];rfl
  rw[this]at q;exact q
 ·rw [bA1] at b;obtain ⟨xs,rfl⟩:=eX b.1;have e:xs.all (fV m)=true:=b.2;have v:=uf e;have k:∀ r∈xs.map toN,r<m:=fun r s=>by
   obtain⟨x,g,rfl⟩:=b0.mp s;have:=bA.mp e x g;cases x with
   |int i=>rw[fV,bA1,al,al]at this;show i.toNat<m;lia
   |_=>cases this
  have c:=o xs O;have t:eK m (.tup xs)=oE (xs.map toN):=by
   show(xs.all (fV m)&&oE (xs.map toN))=_;rw[e,cG]
  rw[t]at q;generalize xs.map toN=rs at *
  subst v;rw[eQ]at c;walk_at"w";refine tU (f:=λi:Nat=>D.int (i:Nat)) (m:=m) (λ_=>rfl) k (λi j _ _=>?_) c ?_
  ·show Z (D.bl (decide ((i:Int)<(j:Int))),_)=_;rw[show decide ((i:Int)<(j:Int))=decide (i<j) by rw[bL,al,al];lia]
  exact⟨⟨G,O⟩,O,q⟩
theorem vO{S:Sto}{n:Nat}:∀xs ys:List Nat,wU (g6 S (n+1)) (nmD xs) (nmD ys)=Z (xs == ys)
 |[],[]=>rfl
 |[],_::_=>rfl
 |_::_,[]=>rfl
 |x::xs,y::ys=>by
  have e:g6 S (n+1) (.int x) (.int y)=Z ((x:Int) == (y:Int)):=rfl;have a:((x:Int) == (y:Int))=(x == y):=by rw[bL,beq_iff_eq,beq_iff_eq];lia
  have ih:=vO (S:=S) (n:=n) xs ys;show(g6 S (n+1) (.int x) (.int y)).bind (λb=>(wU (g6 S (n+1)) (nmD xs) (nmD ys)).map λc=>b&&c)=_;rw[e,oS1,ih,a,List.cons_beq_cons];rfl
theorem Aa{S:Sto}{i j:Nat}{xs ys:List Nat}(h1:S[i]?=Z (.lst (nmD xs)))(h2:S[j]?=Z (.lst (nmD ys))):gEq (.ref i) (.ref j) S=Z (.bl (xs == ys),S):=by
 unfold gEq dX;rw[show(60:Nat)=58+1+1 from rfl,g6];simp only[dn,h1,h2,vO];by_cases a:(nmD xs).length=(nmD ys).length
 ·simp[a]
 ·have:(xs == ys)=J:=beq_eq_false_iff_ne.mpr λz=>a (by rw[z]);simp[a,this]
theorem oW{m:Nat}{d:D}{S:Sto}{Q:D×Sto->Prop}(l:d3 S)(hv:vd S d=M)(j:∀xs,d = .tup xs->xs.length<60)(q:Q (.bl (eK m d),S)):W (db 2 fr [d,.int m] S) Q:=by
 refine fI O l (by rw[ft,hv,ft,ft,vd];rfl) λT n g=>?_;have a:vd T d=M:=dz g (by simp);unfold fr;refine ib ?_;unfold kq;refine DY (Bn (m:=m) a (λxs c=>by have:=j xs c;lia) λxs c x f=>?_) (λb G=>?_) (λb G=>?_)
 ·have h:vd T x=M:=dz (by rw[c,vd]at a;exact a) f;walk_at"w";refine hD n h ?_;rw[<- mX]
 ·refine ⟨⟨G,rfl⟩,rfl,?_⟩;have:eK m d=false:=by
   cases ht:jE d with
   |false=>exact vi ht
   |true=>
    obtain⟨xs,rfl⟩:=eX ht;rw[ht,cG]at b;show(xs.all (fV m)&&oE (xs.map toN))=J;rw[show xs.all (fV m)=J from b];rfl
  rw[this]at q;exact q
 ·rw [bA1] at b;obtain ⟨xs,rfl⟩:=eX b.1;have i:xs.all (fV m)=true:=b.2;have r:=uf i;have e:=j xs rfl;have o:eK m (.tup xs)=oE (xs.map toN):=by
   show(xs.all (fV m)&&oE (xs.map toN))=_;rw[i,cG]
  rw[o]at q;generalize xs.map toN=rs at *
  subst r;rw[eQ]at e;have k:∀S:Sto,nM (.tup (nmD rs)) S=Z (.ref S.length,S++[.lst (nmD rs)]):=λS=>rfl;have p:∀S:Sto,iH (.tup (nmD rs)) S=Z (.ref S.length,S++[.lst (nmD (EQ rs))]):=λS=>by
   unfold iH;rw[pN];dsimp only;rw[vC,oS1,ak (by rw[lM1];lia),EO]
  rw[<- CQ]at q
  ((try walk_at"w");repeat(simp only[k,p];try walk_at"w"))
  refine W.of (Aa (xs:=rs) (ys:=EQ rs) ?_ ?_) ?_
  ·rw[gR1 (by lia),Nat.add_sub_cancel_left,gR1 (nR1 _),Nat.sub_self];rfl
  ·rw[gR1 (by lia),show T.length+(G.length+1)-T.length=G.length+1 by lia,iW];rfl
  walk_at"w";exact⟨⟨_,O⟩,O,q⟩
def hL(m:Nat)(d:D):Bool:=match d with
 | .tup [a,b]=>eK m a&&(eK m b&&(match a with | .tup []=>false|_=>true))
 |_=>J
theorem jr{d:D}(h:j4 d=M):∃a b,d = .tup [a,b]:=by
 cases d with
 |tup xs=>
  match xs,h with
  |[a,b],_=>exact⟨a,b,O⟩
  |[],h=>simp[j4]at h
  |[_],h=>simp[j4]at h
  |_::_::_::_,h=>simp[j4]at h
 |_=>cases h
theorem uT{d:D}{m:Nat}(h:j4 d=J):hL m d=J:=by
 unfold hL;split
 ·simp[j4]at h
 ·rfl
theorem yf{m:Nat}{a:D}(h:eK m a=M):∃xs,a = .tup xs:=by
 cases a with
 |tup xs=>exact⟨xs,O⟩
 |_=>cases h
theorem tT{m:Nat}{ws:List D}{d:D}{S:Sto}{Q:D×Sto->Prop}(hw:ws.length=m)(n:d3 S)(i:vd S (.tup ws)=M)(hv:vd S d=M)(hs:bd 50 d=M)(q:Q (.bl (hL m d),S)):W (db 2 fM [.tup ws,d] S) Q:=by
 refine fI O n (by rw[ft,i,ft,hv,ft];rfl) λT h g=>?_;have c:vd T d=M:=dz g (by simp);have f:vd T (.tup ws)=M:=dz g (by simp);have nil:∃G,T=T++G:=⟨[],(aK T).symm⟩;unfold fM;refine ib ?_;unfold kl;walk_at"w";refine xN h c ?_;walk_at"w";cases ht:j4 d with
 |false=>
  rw[uT ht]at q;walk_at"w";exact⟨nil,O,q⟩
 |true=>
  obtain⟨a,b,rfl⟩:=jr ht;have p:vd T a=M:=dz (by rw[vd]at c;exact c) (by simp);have o:vd T b=M:=dz (by rw[vd]at c;exact c) (by simp);have j:dm (.tup [a,b]) (.int 0) T=Z (a,T):=rfl;have k:dm (.tup [a,b]) (.int 1) T=Z (b,T):=rfl;have l:∀ys,a = .tup ys->ys.length<=1000:=λys e=>by have:=(fv (e ▸ (fv hs).2 a (by simp))).1;lia
  have r:∀ys,b = .tup ys->ys.length<=1000:=λys e=>by have:=(fv (e ▸ (fv hs).2 b (by simp))).1;lia
  ((try walk_at"w");repeat(simp only[j,k];try walk_at"w"))
  refine oh hw h f p l ?_;walk_at"w";unfold hL at q;dsimp only at q;cases hra:eK m a with
  |false=>
   rw[hra]at q;walk_at"w";exact⟨nil,O,q⟩
  |true=>
   rw[hra,cG]at q
   ((try walk_at"w");repeat(simp only[k];try walk_at"w"))
   refine oh hw h f o r ?_;walk_at"w";cases hrb:eK m b with
   |false=>
    rw[hrb]at q;walk_at"w";exact⟨nil,O,q⟩
   |true=>
    rw[hrb,cG]at q;obtain⟨xs,rfl⟩:=yf hra
    ((try walk_at"w");repeat(simp only[j];try walk_at"w"))
    refine⟨nil,O,?_⟩;cases xs with
    |nil=>exact q
    |cons x xs=>
     have e:decide ((0:Int)<(((x::xs).length:Nat):Int))=M:=ah (by rw[lC1];lia)
     first|exact q|(rw[e];exact q)
def lnD:D->Nat
 | .tup ws=>ws.length
 |_=>0
def jm(d:D):Bool:=match d with
 | .tup [a,b]=>iM a&&hL (lnD a) b
 |_=>J
theorem xE{a:D}(h:iM a=M):∃ws,a = .tup ws:=by
 obtain⟨w,rfl,_⟩:=iP.mp h;exact⟨_,O⟩
theorem vK{d:D}(h:j4 d=J):jm d=J:=by
 unfold jm;split
 ·simp[j4]at h
 ·rfl
theorem C6{d:D}{S:Sto}{Q:D×Sto->Prop}(k:d3 S)(hv:vd S d=M)(hb:bd 50 d=M)(q:Q (.bl (jm d),S)):W (db 1 hQ [d] S) Q:=by
 refine fI O k (rg hv) λT g h=>?_;have c:=vd1' h;have nil:∃G,T=T++G:=⟨[],(aK T).symm⟩;unfold hQ;refine ib ?_;unfold n8;walk_at"w";refine xN g c ?_;walk_at"w";cases ht:j4 d with
 |false=>
  rw[vK ht]at q;walk_at"w";exact⟨nil,O,q⟩
 |true=>
  obtain⟨a,b,rfl⟩:=jr ht;have j:vd T a=M:=dz (by rw[vd]at c;exact c) (by simp);have f:vd T b=M:=dz (by rw[vd]at c;exact c) (by simp);have i:∀S,dm (.tup [a,b]) (.int 0) S=Z (a,S):=λ_=>rfl;have l:∀S,dm (.tup [a,b]) (.int 1) S=Z (b,S):=λ_=>rfl
  ((try walk_at"w");repeat(simp only[i];try walk_at"w"))
  refine CL g j ?_;walk_at"w";have e:Q (.bl (iM a&&hL (lnD a) b),S):=q;cases hw:iM a with
  |false=>
   rw[hw]at e;walk_at"w";exact⟨nil,O,e⟩
  |true=>
   rw[hw,cG]at e;obtain⟨ws,rfl⟩:=xE hw
   ((try walk_at"w");repeat(simp only[i,l];try walk_at"w"))
   refine tT O g j f ((fv hb).2 b (by simp)) ?_;exact⟨nil,O,e⟩
theorem EX{m:Nat}{x:D}(h:qt x []=M):x = .tup []:=by
 cases x with
 |tup xs=>cases xs with
  |nil=>rfl
  |cons _ _=>cases h
 |_=>cases h
theorem z0:∀e∈([]:List D),ek e=M:=λe a=>by cases a
theorem x5{m:Nat}{x y:D}(h:(!qt x [])=M):hL m (.tup [x,y])=(eK m x&&eK m y):=by
 cases x with
 |tup xs=>cases xs with
  |nil=>cases h
  |cons a l=>show(eK m _&&(eK m y&&M))=_;rw[bH]
 |_=>rfl
theorem uk{d:D}{S:Sto}{Q:D×Sto->Prop}(t:d3 S)(hv:vd S d=M)(hb:bd 50 d=M)(q:Q (.bl (jm d),S)):W (db 1 eR [d] S) Q:=by
 refine fI O t (rg hv) λT n p=>?_;have f:=vd1' p;have h1:=eP f;have nil:∃G,T=T++G:=⟨[],(aK T).symm⟩;unfold eR;refine ib ?_;unfold jk;refine ifs2 (b:=j4 d&&iM (JB d)) ?_ (λhc=>?_) (λhc=>?_)
 ·cases ht:jE d with
  |false=>
   ((try walk_at"w");repeat(simp only[dQ,h1,ht];try walk_at"w"))
   have:j4 d=J:=by cases d with
    |tup ys=>cases ht
    |_=>rfl
   rw[this];rfl
  |true=>
   obtain⟨ys,rfl⟩:=eX ht;cases h2:decide (ys.length=2)with
   |false=>
    have:j4 (.tup ys)=J:=h2
    ((try walk_at"w");repeat(simp only[dQ,h1,ht];try walk_at"w"))
    rw[this,ak (by rw[Ky,h2];rfl)];rfl
   |true=>
    obtain⟨a,b,e⟩:=jr (d:=.tup ys) h2;cases e;have g:∀S,dm (.tup [a,b]) (.int 0) S=Z (a,S):=λS=>rfl;rw[vd]at f
    ((try walk_at"w");repeat(simp only[dQ,h1,ht,g];try walk_at"w"))
    rw[aj (by decide)];refine zy n (dz f (by simp)) ?_;walk_at"w";rw[show j4 (.tup [a,b])=M from rfl,cG];rfl
 ·have:jm d=false:=by
   cases ht:j4 d with
   |false=>exact vK ht
   |true=>
    obtain⟨a,b,rfl⟩:=jr ht;rw[ht,cG]at hc;show(iM a&&_)=J;rw[show iM a=J from hc];rfl
  rw[this]at q;exact⟨nil,O,q⟩
 ·rw [bA1] at hc;obtain ⟨a,b,rfl⟩:=jr hc.1;have h:iM a=true:=hc.2;obtain ⟨ws,rfl⟩:=xE h;have i:=(fv hb).2 b (by simp);have c:vd T b=true:=dz (by rw [vd] at f;exact f) (by simp);have k:Q (.bl (hL ws.length b),S):=by
   have:jm (.tup [.tup ws,b])=hL ws.length b:=by show(iM (.tup ws)&&_)=_;rw[h];rfl
   rw[this]at q;exact q
  refine eu (λr V=>V=T/\r=[Z (.tup [.tup ws,b]),Z (.tup ws),Z b]) ?_ ?_
  ·walk_at"w"
  rintro r V ⟨rfl,rfl⟩;have o:=eP c;refine ifs2 (b:=j4 b && !qt (JB b) []) ?_ (λhc=>?_) (λhc=>?_)
  ·cases ht:jE b with
   |false=>
    ((try walk_at"w");repeat(simp only[dQ,o,ht];try walk_at"w"))
    have:j4 b=J:=by cases b with
     |tup ys=>cases ht
     |_=>rfl
    rw[this];rfl
   |true=>
    obtain⟨ys,rfl⟩:=eX ht;cases h2:decide (ys.length=2)with
    |false=>
     have:j4 (.tup ys)=J:=h2
     ((try walk_at"w");repeat(simp only[dQ,o,ht];try walk_at"w"))
     rw[this,ak (by rw[Ky,h2];rfl)];rfl
    |true=>
     obtain⟨x,y,e⟩:=jr (d:=.tup ys) h2;cases e;have g:∀S,dm (.tup [x,y]) (.int 0) S=Z (x,S):=λS=>rfl;rw[vd]at c;have l:=mR (S:=V) z0 (dz c (show x∈[x,y] by simp))
     ((try walk_at"w");repeat(simp only[dQ,o,ht,g];try walk_at"w"))
     rw[aj (by decide)];refine W.of l ?_;refine W.of O ?_;rw[show j4 (.tup [x,y])=M from rfl,cG,Bool.not_not];rfl
  ·have:hL ws.length b=false:=by
    cases ht:j4 b with
    |false=>exact uT ht
    |true=>
     obtain⟨x,y,rfl⟩:=jr ht;rw[ht,cG,Bool.not_eq_false']at hc;have:=EX (m:=0) (show qt x []=M from hc);subst this;show(eK ws.length (.tup [])&&(eK ws.length y&&J))=J;rw[aZ,aZ]
   rw[this]at k;exact⟨nil,O,k⟩
  ·rw [bA1] at hc;obtain ⟨x,y,rfl⟩:=jr hc.1;have u:vd V x=true:=dz (by rw [vd] at c;exact c) (by simp);have z:vd V y=true:=dz (by rw [vd] at c;exact c) (by simp);have g:∀ S,dm (.tup [x,y]) (.int 0) S=some (x,S):=fun S=>rfl;have s:∀ S,dm (.tup [x,y]) (.int 1) S=some (y,S):=fun S=>rfl;have j:Q (.bl (eK ws.length x&&eK ws.length y),S):=by
    rw[x5 (show(!qt x [])=M from hc.2)]at k;exact k
   have w:∀xs,x = .tup xs->xs.length<60:=λxs e=>by have:=(fv (e ▸ (fv i).2 x (by simp))).1;lia
   have v:∀xs,y = .tup xs->xs.length<60:=λxs e=>by have:=(fv (e ▸ (fv i).2 y (by simp))).1;lia
   ((try walk_at"w");repeat(simp only[g];try walk_at"w"))
   refine oW n u w ?_;walk_at"w";cases hrx:eK ws.length x with
   |false=>
    rw[hrx]at j;walk_at"w";exact⟨nil,O,j⟩
   |true=>
    rw[hrx,cG]at j
    ((try walk_at"w");repeat(simp only[s];try walk_at"w"))
    refine oW n z v ?_;exact⟨nil,O,j⟩
def j2(d:D):Bool:=match d with
 | .tup xs=>decide (1<=xs.length)&&decide (xs.length<=6)&&xs.all jm
 |_=>J
def uz(d:D):Bool:=match d with
 | .tup [f,e,h,s,a,b,c]=>j2 f&&(jY wEy e&&(fT wHa h&&(fT wSt s&&(fc 1 3 a&&fc 0 8 b&&fc 0 40 c))))
 |_=>J
def A0(n:Nat):D->Bool
 | .tup xs=>decide (xs.length=n)
 |_=>J
theorem Bk{d:D}{n:Nat}{S:Sto}{Q:D×Sto->Prop}(b:d3 S)(hv:vd S d=M)(q:Q (.bl (A0 n d),S)):W (db 2 dN [d,.int (n:Nat)] S) Q:=by
 refine fI O b (by rw[ft,hv,ft,ft,vd];rfl) λT _ a=>?_;have h1:=eP (vd1' a);unfold dN;refine ib ?_;unfold ip
 ((try walk_at"w");repeat(simp only[d7,h1];try walk_at"w"))
 cases d with
 |tup xs=>
  ((try walk_at"w");repeat(simp only[jE];try walk_at"w"))
  refine⟨⟨[],(aK T).symm⟩,O,?_⟩;have e:(((xs.length:Nat):Int) == (n:Int))=A0 n (.tup xs):=by rw[A0,bL,beq_iff_eq,al];lia
  rw[e];exact q
 |_=>exact⟨⟨[],(aK T).symm⟩,O,q⟩
theorem DI{d:D}(h:A0 7 d=M):∃f e h s a b c,d = .tup [f,e,h,s,a,b,c]:=by
 cases d with
 |tup xs=>
  have g:xs.length=7:=of_decide_eq_true h
  match xs,g with
  |[f,e,h,s,a,b,c],_=>exact⟨f,e,h,s,a,b,c,O⟩
 |_=>cases h
theorem vM{d:D}(h:A0 7 d=J):uz d=J:=by
 unfold uz;split
 ·simp[A0]at h
 ·rfl
theorem C4{d:D}(h:jE d=J):j2 d=J:=by
 cases d with
 |tup xs=>cases h
 |_=>rfl
theorem vJ{xs:List D}(h:¬ (1<=xs.length/\xs.length<=6)):j2 (.tup xs)=J:=by
 show(decide (1<=xs.length)&&decide (xs.length<=6)&&xs.all jm)=J;by_cases z:1<=xs.length
 ·rw[ai (p:=xs.length<=6) (by lia),aZ];rfl
 ·rw[ai z];rfl
theorem z6{d:D}{S:Sto}{Q:D×Sto->Prop}(g:d3 S)(hv:vd S d=M)(hb:bd 50 d=M)(q:Q (.bl (j2 d),S)):W (db 1 gh [d] S) Q:=by
 refine fI O g (rg hv) λT h a=>?_;have c:=vd1' a;have h1:=eP c;have nil:∃G,T=T++G:=⟨[],(aK T).symm⟩;unfold gh;refine ib ?_;unfold ll;refine ifs2 (b:=match d with | .tup xs=>decide (1<=xs.length)&&decide (xs.length<=6)|_=>false) ?_ (λhc=>?_) (λhc=>?_)
 ·cases ht:jE d with
  |false=>
   ((try walk_at"w");repeat(simp only[dQ,h1,ht];try walk_at"w"))
   cases d with
   |tup xs=>cases ht
   |_=>rfl
  |true=>
   obtain⟨xs,rfl⟩:=eX ht
   ((try walk_at"w");repeat(simp only[dQ,h1,ht,me,gA];try walk_at"w"))
   cases hc:decide ((1:Int)<=(xs.length:Int))with
   |false=>
    walk_at"w";rw[show decide (1<=xs.length)=J by rw[decide_eq_false_iff_not]at hc ⊢;lia];rfl
   |true=>
    walk_at"w";rw[show decide (1<=xs.length)=M by rw[al]at hc ⊢;lia,show decide ((xs.length:Int)<=6)=decide (xs.length<=6) by rw[bL,al,al];lia];rfl
 ·have:j2 d=false:=by
   cases d with
   |tup xs=>
    refine vJ λz=>?_;dsimp only at hc;rw[ah z.1,ah z.2]at hc;cases hc
   |_=>rfl
  rw[this]at q;exact⟨nil,O,q⟩
 cases d with
 |tup xs=>
  dsimp only at hc;have f:j2 (.tup xs)=xs.all jm:=by show(_&&_&&xs.all jm)=_;rw[hc];rfl
  rw[f]at q;have i:=(fv hb).1;rw[vd]at c;walk_at"w";refine fu.mpr ?_;refine oC (λx=>.bl (jm x)) (λr=>∃x,r=[x]) O xs _ ⟨_,O⟩ ?_ ?_
  ·rintro x e r ⟨y,rfl⟩;walk_at"w";refine C6 h (dz c e) ((fv hb).2 x e) ?_
   first|exact⟨rfl,rfl,_,rfl⟩|exact⟨rfl,_,rfl⟩
  ·rintro j _;refine⟨di (by rw[lM1];lia),?_⟩
   ((try walk_at"w");repeat(simp only[lR (F:=jm)];try walk_at"w"))
   exact⟨⟨_,O⟩,O,q⟩
 |_=>cases hc
theorem pd{d:D}{S:Sto}{Q:D×Sto->Prop}(t:d3 S)(hv:vd S d=M)(hb:bd 50 d=M)(q:Q (.bl (uz d),S)):W (db 1 fy [d] S) Q:=by
 refine fI O t (rg hv) λT i m=>?_;have g:=vd1' m;have nil:∃G,T=T++G:=⟨[],(aK T).symm⟩;unfold fy;refine ib ?_;unfold mn;refine ifs2 (b:=A0 7 d) ?_ (λhc=>?_) (λhc=>?_)
 ·walk_at"w";refine Bk (n:=7) i g ?_;walk_at"w"
 ·rw[vM hc]at q;exact⟨nil,O,q⟩
 obtain⟨f,e,h,s,a,b,c,rfl⟩:=DI hc;have j:=(fv hb).2;rw[vd]at g;have y:vd T f=M:=dz g (by simp);have w:vd T e=M:=dz g (by simp);have p:vd T h=M:=dz g (by simp);have vs:vd T s=M:=dz g (by simp);have o:vd T a=M:=dz g (by simp);have u:vd T b=M:=dz g (by simp);have z:vd T c=M:=dz g (by simp);have l:∀x∈[f,e,h,s,a,b,c],∀xs,x = .tup xs->xs.length<=1000:=λx v xs ex=>by have:=(fv (ex ▸ j x v)).1;lia
 have k:Q (.bl (j2 f&&(jY wEy e&&(fT wHa h&&(fT wSt s&&(fc 1 3 a&&fc 0 8 b&&fc 0 40 c))))),S):=q;refine eu (λr V=>V=T/\r=[Z (.tup [f,e,h,s,a,b,c]),Z f,Z e,Z h,Z s,Z a,Z b,Z c]) ?_ ?_
 ·walk_at"w"
 rintro r V ⟨rfl,rfl⟩;refine ifs2 (b:=j2 f&&(jY wEy e&&(fT wHa h&&fT wSt s))) ?_ (λhc=>?_) (λhc=>?_)
 ·walk_at"w";refine z6 i y (j f (by simp)) ?_;walk_at"w";cases h1:j2 f with
  |false=>walk_at"w";rfl
  |true=>
   walk_at"w";refine GT i w (l e (by simp)) ?_;walk_at"w";cases h2:jY wEy e with
   |false=>walk_at"w";rfl
   |true=>
    walk_at"w";refine CU i p (l h (by simp)) ?_;walk_at"w";cases h3:fT wHa h with
    |false=>walk_at"w";rfl
    |true=>
     walk_at"w";refine Bp i vs (l s (by simp)) ?_;walk_at"w";rfl
 ·have:(j2 f&&(jY wEy e&&(fT wHa h&&(fT wSt s&&(fc 1 3 a&&fc 0 8 b&&fc 0 40 c)))))=false:=by
   revert hc
   cases j2 f<;>cases jY wEy e<;>cases fT wHa h<;>cases fT wSt s<;>simp
  rw[this]at k;exact⟨nil,O,k⟩
 ·simp only[bA1]at hc;rw[hc.1,hc.2.1,hc.2.2.1,hc.2.2.2,cG,cG,cG,cG]at k;walk_at"w";refine AG i o u z ?_;exact⟨nil,O,k⟩
theorem ifs3{c:FT}{k:FS}{r:Ev}{T:Sto}{b:Bool}{Q:Fl×Ev×Sto->Prop}(hc:W (c r T) λp=>∃G,p=(!b,T++G)/\d3 (T++G))(a:b=J -> ∀G,Q (.rt (.bl J),r,T++G))(h1:b=M -> ∀G,d3 (T++G)->W (k r (T++G)) Q):W (dq (eg c (dJ (mC (D.bl J))) hB) k r T) Q:=by
 obtain⟨_,e,G,rfl,d⟩:=hc;unfold dq eg;rw[e,oS1];cases b with
 |false=>exact dv.mpr (a O G)
 |true=>exact h1 O G d
theorem Ca{T:Sto}(h:d3 T){b:Bool}:∃G,((b,T):Bool×Sto)=(b,T++G)/\d3 (T++G):=⟨[],by rw[aK],by rw[aK];exact h⟩
theorem Ix{T:Sto}{xs:List D}{b:Bool}(h:d3 T)(hx:D.unds (T++[Ob.lst xs]).length xs=M):∃G,((b,T++[Ob.lst xs]):Bool×Sto)=(b,T++G)/\d3 (T++G):=⟨_,O,gD h λo a=>by rw[cF.mp a,Ob.und];exact hx⟩
section
variable{f e h s a b c d:D}{T:Sto}
abbrev rE(d f e h s a b c:D):Ev:=[Z d,Z f,Z e,Z h,Z s,Z a,Z b,Z c]
theorem AD(k:d3 T)(hv:vd T f=M)(hb:bd 50 f=M):W (iV (ev (mTr (d7 .tuple (mV 1)))) (iV (ev (mB (me (b2 (fB λi j=>decide (i<=j))) (b2 (fB λi j=>decide (i<=j))) (mC (D.int 1)) (mN (b1 dZ) (c9 (mV 1) da)) (mC (D.int 6))))) (ev (mTr (mN (b1 gl) (c9 (ed 1 [] (gj (mV 1)) (gN 0) eO (d1 (mN (db 1 eR) (c9 (mV 0) da)))) da))))) (rE d f e h s a b c) T) λp=>∃G,p=(!j2 f,T++G)/\d3 (T++G):=by
 have h1:=eP hv;cases ht:jE f with
 |false=>
  ((try walk_at"w");repeat(simp only[dQ,h1,ht];try walk_at"w"))
  rw[C4 ht];exact Ca k
 |true=>
  obtain⟨xs,rfl⟩:=eX ht;have t:=(fv hb).1;have o:=hv;rw[vd]at o;by_cases l:1<=xs.length/\xs.length<=6
  ·have g:decide ((1:Int)<=(xs.length:Int))=M:=ah (by lia);have m:decide ((xs.length:Int)<=6)=M:=ah (by lia);have q:j2 (.tup xs)=xs.all jm:=by show(_&&_&&xs.all jm)=_;rw[ah l.1,ah l.2];rfl
   rw[q]
   ((try walk_at"w");repeat(simp only[dQ,h1,ht,me,g];try walk_at"w"))
   ((try walk_at"w");repeat(simp only[m];try walk_at"w"))
   refine fu.mpr ?_;refine oC (λx=>.bl (jm x)) (λr=>∃x,r=[x]) O xs _ ⟨_,O⟩ ?_ ?_
   ·rintro x n r ⟨y,rfl⟩;walk_at"w";refine uk k (dz o n) ((fv hb).2 x n) ?_
    first|exact⟨rfl,rfl,_,rfl⟩|exact⟨rfl,_,rfl⟩
   ·rintro u _;refine⟨di (by rw[lM1];lia),?_⟩
    ((try walk_at"w");repeat(simp only[lR (F:=jm)];try walk_at"w"))
    exact Ix k (unds_map (λ_=>rfl) xs)
  ·rw[vJ l];by_cases z:1<=xs.length
   ·have g:decide ((1:Int)<=(xs.length:Int))=M:=ah (by lia);have m:decide ((xs.length:Int)<=6)=J:=ai (by lia)
    ((try walk_at"w");repeat(simp only[dQ,h1,ht,me,g];try walk_at"w"))
    ((try walk_at"w");repeat(simp only[m];try walk_at"w"))
    exact Ca k
   ·have g:decide ((1:Int)<=(xs.length:Int))=J:=ai (by lia)
    ((try walk_at"w");repeat(simp only[dQ,h1,ht,me,g];try walk_at"w"))
    exact Ca k
theorem ik{G:Sto}(h:vd T d=M):vd (T++G) d=M:=by
 have:=g5 (G:=G) (rg h);exact vd1' this
theorem GU:D.unds 0 wEy=M:=rfl
theorem GL:D.unds 0 wHa=M:=rfl
theorem Hc(j:d3 T)(hv:vd T e=M):W (ev (mTr (mN (db 2 ei) (c9 (mV 2) (c9 (eW (c9 (mC (D.str "came")) (c9 (mC (D.str "chalk")) (c9 (mC (D.str "doors")) (c9 (mC (D.str "others")) da))))) da)))) (rE d f e h s a b c) T) λp=>∃G,p=(!jY wEy e,T++G)/\d3 (T++G):=by
 have g:d3 (T++[Ob.lst wEy]):=gD j λo i=>by rw[cF.mp i,Ob.und];exact dI GU
 walk_at"w";refine uQ (ws:=wEy) g (by rw[dh];rfl) uy (by simp[wEy]) (ik hv) ?_;walk_at"w";exact⟨_,O,g⟩
theorem K8{xs:List D}:qt (.tup xs) []=xs.isEmpty:=by
 cases xs<;>rfl
theorem B1{ws:List D}:(jY ws h && !qt h [])=fT ws h:=by
 cases h with
 |tup xs=>show(ord ws xs && !qt (.tup xs) [])=(!xs.isEmpty&&ord ws xs);rw[K8,Bool.and_comm]
 |_=>rfl
theorem Dk(k:d3 T)(hv:vd T h=M)(hs:vd T s=M):W (iV (ev (mTr (mN (db 2 ei) (c9 (mV 3) (c9 (eW (c9 (mC (D.str "leave")) (c9 (mC (D.str "mark")) (c9 (mC (D.str "wipe")) da)))) da))))) (iV (mB (m2 (b2 gEq) (mV 3) (d2 da))) (ev (mTr (d7 .tuple (mV 4))))) (rE d f e h s a b c) T) λp=>∃G,p=(!(fT wHa h&&jE s),T++G)/\d3 (T++G):=by
 have g:d3 (T++[Ob.lst wHa]):=gD k λo j=>by rw[cF.mp j,Ob.und];exact dI GL
 have i:=mR (S:=T++[Ob.lst wHa]) z0 (ik (G:=[Ob.lst wHa]) hv);have h1:=eP (ik (G:=[Ob.lst wHa]) hs);rw[<- B1];walk_at"w";refine uQ (ws:=wHa) g (by rw[dh];rfl) uu (by simp[wHa]) (ik hv) ?_;walk_at"w";cases h2:jY wHa h with
 |false=>
  walk_at"w";exact⟨_,O,g⟩
 |true=>
  walk_at"w";refine W.of i ?_;walk_at"w";cases h3:qt h []with
  |true=>
   walk_at"w";exact⟨_,O,g⟩
  |false=>
   ((try walk_at"w");repeat(simp only[dQ,h1];try walk_at"w"))
   exact⟨_,O,g⟩
end
theorem sP{α:Type}{F:α->Bool}:∀xs:List α,Mi.AO (xs.map λx=>D.bl (F x))=Z (xs.any F)
 |[]=>rfl
 |x::xs=>by rw[mP1,Mi.AO,sP xs];rfl
theorem Hi{T:Sto}{xs:List D}{F:D->Bool}:zV (.ref T.length) (T++[.lst (xs.map λx=>D.bl (F x))])=Z (.bl (xs.any F),T++[.lst (xs.map λx=>D.bl (F x))]):=by
 unfold zV;rw[ge (n:=T.length) (xs:=xs.map λx=>D.bl (F x)) (by rw[dh];rfl),oS1];dsimp only;rw[sP];rfl
theorem DO{e x:D}(he:e∈wSt)(hx:xk x=J):qf x e=M↔x=e:=by
 simp only[wSt,aD,cE,or_false]at he;rcases he with z|z|z|z|z<;>subst z<;>cases x with
 |bl b=>cases hx
 | int i=>first
   |exact⟨λh=>(by cases h),λh=>(by cases h)⟩
   | (refine ⟨fun h=>?_,fun h=>(by cases h;rfl)⟩
      have h':(i == _)=M:=h;rw[beq_iff_eq]at h';rw[h'])
 |non=>first|exact⟨λ_=>rfl,λ_=>rfl⟩|exact⟨λh=>(by cases h),λh=>(by cases h)⟩
 |_=>exact⟨λh=>(by cases h),λh=>(by cases h)⟩
theorem u0:∀e∈wSt,ek e=M:=λe a=>by
 simp only[wSt,aD,cE,or_false]at a;rcases a with z|z|z|z|z<;>subst z<;>rfl
section
variable{f e h a b c d:D}{T:Sto}{xs:List D}
theorem c_any(j:d3 T)(hv:ft T xs=M)(n:xs.length<=1000):W (iV (mB (m2 (b2 gEq) (mV 4) (d2 da))) (mTr (mN (b1 zV) (c9 (ed 1 [] (gj (mV 4)) (gN 0) eO (d1 (d7 .bool (mV 0)))) da))) (rE d f e h (.tup xs) a b c) T) λp=>∃G,p=(!(!xs.isEmpty && !xs.any xk),T++G)/\d3 (T++G):=by
 have g:=mR (S:=T) (y:=.tup xs) z0 (by rw[vd];exact hv);rw[K8]at g;walk_at"w";refine W.of g ?_;walk_at"w";cases h3:xs.isEmpty with
 |true=>
  walk_at"w";exact Ca j
 |false=>
  walk_at"w";refine fu.mpr ?_;refine oC (λx=>.bl (xk x)) (λr=>∃x,r=[x]) O xs _ ⟨_,O⟩ ?_ ?_
  ·rintro x l r ⟨y,rfl⟩;have i:=pH (dz hv l)
   ((try walk_at"w");repeat(simp only[dQ,i];try walk_at"w"))
   all_goals first|exact⟨rfl,rfl,_,rfl⟩|exact⟨rfl,_,rfl⟩|exact⟨_,rfl⟩
  ·rintro m _;refine⟨di (by rw[lM1];lia),?_⟩
   ((try walk_at"w");repeat(simp only[Hi (F:=xk)];try walk_at"w"))
   obtain⟨G,e,k⟩:=Ix (b:=M) j (xs:=xs.map λx=>D.bl (xk x)) (unds_map (λ_=>rfl) xs);injection e with _ e;exact⟨G,by rw[<- e,Bool.not_and,Bool.not_not];rfl,k⟩
theorem c_list(K:d3 T)(H:D.unds T.length xs=M)(hv:ft T xs=M)(L:xs.length<=1000)(A:∀x∈xs,xk x=J):W (mB (m2 (b2 gNe) (mN (b1 nM) (c9 (mV 4) da)) (ed 1 [4] (gj (eW (c9 (mC D.non) (c9 (mC (D.int 0)) (c9 (mC (D.int 1)) (c9 (mC (D.int 2)) (c9 (mC (D.int 3)) da))))))) (gN 0) (mB (m2 (b2 lM) (mV 0) (mV 1))) (d1 (mV 0)))) (rE d f e h (.tup xs) a b c) T) λp=>∃G,p=(!ord wSt xs,T++G)/\d3 (T++G):=by
 have I:nM (.tup xs) T=Z (.ref T.length,T++[.lst xs]):=rfl
 ((try walk_at"w");repeat(simp only[I];try walk_at"w"))
 generalize i:T++[Ob.lst xs,Ob.lst [D.non,D.int 0,D.int 1,D.int 2,D.int 3]]=T2;have u:T2[T.length+1]?=Z (.lst wSt):=by rw[<- i,iW];rfl
 have m:T2[T.length]?=Z (.lst xs):=by rw[<- i,dh];rfl
 have n:ft T2 xs=M:=by rw[<- i];exact g5 hv
 refine eJ u ?_;have:=iY (c:=[(T.length+1,wSt)]) (S:=T2) (f:=λd:D=>d) (g:=gN 0) (t:=mB (m2 (b2 lM) (mV 0) (mV 1))) (e:=mV 0) (Q:=λp=>p.1=wSt.filter (λw=>xs.any (fq w))/\p.2.2=T2) (λw=>xs.any (fq w)) (λw=>w) (λr=>∃x,r=[x,Z (.tup xs)]) (h9 u) wSt [Y,Z (.tup xs)] ⟨_,O⟩ (by
  rintro w j r ⟨y,rfl⟩
  ((try walk_at"w");repeat(simp only[ur (e:=w) (xs:=xs) (S:=T2) (u0 w j) n];try walk_at"w"))
  exact⟨⟨_,O⟩,λ_=>trivial⟩) (λE _=>⟨by rw[cJ],O⟩)
 rw[cJ]at this;refine W.mono this ?_;rintro⟨ys,E,k⟩ ⟨rfl,h2⟩;dsimp only at h2 ⊢;subst h2;have am:wSt.filter (λw=>xs.any (fq w))=wSt.filter λw=>tf (w∈xs):=cH λw j=>AN λx l=>DO j (A x l);rw[am];have s:∀e∈wSt.filter (λw=>tf (w∈xs)),ek e=M:=λe q=>u0 e (az.mp q).1;refine⟨di (by have:=cy (λw=>tf (w∈xs)) wSt;simp[wSt]at this ⊢;lia),?_⟩;have C:(k++[Ob.lst (wSt.filter λw=>tf (w∈xs))])[T.length]?=Z (.lst xs):=by rw[gL1 (gE1.mp m).1];exact m
 have F:(k++[Ob.lst (wSt.filter λw=>tf (w∈xs))])[k.length]?=Z (.lst (wSt.filter λw=>tf (w∈xs))):=by rw[dh];rfl
 have B:gNe (.ref T.length) (.ref k.length) (k++[Ob.lst (wSt.filter λw=>tf (w∈xs))])=Z (.bl (!ord wSt xs),k++[Ob.lst (wSt.filter λw=>tf (w∈xs))]):=by
  unfold gNe;rw[vN C F (g5 n) s,tV λx l e q=>DO (az.mp q).1 (A x l)];rfl
 refine W.of B ?_;refine W.of O ?_;subst i;refine⟨_,by rw[aW],?_⟩;refine gD K λo v=>?_;simp only[bm,a0,aD,cE,or_false]at v;rcases v with z|z|z<;>subst z<;>rw[Ob.und]
 ·exact gy (by simp) H
 ·rfl
 ·refine dI (hZ λx l=>?_);have:=(az.mp l).1;simp only[wSt,aD,cE,or_false]at this;rcases this with z|z|z|z|z<;>subst z<;>rfl
end
theorem Fy{ws:List D}{h:D}(z:jE h=J):fT ws h=J:=nl z
theorem si{d:D}{S:Sto}{Q:D×Sto->Prop}(B:d3 S)(hv:vd S d=M)(L:d.und S.length=M)(hb:bd 50 d=M)(q:Q (.bl (uz d),S)):W (db 1 eI [d] S) Q:=by
 have l:∀T,d3 T->ft T [d]=M->D.und T.length d=M->W (eI [d] T) λp=>(∃G,p.2=T++G)/\p.1.und 0=M/\Q (p.1,S):=λT ar u k=>by
  have j:=vd1' u;have h1:=eP j;have nil:∃G,T=T++G:=⟨[],(aK T).symm⟩;unfold eI;refine ib ?_;unfold iJ;refine ifs2 (b:=A0 7 d) ?_ (λhc=>?_) (λhc=>?_)
  ·cases ht:jE d with
   |false=>
    ((try walk_at"w");repeat(simp only[dQ,h1,ht];try walk_at"w"))
    cases d with
    |tup xs=>cases ht
    |_=>rfl
   |true=>
    obtain⟨xs,rfl⟩:=eX ht
    ((try walk_at"w");repeat(simp only[dQ,h1,ht];try walk_at"w"))
    have e:(((xs.length:Nat):Int) == 7)=A0 7 (.tup xs):=by rw[A0,bL,beq_iff_eq,al];lia
    rw[e]
  ·rw[vM hc]at q;exact⟨nil,O,q⟩
  obtain⟨f,e,h,s,a,b,c,rfl⟩:=DI hc;have m:=(fv hb).2;rw[vd]at j;have F:vd T f=M:=dz j (by simp);have R:vd T e=M:=dz j (by simp);have I:vd T h=M:=dz j (by simp);have vs:vd T s=M:=dz j (by simp);have K:vd T a=M:=dz j (by simp);have E:vd T b=M:=dz j (by simp);have H:vd T c=M:=dz j (by simp);have y:s.und T.length=M:=by
   rw[D.und,iO,bA]at k;exact k s (by simp)
  have i:Q (.bl (j2 f&&(jY wEy e&&(fT wHa h&&(fT wSt s&&(fc 1 3 a&&fc 0 8 b&&fc 0 40 c))))),S):=q;refine eu (λr V=>V=T/\r=rE (.tup [f,e,h,s,a,b,c]) f e h s a b c) ?_ ?_
  ·walk_at"w"
  rintro r V ⟨rfl,rfl⟩;refine ifs3 (AD ar F (m f (by simp))) (λhc G=>?_) (λhc G1 P=>?_)
  ·rw[hc]at i;exact⟨⟨G,O⟩,O,i⟩
  rw[hc,cG]at i;refine ifs3 (Hc P (ik R)) (λhc G=>?_) (λhc G2 w=>?_)
  ·rw[hc]at i;exact⟨⟨_,aW _ _ _⟩,O,i⟩
  rw[hc,cG]at i;rw[aW]at w ⊢;refine ifs3 (Dk w (ik I) (ik vs)) (λhc G=>?_) (λhc G3 A=>?_)
  ·have:(fT wHa h&&(fT wSt s&&(fc 1 3 a&&fc 0 8 b&&fc 0 40 c)))=false:=by
    rw[cI]at hc;rcases hc with z|z
    ·rw[z];rfl
    ·rw[Fy z];simp
   rw[this]at i;exact⟨⟨_,aW _ _ _⟩,O,i⟩
  rw[bA1]at hc;obtain⟨xs,rfl⟩:=eX hc.2;rw[hc.1,cG]at i;rw[aW]at A ⊢;have U:=(fv (m _ (by simp):bd 50 (.tup xs)=M)).1;rw[vd]at vs;refine ifs3 (c_any A (g5 vs) (by lia)) (λhc G=>?_) (λhc am C=>?_)
  ·have:fT wSt (.tup xs)=false:=by
    show(!xs.isEmpty&&ord wSt xs)=J;rw[cI]at hc;rcases hc with z|z
    ·rw[z];rfl
    ·rw[Bool.not_eq_false']at z;obtain⟨x,t,v⟩:=bM.mp z;rw[mO (List.all_eq_false.mpr ⟨x,t,λn=>?_⟩),aZ];have n:=iP.mp n;simp only[wSt,aD,cE,or_false]at n;rcases n with z|z|z|z|z<;>subst z<;>cases v
   rw[this]at i;exact⟨⟨_,aW _ _ _⟩,O,i⟩
  rw[bA1]at hc;have v:∀x∈xs,xk x=J:=λx t=>by
   have:=hc.2;rw[Bool.not_eq_true']at this;exact List.any_eq_false.mp this x t |> λz=>by simpa using z
  have N:fT wSt (.tup xs)=ord wSt xs:=by show(!xs.isEmpty&&ord wSt xs)=_;rw[hc.1];rfl
  rw[N]at i;rw[aW]at C ⊢;rw[D.und]at y;refine ifs3 (c_list C (gy (by simp) y) (g5 vs) (by lia) v) (λhc G=>?_) (λhc ao o=>?_)
  ·rw[hc]at i;exact⟨⟨_,aW _ _ _⟩,O,i⟩
  rw[hc,cG]at i;rw[aW]at o ⊢;generalize G1++G2++G3++am++ao=G at *
  have g:∃G',V++G=V++G':=⟨G,O⟩;walk_at"w";refine hD o (ik K) ?_;walk_at"w";cases h5:fc 1 3 a with
  |false=>
   rw[h5]at i;walk_at"w";exact⟨g,O,i⟩
  |true=>
   rw[h5,cG]at i;walk_at"w";refine hD o (ik E) ?_;walk_at"w";cases h6:fc 0 8 b with
   |false=>
    rw[h6]at i;walk_at"w";exact⟨g,O,i⟩
   |true=>
    rw[h6,cG]at i;walk_at"w";refine hD o (ik H) ?_;exact⟨g,O,i⟩
 cases hu0:D.unds 0 [d]with
 |true=>exact jg O hu0 ((l [] rfl (m4 (rg hv) hu0) (by rw[D.unds,bA1]at hu0;exact hu0.1)).mono λp z=>⟨z.2.1,z.2.2⟩)
 |false=>exact Ay O hu0 B (l S B (rg hv) L)
theorem pM{o:Ob}{n:Nat}{T:Sto}(ho:Hnd o n)(a:ClT T):d3 (o::T):=by
 unfold d3;rw[bK,ho.und,lC1];exact a
theorem pI{n:Nat}{o:Ob}{T:Sto}{k:Int}{Q:D×Sto->Prop}(ho:Hnd o n)(f:ClT T)(hn:n<=2^50)(hk:0<k)(c:k<1073741824)(q:∀(d:Nat) o',Hnd o' (n+1)->(d:Int)<k->Q (.int d,o'::T)):W (db 2 de [.ref 0,.int k] (o::T)) Q:=by
 have s:HZ n (o::T) (o::T):=⟨by simp,nR1 _,λ_ _ _=>rfl,⟨o,O,ho⟩,pM ho f⟩;refine eU s hn hk c λd g a h l j=>?_;obtain⟨o',e,b⟩:=a.hand;have:g=o'::T:=by
  refine bT λi=>?_;cases i with
  |zero=>rw[e];rfl
  |succ i=>
   by_cases hi:i+1<(o::T).length
   ·rw[h.same (i+1) (by lia) hi];rfl
   ·rw[bU (by lia),bU (by simpa using hi)]
 subst this;exact q d o' b j
theorem Hk{f:FN}{a b:FE}{r:Ev}{S:Sto}{Q:D×Sto->Prop}(h:W (a r S) λp=>W (b r p.2) λq=>W (f [p.1,q.1] q.2) Q):W (m2 f a b r S) Q:=by
 unfold m2;rw[dk];exact h.mono λp c=>by rw[dk];exact c
theorem Fg{o:Ob}{n k p:Nat}{T G:Sto}{L:List D}{r:Ev}{Q:D×Sto->Prop}(ho:Hnd o n)(hn:n<=2^40)(l:ClT (T++G))(hp:(T++G)[p]? = Z (.lst L))(m:0<L.length)(s:L.length<=300)(j:r[0]? = Z (Z (.ref 0)))(h2:r[2]? = Z (Z (.ref (p+1))))(hx:∀ o',Hnd o' (n+1) -> ∀ x∈L,Ok k (o'::(T++G)) x)(q:∀x o',Hnd o' (n+1)->Ok k (o'::(T++G)) x->Q (x,o'::(T++G))):W (m2 (b2 dm) (mV 2) (mN (db 2 de) (c9 (mV 0) (c9 (mN (b1 dZ) (c9 (mV 2) da)) da))) r (o::(T++G))) Q:=by
 have f:∀o:Ob,(o::(T++G))[p+1]?=Z (.lst L):=λo=>by rw[gC1];exact hp
 have h:∀S:Sto,mV 0 r S=Z (.ref 0,S):=λS=>by unfold mV;rw[j]
 have e:∀S:Sto,mV 2 r S=Z (.ref (p+1),S):=λS=>by unfold mV;rw[h2]
 have g:dZ (.ref (p+1)) (o::(T++G))=Z (.int L.length,o::(T++G)):=by unfold dZ;rw[ge (f o)];rfl
 refine Hk ?_;rw[e,dv];dsimp only;unfold mN c9;simp only[h,e,da,oS1,b1,g];refine pI ho l (by lia) (by lia) (by lia) λd c b t=>?_;have a:d<L.length:=by lia
 unfold b2;refine gp (i:=d) (x:=L[d]) (f c) (gG1 a) ?_;exact q _ c b (hx c b _ (bN a))
inductive Pk (k:Nat)(o:Ob)(T:Sto)(d:D)(n:Nat):Ev->Sto->Prop
 |mk (G:Sto) (L:List D) (p:Nat):(T++G)[p]?=some (.lst L)->L.length=n->ClT (T++G)->(∀x∈L,Ok k (o::(T++G)) x)->Pk k o T d n [some (.ref 0),some d,some (.ref (p+1))] (o::(T++G))
section
variable{k n m N:Nat}{r:Ev}{o:Ob}{T:Sto}{a:FA}{d:D}{S:Sto}
theorem EM{x2:Option D}(G:Sto)(c:ClT (T++G))(ho:Hnd o N)(ha:AK k [Z (.ref 0),Z d,x2] o T n a)(hn:n<=1000):W (dY (eW a) (gN 2) [Z (.ref 0),Z d,x2] (o::(T++G))) λp=>p.1 = .nx/\Pk k o T d n p.2.1 p.2.2:=by
 unfold dY;rw[dk];refine(vw ha hn G c).mono ?_;rintro p ⟨G1,L,rfl,h1,h2,b⟩;refine W.of O ⟨O,?_⟩;have e:T++(G++G1)++[Ob.lst L]=T++(G++(G1++[Ob.lst L])):=by simp
 dsimp only;show Pk k o T d n [Z (.ref 0),Z d,Z (.ref ((T++(G++G1)).length+1))] (o::(T++(G++G1)++[Ob.lst L]));rw[e]at h1 ⊢;refine .mk _ L _ ?_ h2 h1 λx f=>?_
 ·rw[<- e,dh];rfl
 ·have:=(b x f).on (n:=N) (G:=[Ob.lst L]) ho
  rwa [e]at this
theorem qh(ho:Hnd o N)(ha:∀x2,AK k [Z (.ref 0),Z d,x2] o T n a)(hn:n+m<=1000)(h:Pk k o T d m r S):W (dY (m2 (b2 eG) (mV 2) (eW a)) (gN 2) r S) λp=>p.1 = .nx/\Pk k o T d (m+n) p.2.1 p.2.2:=by
 obtain⟨G,L,p,h1,h2,u,l⟩:=h;have e:=(gE1.mp h1).1;unfold dY m2;rw[dk,dk];refine W.of (x:=(.ref (p+1),o::(T++G))) O ?_;rw[dk];refine(vw (ha _) (by lia) G u).mono ?_;rintro q ⟨G1,b,rfl,t,v,s⟩;dsimp only[b2];have g:T++(G++G1)++[Ob.lst b]=(T++G)++(G1++[Ob.lst b]):=by simp
 refine(AW (xs:=L) (ys:=b) ?_ ?_).mpr ⟨di (by lia),?_⟩
 ·rw[gC1,g,gL1 e];exact h1
 ·rw[cr,gC1,dh];rfl
 refine W.of O ⟨O,?_⟩;have j:o::(T++(G++G1)++[Ob.lst b])++[Ob.lst (L++b)]=o::(T++(G++(G1++[Ob.lst b,Ob.lst (L++b)]))):=by simp
 have f:∀x∈L++b,Ok k (o::(T++(G++G1))) x:=λx c=>by
  rcases aE.mp c with z|z
  ·have:=(l x z).on (n:=N) (G:=G1) ho
   rwa [aW]at this
  ·exact s x z
 have hc:ClT (T++(G++(G1++[Ob.lst b,Ob.lst (L++b)]))):=by
  have:=nW (o:=o) t λx c=>(f x c).on (n:=N) (G:=[Ob.lst b]) ho;have i:T++(G++G1)++[Ob.lst b]++[Ob.lst (L++b)]=T++(G++(G1++[Ob.lst b,Ob.lst (L++b)])):=by simp
  rwa [i]at this
 show Pk k o T d (m+n) [Z (.ref 0),Z d,Z (.ref ((T++(G++G1)++[Ob.lst b]).length+1))] (o::(T++(G++G1)++[Ob.lst b])++[Ob.lst (L++b)]);rw[j];refine .mk _ (L++b) _ ?_ (by rw[lA1,h2,v]) hc λx c=>?_
 ·rw[show T++(G++(G1++[Ob.lst b,Ob.lst (L++b)]))=(T++(G++G1)++[Ob.lst b])++[Ob.lst (L++b)] by simp,dh];rfl
 ·have:=(f x c).on (n:=N) (G:=[Ob.lst b,Ob.lst (L++b)]) ho;simpa using this
end
section
variable{k n m N:Nat}{r:Ev}{o:Ob}{T:Sto}{a:FA}{d:D}{S:Sto}{x2:Option D}{i:Int}
theorem EH{i:Int}{S:Sto}(h:i.natAbs.log2<1920):mN (b1 zO) (c9 (mV 1) da) [Z (.ref 0),Z (.int i),x2] S=Z (.str (Str.ofString (toString i)),S):=by
 show(if i.natAbs.log2<1920 then _ else Y)=_;rw[ak h]
theorem Kv(ho:Hnd o N)(hk:2<=k)(b:k<=200):AK k [Z (.ref 0),Z d,x2] o T 21 (c9 (mC D.non) (c9 (mC (D.bl M)) (c9 (mC (D.bl J)) (c9 (mC (D.int 0)) (c9 (mC (D.int 1)) (c9 (mC (D.int 2)) (c9 (mC (D.int 3)) (c9 (mC (D.int 4)) (c9 (mC (D.int 5)) (c9 (mC (D.int 6)) (c9 (mC (D.int 7)) (c9 (mC (D.int 8)) (c9 (mC (D.int 9)) (c9 (mC (D.int 40)) (c9 (mC (D.int 41)) (c9 (m1 (b1 lK) (mC (D.int 1))) (c9 (m2 (b2 gu) (mC (D.int 10)) (mC (D.int 30))) (c9 (mC (D.str "leave")) (c9 (mC (D.str "mark")) (c9 (mC (D.str "wipe")) (c9 (mC (D.str "came")) da))))))))))))))))))))):=by
 obtain⟨B,a⟩:=Ij;exact(df ho (eT ho O (by rw[bd])) (df ho (eT ho O (by rw[bd])) (df ho (eT ho O (by rw[bd])) (df ho (eT ho O (by rw[bd])) (df ho (eT ho O (by rw[bd])) (df ho (eT ho O (by rw[bd])) (df ho (eT ho O (by rw[bd])) (df ho (eT ho O (by rw[bd])) (df ho (eT ho O (by rw[bd])) (df ho (eT ho O (by rw[bd])) (df ho (eT ho O (by rw[bd])) (df ho (eT ho O (by rw[bd])) (df ho (eT ho O (by rw[bd])) (df ho (eT ho O (by rw[bd])) (df ho (eT ho O (by rw[bd])) (df ho (fw (d:=.int (-1)) ho (λ_=>rfl) (.shut O (by rw[bd]))) (df ho (fw (d:=.int B) ho (λS=>a S) (.shut O (by rw[bd]))) (df ho (eT ho O (by rw[bd])) (df ho (eT ho O (by rw[bd])) (df ho (eT ho O (by rw[bd])) (df ho (eT ho O (by rw[bd])) fj)))))))))))))))))))))
theorem Ku(ho:Hnd o N):AK k [Z (.ref 0),Z d,x2] o T 10 (c9 (mC (D.str "chalk")) (c9 (mC (D.str "doors")) (c9 (mC (D.str "others")) (c9 (mC (D.str "Leave")) (c9 (mC (D.str "ask")) (c9 (mC (D.str "fails")) (c9 (mC (D.str "never")) (c9 (mC (D.str "colours")) (c9 (mC (D.str "alike")) (c9 (mC (D.str "does")) da)))))))))):=(df ho (eT ho O (by rw[bd])) (df ho (eT ho O (by rw[bd])) (df ho (eT ho O (by rw[bd])) (df ho (eT ho O (by rw[bd])) (df ho (eT ho O (by rw[bd])) (df ho (eT ho O (by rw[bd])) (df ho (eT ho O (by rw[bd])) (df ho (eT ho O (by rw[bd])) (df ho (eT ho O (by rw[bd])) (df ho (eT ho O (by rw[bd])) fj))))))))))
theorem Kt(ho:Hnd o N):AK k [Z (.ref 0),Z d,x2] o T 3 (c9 (mC (D.str "none")) (c9 (mC (D.str "")) (c9 (mC (D.str "0")) da))):=(df ho (eT ho O (by rw[bd])) (df ho (eT ho O (by rw[bd])) (df ho (eT ho O (by rw[bd])) fj)))
theorem Ks(ho:Hnd o N)(hd:Ok k (o::T) d)(hk:2<=k)(b:k<=200):AK k [Z (.ref 0),Z d,x2] o T 13 (c9 (d2 da) (c9 (eW da) (c9 oU (c9 (d2 (c9 (mC (D.int 0)) da)) (c9 (d2 (c9 (mC D.non) da)) (c9 (d2 (c9 (mC (D.int 0)) (c9 (mC (D.int 1)) da))) (c9 (d2 (c9 (mC (D.int 1)) (c9 (mC (D.int 0)) da))) (c9 (d2 (c9 (mC (D.int 0)) (c9 (mC (D.int 0)) da))) (c9 (d2 (c9 (d2 (c9 (mC (D.int 0)) (c9 (mC (D.int 0)) da))) da)) (c9 (d2 (c9 (mC (D.bl M)) da)) (c9 (d2 (c9 (mC (D.str "leave")) da)) (c9 (d2 (c9 (mV 1) da)) (c9 (eW (c9 (mV 1) da)) da))))))))))))):=by
 have a:EK k [Z (.ref 0),Z d,x2] o T (mV 1):=fw ho (λ_=>rfl) hd;exact(df ho (hX fj (by lia) (by lia)) (df ho (Ag ho fj (by lia)) (df ho Da (df ho (hX (df ho (eT ho O (by rw[bd])) fj) (by lia) (by lia)) (df ho (hX (df ho (eT ho O (by rw[bd])) fj) (by lia) (by lia)) (df ho (hX (df ho (eT ho O (by rw[bd])) (df ho (eT ho O (by rw[bd])) fj)) (by lia) (by lia)) (df ho (hX (df ho (eT ho O (by rw[bd])) (df ho (eT ho O (by rw[bd])) fj)) (by lia) (by lia)) (df ho (hX (df ho (eT ho O (by rw[bd])) (df ho (eT ho O (by rw[bd])) fj)) (by lia) (by lia)) (df ho (hX (df ho (hX (df ho (eT ho O (by rw[bd])) (df ho (eT ho O (by rw[bd])) fj)) (by lia) (by lia)) fj) (by lia) (by lia)) (df ho (hX (df ho (eT ho O (by rw[bd])) fj) (by lia) (by lia)) (df ho (hX (df ho (eT ho O (by rw[bd])) fj) (by lia) (by lia)) (df ho (hX (df ho a fj) (by lia) (by lia)) (df ho (Ag ho (df ho a fj) (by lia)) fj)))))))))))))
theorem Kr(ho:Hnd o N)(hi:i.natAbs.log2<1920):AK k [Z (.ref 0),Z (.int i),x2] o T 5 (c9 (m2 (b2 eG) (mN (b1 nN) (c9 (mV 1) da)) (mC (D.int 1))) (c9 (m2 (b2 gSub) (mN (b1 nN) (c9 (mV 1) da)) (mC (D.int 1))) (c9 (mN (b1 zO) (c9 (mV 1) da)) (c9 (m2 (b2 gEq) (mV 1) (mC (D.int 1))) (c9 (mN (b1 zU) (c9 (mV 1) da)) da))))):=(df ho (fw (d:=.int (i+1)) ho (λ_=>rfl) (.shut O (by rw[bd]))) (df ho (fw (d:=.int (i-1)) ho (λ_=>rfl) (.shut O (by rw[bd]))) (df ho (fw (d:=.str (Str.ofString (toString i))) ho (λS=>EH hi) (.shut O (by rw[bd]))) (df ho (fw (d:=.bl (i == 1)) ho (λ_=>rfl) (.shut O (by rw[bd]))) (df ho (fw (d:=.bl (i != 0)) ho (λ_=>rfl) (.shut O (by rw[bd]))) fj)))))
theorem Cd{n c:Nat}{xs:List D}{S:Sto}(h:S[n]?=Z (.lst xs))(hc:c<=10)(a:xs.length<=100):ia (.ref n) (.int (c:Nat)) S=Z (.ref S.length,S++[.lst (aM c xs).flatten]):=by
 simp only[ia,h];rw[ak ⟨by lia,by lia,by rw[Int.toNat_natCast];exact aB (Nat.mul_le_mul a hc) (show 100*10<=cT by decide)⟩,Int.toNat_natCast]
theorem vq{α:Type}{x:α}{xs:List α}:∀{c:Nat},x∈(aM c xs).flatten->x∈xs
 |0,h=>by cases h
 |c+1,h=>by
  rw[aU,aV]at h;rcases aE.mp h with z|z
  ·exact z
  ·exact vq z
theorem vp{c:Nat}(ho:Hnd o N)(ha:∀x2,AK k [Z (.ref 0),Z d,x2] o T n a)(hc:c<=10)(hn:c*n+m<=1000)(y:n<=100)(h:Pk k o T d m r S):W (dY (m2 (b2 eG) (mV 2) (m2 (b2 ia) (eW a) (mC (D.int (c:Nat))))) (gN 2) r S) λp=>p.1 = .nx/\Pk k o T d (m+c*n) p.2.1 p.2.2:=by
 obtain⟨G,L,p,h1,h2,C,A⟩:=h;have i:=(gE1.mp h1).1;unfold dY;rw[dk];refine Hk ?_;refine W.of (x:=(.ref (p+1),o::(T++G))) O ?_;refine Hk ?_;refine(vw (ha _) (by lia) G C).mono ?_;rintro q ⟨G1,L',rfl,B,E,s⟩;refine W.of (x:=(.int (c:Nat),o::(T++(G++G1)++[Ob.lst L']))) O ?_;dsimp only[b2];have j:(o::(T++(G++G1)++[Ob.lst L']))[(T++(G++G1)).length.succ]?=Z (.lst L'):=by rw[cr,gC1,dh];rfl
 refine W.of (Cd j hc (by lia)) ?_;have g:(aM c L').flatten.length=c*n:=by rw[vx,E]
 have f:∀x∈(aM c L').flatten,x∈L':=λx e=>vq e;generalize (aM c L').flatten=b at g f;dsimp only;have t:o::(T++(G++G1)++[Ob.lst L'])++[Ob.lst b]=o::((T++G)++(G1++[Ob.lst L',Ob.lst b])):=by simp
 refine(AW (xs:=L) (ys:=b) ?_ ?_).mpr ⟨di (by lia),?_⟩
 ·rw[t,gC1,gL1 i];exact h1
 ·rw[dh];rfl
 refine W.of O ⟨O,?_⟩;have w:o::(T++(G++G1)++[Ob.lst L'])++[Ob.lst b]++[Ob.lst (L++b)]=o::(T++(G++(G1++[Ob.lst L',Ob.lst b,Ob.lst (L++b)]))):=by simp
 have l:∀x∈L++b,Ok k (o::(T++(G++G1))) x:=λx e=>by
  rcases aE.mp e with z|z
  ·have:=(A x z).on (n:=N) (G:=G1) ho
   rwa [aW]at this
  ·exact s x (f x z)
 have hc:ClT (T++(G++(G1++[Ob.lst L',Ob.lst b,Ob.lst (L++b)]))):=by
  have u:=nW (o:=o) B (L:=b) λx e=>(s x (f x e)).on (n:=N) (G:=[Ob.lst L']) ho;have c3:=nW (o:=o) u (L:=L++b) λx e=>by
   have:=(l x e).on (n:=N) (G:=[Ob.lst L',Ob.lst b]) ho;simpa using this
  have v:T++(G++G1)++[Ob.lst L']++[Ob.lst b]++[Ob.lst (L++b)]=T++(G++(G1++[Ob.lst L',Ob.lst b,Ob.lst (L++b)])):=by simp
  rwa [v]at c3
 show Pk k o T d (m+c*n) [Z (.ref 0),Z d,Z (.ref (o::(T++(G++G1)++[Ob.lst L'])++[Ob.lst b]).length)] (o::(T++(G++G1)++[Ob.lst L'])++[Ob.lst b]++[Ob.lst (L++b)]);rw[show(o::(T++(G++G1)++[Ob.lst L'])++[Ob.lst b]).length=(T++(G++G1)++[Ob.lst L',Ob.lst b]).length+1 by simp,w];refine .mk _ (L++b) _ ?_ (by rw[lA1,h2,g]) hc λx e=>?_
 ·rw[show T++(G++(G1++[Ob.lst L',Ob.lst b,Ob.lst (L++b)]))=(T++(G++G1)++[Ob.lst L',Ob.lst b])++[Ob.lst (L++b)] by simp,dh];rfl
 ·have:=(l x e).on (n:=N) (G:=[Ob.lst L',Ob.lst b,Ob.lst (L++b)]) ho;simpa using this
theorem G8{xs:List D}{lo hi:Option Int}:(∀x∈Mi.iZ xs lo hi,x∈xs)/\(Mi.iZ xs lo hi).length<=xs.length:=by
 unfold Mi.iZ;refine⟨λx a=>List.mem_of_mem_drop (List.mem_of_mem_take a),?_⟩;rw[aO,aS];lia
theorem AR{e f:FE}{xs ys:List D}(ha:∀S,e r S=Z (.tup xs,S))(hb:∀S,f r S=Z (.tup ys,S))(a:xs.length+ys.length<=1000):∀S,m2 (b2 eG) e f r S=Z (.tup (xs++ys),S):=λS=>by
 unfold m2;rw[ha,oS1,hb,oS1];show(if xs.length+ys.length<=cT then _ else _)=_;rw[ak (aB a (by decide))]
theorem C9{xs:List D}{x2:Option D}(ho:Hnd o N)(hd:Ok m (o::T) (.tup xs)):EK k [Z (.ref 0),Z (.tup xs),x2] o T (mN (b1 nM) (c9 (mV 1) da)):=λG a=>by
 refine W.of (x:=(.ref (T++G).length.succ,o::(T++G++[.lst xs]))) O ⟨[.lst xs],by simp,?_,.lst (xs:=xs) ?_⟩
 ·rw[<- aW];exact nW (k:=m) (o:=o) a λx b=>(hd.of.2 x b).on (n:=N) ho
 ·rw[cr,gC1,<- aW,dh];rfl
theorem yM{xs ys:List D}(h:Ok m (o::T) (.tup xs))(hs:∀y∈ys,y∈xs)(a:ys.length<=k)(hk:m<=k):Ok k (o::T) (.tup ys):=.tup a λy b=>(h.of.2 y (hs y b)).more hk
theorem yN{xs ys:List D}(h:Ok k (o::T) (.tup xs))(h':Ok k (o::T) (.tup ys))(a:xs.length+ys.length<=k):Ok k (o::T) (.tup (xs++ys)):=.tup (by rw[lA1];exact a) λy b=>by
 rcases aE.mp b with z|z
 ·exact h.of.2 y z
 ·exact h'.of.2 y z
theorem Kq{xs:List D}(ho:Hnd o N)(hd:Ok 40 (o::T) (.tup xs)):AK 50 [Z (.ref 0),Z (.tup xs),x2] o T 6 (c9 (mN (b1 nM) (c9 (mV 1) da)) (c9 (zj (mV 1) (m1 (b1 lK) (mC (D.int 1)))) (c9 (m2 (b2 eG) (mV 1) (qk (mV 1) kg (kf (mC (D.int 1))))) (c9 (qk (mV 1) kg (kf (m1 (b1 lK) (mC (D.int 1))))) (c9 (m2 (b2 eG) (mV 1) (d2 (c9 (mC (D.int 0)) da))) (c9 (qk (mV 1) (kf (mC (D.int 1))) kg) da)))))):=by
 have h:=hd.of.1;have a:Ok 50 (o::T) (.tup xs):=hd.more (by lia);have c:∀lo hi,Ok 50 (o::T) (.tup (Mi.iZ xs lo hi)):=λlo hi=>by
  obtain⟨e,g⟩:=G8 (xs:=xs) (lo:=lo) (hi:=hi);exact yM hd e (by lia) (by lia)
 have e:(Mi.iZ xs Y (Z 1)).length<=1:=by
  unfold Mi.iZ;rw[show((Z 1:Option Int))=Z ((1:Nat):Int)from rfl,HT.pP,HT.nj,aO];lia
 have f:Ok 50 (o::T) (.tup [.int 0]):=.tup (by simp) λy b=>by rw[cF.mp b];exact .shut O (by rw[bd])
 refine df ho (C9 ho hd) (df ho (fw (d:=.tup xs.reverse) ho (λ_=>rfl) (yM hd (λy b=>List.mem_reverse.mp b) (by rw[bY];lia) (by lia))) (df ho (fw ho (AR (xs:=xs) (ys:=Mi.iZ xs Y (Z 1)) (λ_=>rfl) (λ_=>rfl) (by lia)) (yN a (c _ _) (by lia))) (df ho (fw ho (λ_=>rfl) (c Y (Z (-1)))) (df ho (fw ho (AR (xs:=xs) (ys:=[.int 0]) (λ_=>rfl) (λ_=>rfl) (by simp;lia)) (yN a f (by simp;lia))) (df ho (fw ho (λ_=>rfl) (c (Z 1) Y)) fj)))))
end
def Lo(d:D):Prop:=xk d=J /\ ∀i,d = .int i->i.natAbs.log2<1920
theorem DQ{o:Ob}{n:Nat}{T:Sto}{d:D}{Q:D×Sto->Prop}(ho:Hnd o n)(hn:n<=2^40)(t:ClT T)(hd:Ok 40 (o::T) d)(g:Lo d)(q:∀x o' G,Hnd o' (n+1)->ClT (T++G)->Ok 50 (o'::(T++G)) x->Q (x,o'::(T++G))):W (db 2 gt [.ref 0,d] (o::T)) Q:=by
 refine Ax (k:=50) (n':=n+1) O O t ?_ q;have s:Ok 50 (o::T) d:=hd.more (by lia);unfold gt;refine ib ?_;unfold og;refine eu (Pk 50 o T d 21) ?_ ?_
 ·have:=EM (k:=50) (x2:=Y) (d:=d) [] (by rw[aK];exact t) ho (Kv ho (by lia) (by lia)) (by lia);rw[aK]at this;exact this
 intro r S h;refine eu (Pk 50 o T d 31) (qh ho (λ_=>Ku ho) (by lia) h) ?_;intro r S h;refine eu (Pk 50 o T d 34) (qh ho (λ_=>Kt ho) (by lia) h) ?_;intro r S h;refine eu (Pk 50 o T d 47) (qh ho (λ_=>Ks ho s (by lia) (by lia)) (by lia) h) ?_;intro r S h;refine eu (λr S=>∃c,0<c/\c<=90/\Pk 50 o T d c r S) ?_ ?_
 ·obtain⟨G,L,p,h1,h2,a,e⟩:=h;have l:io (o::(T++G)) .tuple d=Z (jE d):=eP (hd.on (n:=n) ho).v;cases ht:jE d with
  |false=>
   ((try walk_at"w");repeat(simp only[dQ,l,ht];try walk_at"w"))
   exact⟨47,by lia,by lia,.mk G L p h1 h2 a e⟩
  |true=>
   obtain⟨xs,rfl⟩:=eX ht;unfold eg;rw[dk];refine W.of (x:=(M,o::(T++G))) O ?_;dsimp only;rw[ak O];exact(vp (c:=6) ho (λ_=>Kq ho hd) (by lia) (by lia) (by lia) (.mk G L p h1 h2 a e)).mono λp j=>⟨j.1,47+6*6,by lia,by lia,j.2⟩
 rintro r S ⟨c,f,hc,h⟩;refine eu (λr S=>∃c,0<c/\c<=200/\Pk 50 o T d c r S) ?_ ?_
 ·obtain⟨G,L,p,h1,h2,a,e⟩:=h;have l:io (o::(T++G)) .int d=Z (rf d||xk d):=tL (hd.on (n:=n) ho).v;rw[g.1,Bool.or_false]at l;cases hw:rf d with
  |false=>
   ((try walk_at"w");repeat(simp only[dQ,l,hw];try walk_at"w"))
   exact⟨c,f,by lia,.mk G L p h1 h2 a e⟩
  |true=>
   obtain⟨i,rfl⟩:=AI hw;unfold eg;rw[dk];refine W.of (x:=(M,o::(T++G))) O ?_;dsimp only;rw[ak O];exact(vp (c:=5) ho (λ_=>Kr ho (g.2 i O)) (by lia) (by lia) (by lia) (.mk G L p h1 h2 a e)).mono λp j=>⟨j.1,c+5*5,by lia,by lia,j.2⟩
 rintro r S ⟨c,f,hc,⟨G,L,p,h1,h2,a,e⟩⟩;unfold dJ;rw[dk];refine Fg (k:=50) ho hn a h1 (by lia) (by lia) O O (λo' b x m=>?_) λx o' b m=>?_
 ·have:=(e x m).on (n:=n) (G:=[]) b
  rwa [aK]at this
 ·exact dv.mpr ⟨x,o',G,O,b,a,m⟩
theorem Ld{c:FT}{a k:FS}{r:Ev}{T:Sto}{Q:Fl×Ev×Sto->Prop}(C:Bool->Sto->Prop)(hc:W (c r T) λp=>C p.1 p.2)(h1:∀V,C M V->W (a r V) λp=>∃d,p.1 = .rt d/\Q p)(m:∀V,C J V->W (k r V) Q):W (dq (eg c a hB) k r T) Q:=by
 obtain⟨⟨b,V⟩,i,g⟩:=hc;dsimp only at g;cases b with
 |true=>
  obtain⟨⟨f,p⟩,l,d,h,e⟩:=h1 V g;dsimp only at h;subst h;refine⟨_,?_,e⟩;simp only[dq,eg,i,l,oS1,if_true]
 |false=>
  obtain⟨p,j,e⟩:=m V g;refine⟨p,?_,e⟩;simp only[dq,eg,hB,i,oS1,bF1,if_false];exact j
def xr:Nat->D->Prop
 |0,d=>Lo d/\jE d=J
 |n+1,d=>Lo d /\ ∀xs,d = .tup xs -> ∀x∈xs,xr n x
theorem xr.lo:∀{n:Nat} {d:D},xr n d->Lo d
 |0,_,h=>h.1
 |_+1,_,h=>h.1
theorem yW{xs:List D}{S:Sto}:gNe (.tup xs) (.tup []) S=Z (.bl (!xs.isEmpty),S):=by
 cases xs<;>rfl
theorem KN(xs:List D)(k:Nat):Mi.iZ xs Y (Z (k:Int))=xs.take k:=by
 unfold Mi.iZ;rw[HT.nj,HT.pP,List.drop_zero,Nat.sub_zero];by_cases h:k<=xs.length
 ·rw[Nat.min_eq_left h]
 ·rw[Nat.min_eq_right (by lia),bR,bX (by lia)]
theorem KM(xs:List D)(k:Nat):Mi.iZ xs (Z (k:Int)) Y=xs.drop k:=by
 unfold Mi.iZ;rw[HT.nj,HT.pP];by_cases h:k<=xs.length
 ·rw[Nat.min_eq_left h,bX (by simp)]
 ·rw[Nat.min_eq_right (by lia),List.drop_length,List.drop_of_length_le (by lia)];simp
theorem Ok.cast{k:Nat}{S a:Sto}{d:D}(h:Ok k S d)(e:S=a):Ok k a d:=e ▸ h
theorem Hf:∀ (e:Nat) {fuel n:Nat} {o:Ob} {T:Sto} {d:D} {Q:D×Sto->Prop},e<fuel->Hnd o n->n+10*e<=2^39->ClT T->Ok 40 (o::T) d->xr e d ->
  (∀x o' G,Hnd o' (n+10*(e+1))->ClT (T++G)->Ok 50 (o'::(T++G)) x->Q (x,o'::(T++G)))->W (db 2 (fA fuel) [.ref 0,d] (o::T)) Q:=by
 intro e
 induction e with
 |zero=>
  intro fuel n o T d Q am C I p A j q;obtain⟨f,rfl⟩:∃f,fuel=f+1:=⟨fuel-1,by lia⟩;refine Ax (k:=50) (n':=n+10*(0+1)) O O p ?_ q;rw[fA];refine ib ?_;unfold gK;have z:=eP A.v;rw[j.2]at z;refine Ld (λb V=>b=J/\V=o::T) ?_ (λV h=>(Bool.noConfusion h.1)) ?_
  ·((try walk_at"w");repeat(simp only[dQ,z];try walk_at"w"))
  rintro V ⟨-,rfl⟩;walk_at"w";refine DQ C (by lia) p A j.1 λx o' G t hc s=>?_;exact⟨x,o',G,O,t.more (by lia),hc,s⟩
 |succ e ih=>
  intro fuel n o T d Q am C I p A j q;obtain⟨f,rfl⟩:∃f,fuel=f+1:=⟨fuel-1,by lia⟩;refine Ax (k:=50) (n':=n+10*(e+1+1)) O O p ?_ q;rw[fA];refine ib ?_;unfold gK;have z:=eP A.v;refine Ld (λb V=>∃u,V=u::T/\Hnd u (n+1)/\(b=M -> ∃xs,d = .tup xs/\0<xs.length)) ?_ ?_ ?_
  ·cases ht:jE d with
   |false=>
    ((try walk_at"w");repeat(simp only[dQ,z,ht];try walk_at"w"))
    exact⟨o,O,C.more (by lia),λh=>by cases h⟩
   |true=>
    obtain⟨xs,rfl⟩:=eX ht;cases xs with
    |nil=>
     ((try walk_at"w");repeat(simp only[dQ,z,ht,yW];try walk_at"w"))
     simp only[List.isEmpty_nil]
     try walk_at"w"
     exact⟨o,O,C.more (by lia),λh=>by cases h⟩
    |cons x xs=>
     ((try walk_at"w");repeat(simp only[dQ,z,ht,yW];try walk_at"w"))
     simp only[List.isEmpty_cons]
     try walk_at"w"
     refine pI C p (by lia) (by decide) (by decide) λc u g hc=>?_;walk_at"w";exact⟨u,O,g,λ_=>⟨_,O,by simp⟩⟩
  ·rintro V ⟨u,rfl,g,s⟩;obtain⟨xs,rfl,K⟩:=s O;obtain⟨L,B⟩:=A.of;refine eu (λr V=>∃(a:Nat) (w:Ob),a<xs.length/\Hnd w (n+2)/\V=w::T/\r=[Z (.ref 0),Z (.tup xs),Z (.int (a:Nat))]) ?_ ?_
   ·walk_at"w";refine pI g p (by lia) (by lia) (by lia) λa w l ao=>?_;walk_at"w";exact⟨a,w,by lia,l,O,O⟩
   rintro r V ⟨a,w,v,l,rfl,rfl⟩;walk_at"w";refine W.of (x:=(.tup (Mi.iZ xs Y (Z (a:Int))),w::T)) O ?_;rw[KN];walk_at"w";refine sR (i:=a) (x:=xs[a]) (gG1 v) ?_;walk_at"w";refine ih (by lia) l (by lia) p ((((B _ (bN v)).on (n:=n) (G:=[]) l)).cast (by rw[aK])) (j.2 xs O _ (bN v)) λx H G E hc s=>?_
   try walk_at"w"
   rw[aO];refine⟨di (by lia),?_⟩;refine W.of (x:=(.tup (Mi.iZ xs (Z ((a:Int)+1)) Y),H::(T++G))) O ?_;rw[show((a:Int)+1)=((a+1:Nat):Int) by push_cast;rfl,KM];walk_at"w";refine⟨di (by rw[aS];simp;lia),?_⟩;refine⟨_,O,_,H,G,O,E.more (by lia),hc,Ok.tup ?_ λy m=>?_⟩
   ·simp;lia
   ·have old:∀y∈xs,Ok 50 (H::(T++G)) y:=λy m=>((B y m).on (n:=n) E).more (by lia);simp only[aW,bm,a0,aE,aD]at m;rcases m with m|rfl|m
    ·exact old y (List.mem_of_mem_take m)
    ·exact s
    ·exact old y (List.mem_of_mem_drop m)
  ·rintro V ⟨u,rfl,g,-⟩;have F:Ok 40 (u::T) d:=(A.on (n:=n) (G:=[]) g).cast (by rw[aK]);walk_at"w";refine DQ g (by lia) p F j.lo λx o' G t hc s=>?_;exact⟨x,o',G,O,t.more (by lia),hc,s⟩
theorem tR{ws ys:List D}(h:ys.Sublist ws):ws.Nodup->ys=ws.filter λw=>tf (w∈ys):=by
 induction h with
 |slnil=>intro _;rfl
 | @cons c d a h ih=>
  intro b;rw[aL]at b;have:tf (a∈c)=J:=gM λz=>b.1 (h.subset z);rw[bg,this];exact ih b.2
 | @cons_cons c d a h ih=>
  intro b;rw[aL]at b;rw[bg,ak (kM mS1)];have e:d.filter (λw=>tf (w∈a::c))=d.filter λw=>tf (w∈c):=cH λw f=>ow (by
   rw[aD];exact⟨λz=>z.resolve_left λe=>b.1 (e ▸ f),Or.inr⟩)
  rw[e,<- ih b.2]
theorem uY{ws ys:List D}(h:ys.Sublist ws)(a:ws.Nodup):ord ws ys=M:=kM (tR h a)
theorem rn{ws ys:List D}(h:ys.Sublist ws/\1<=ys.length)(a:ws.Nodup):fT ws (.tup ys)=M:=by
 unfold fT;dsimp only;rw[uY h.1 a];cases ys with
 |nil=>have:=h.2;simp at this
 |cons y ys=>rfl
theorem oM{m:Nat}{R:List Nat}(h:Ris m R):eK m (.tup (nmD R))=M:=by
 unfold eK;dsimp only;have e:(nmD R).map toN=R:=by
  unfold nmD;rw[bu];exact List.map_id'' (λi=>by show(i:Int).toNat=i;lia) R
 rw[e,bA1];refine⟨bA.mpr λx a=>?_,?_⟩
 ·obtain⟨i,hi,rfl⟩:=b0.mp a;have:=h.2 i hi;unfold fV;dsimp only;rw[ah (by lia),ah (by lia)];rfl
 ·unfold oE;rw[bA];intro i hi;have hi:=aA.mp hi;rw[al,bG,bG,gG1 (by lia),gG1 (by lia)];exact b7.mp h.1 i (i+1) (by lia) (by lia) (by lia)
theorem GQ{x:wb}(h:Jx x):jm (fD x)=M:=by
 obtain⟨w,R,C⟩:=x;obtain⟨h1,h2,b,c,a⟩:=h;unfold fD jm;dsimp only at *
 rw[bA1];refine⟨?_,?_⟩
 ·rw[<- vV,tE];exact kM ⟨w,O,h1.1,h1.2⟩
 ·have e:lnD (dW w)=w.length:=by show(w.map _).length=_;rw[lM1]
  rw[e];unfold hL;dsimp only;rw[oM c,oM a];cases R with
  |nil=>cases b
  |cons r R=>rfl
theorem GV{fs:List wb}{a hs b:List D}{c ch d:Nat}(x:JU fs a hs b c ch d):uz (eD fs a hs b c ch d)=M:=by
 have f:j2 (.tup (fs.map fD))=M:=by
  have:=x.f0;have:=x.f6;unfold j2;dsimp only;rw[lM1,ah (by lia),ah (by lia),cG,cG,bA];intro y i;obtain⟨z,g,rfl⟩:=b0.mp i;exact GQ (x.f z g)
 have e:jY wEy (.tup a)=M:=uY x.e (by unfold wEy;simp;decide+kernel);have h:fT wHa (.tup hs)=M:=rn x.h (by unfold wHa;simp;decide+kernel);have s:fT wSt (.tup b)=M:=rn x.s (by unfold wSt;simp);have:=x.m0;have:=x.m3;have:=x.c8;have:=x.b40;unfold eD uz;dsimp only;rw[f,e,h,s];unfold fc;dsimp only;rw[ah (by lia),ah (by lia),ah (by lia),ah (by lia),ah (by lia),ah (by lia)];rfl
theorem Hg{k:Nat}{xs:List D}(a:xs.length<=k)(h:∀x∈xs,bd k x=M):bd k (.tup xs)=M:=by
 rw[bd,n3,ah a,bA.mpr h];rfl
theorem Gw(xs:List D):Lo (.tup xs):=⟨O,λi e=>by cases e⟩
theorem xr.tup{n:Nat}{xs:List D}(h:∀x∈xs,xr n x):xr (n+1) (.tup xs):=⟨Gw xs,λys e=>by cases e;exact h⟩
def Lw(n:Nat)(d:D):Prop:=bd 40 d=M/\xr n d
theorem Lw.tup{n:Nat}{xs:List D}(b:xs.length<=40)(h:∀x∈xs,Lw n x):Lw (n+1) (.tup xs):=⟨Hg b λx a=>(h x a).1,.tup λx a=>(h x a).2⟩
theorem xr.up:∀{n:Nat} {d:D},xr n d->xr (n+1) d
 |0,d,h=>⟨h.1,λxs e=>by rw[e]at h;cases h.2⟩
 |n+1,d,h=>⟨h.1,λxs e x a=>(h.2 xs e x a).up⟩
theorem Lw.up{n:Nat}{d:D}(h:Lw n d):Lw (n+1) d:=⟨h.1,h.2.up⟩
theorem im{n:Nat}(h:n<100):Lw 0 (.int (n:Nat)):=⟨by rw[bd],⟨O,λi e=>by
 cases e;rw[Int.natAbs_natCast];have:=Nat.log2_self_le (n:=n);by_cases z:n=0
 ·subst z;decide
 ·have:=this z;have h2:n.log2<7:=by
   rcases bP n.log2 7 with q|q
   ·exact q
   ·have:=Nat.pow_le_pow_right (n:=2) (by decide) q;lia
  lia⟩,O⟩
theorem zr{s:String}:Lw 0 (.str s):=⟨by rw[bd],⟨O,λi e=>by cases e⟩,O⟩
theorem Gr:Lw 0 .non:=⟨by rw[bd],⟨O,λi e=>by cases e⟩,O⟩
theorem DV{ns:List Nat}(a:ns.length<=40)(h:∀x∈ns,x<100):Lw 1 (.tup (nmD ns)):=.tup (by rw[eQ];exact a) λx b=>by
 obtain⟨i,hi,rfl⟩:=b0.mp b;exact im (h i hi)
theorem IN{x:wb}(h:Jx x):Lw 4 (fD x):=by
 obtain⟨w,R,C⟩:=x;obtain⟨⟨h1,-⟩,⟨h2,A⟩,D,o,n⟩:=h;dsimp only at *
 have few:=h1.few;refine .tup (by simp) λy B=>?_;rcases aD.mp B with e|e
 ·rw[e];refine .tup (by rw[lM1];lia) λz b=>?_;obtain⟨a,t,rfl⟩:=b0.mp b;obtain⟨r,g⟩:=bt t;have k:=h1.le r a g;refine .tup (by rw[lM1];lia) λu m=>?_;obtain⟨p,l,rfl⟩:=b0.mp m;obtain⟨d,s⟩:=bt l;obtain⟨i,f,q⟩:=h1.back r d p ⟨a,g,s⟩;have a1:=(gE1.mp f).1;have a2:=(gE1.mp q).1;have a3:=h1.le _ _ f;refine .tup (by simp) λv j=>?_;rcases aD.mp j with e|e
  ·rw[e];exact im (by lia)
  ·rw[cF.mp e];exact im (by lia)
 ·rw[cF.mp e];refine Lw.up (.tup (by simp) λz b=>?_);rcases aD.mp b with e|e
  ·rw[e];exact DV (by lia) λx c=>by have:=o.2 x c;lia
  ·rw[cF.mp e];exact DV (by lia) λx c=>by have:=n.2 x c;lia
theorem zq{ws ys:List D}(hw:∀w∈ws,Lw 0 w)(h:ys.Sublist ws)(b:ys.length<=10):Lw 5 (.tup ys):=(Lw.tup (by lia) λy a=>hw y (h.subset a)).up.up.up.up
theorem IP{fs:List wb}{b hs f:List D}{c ch d:Nat}(x:JU fs b hs f c ch d):Lw 6 (eD fs b hs f c ch d):=by
 have i:=x.f6;have:=x.m3;have:=x.c8;have:=x.b40;refine .tup (by simp) λy g=>?_;simp only[aD,cE,or_false]at g;rcases g with e|e|e|e|e|e|e<;>rw[e]
 ·refine .tup (by rw[lM1];lia) λz h=>?_;obtain⟨w,a,rfl⟩:=b0.mp h;exact IN (x.f w a)
 ·exact zq (ws:=wEy) (by unfold wEy;intro w a;simp only[aD,cE,or_false]at a;rcases a with e|e|e|e<;>rw[e]<;>exact zr) x.e x.el
 ·exact zq (ws:=wHa) (by unfold wHa;intro w a;simp only[aD,cE,or_false]at a;rcases a with e|e|e<;>rw[e]<;>exact zr) x.h.1 x.hl
 ·exact zq (ws:=wSt) (by unfold wSt;intro w a;simp only[aD,cE,or_false]at a;rcases a with e|e|e|e|e<;>rw[e]<;>first|exact Gr|exact im (n:=0) (by decide)|exact im (n:=1) (by decide)|exact im (n:=2) (by decide)|exact im (n:=3) (by decide)) x.s.1 x.sl
 ·exact(im (by lia)).up.up.up.up.up
 ·exact(im (by lia)).up.up.up.up.up
 ·exact(im (by lia)).up.up.up.up.up
theorem GX{fs:List wb}{a hs d:List D}{b ch c:Nat}(x:JU fs a hs d b ch c):(eD fs a hs d b ch c).und 0=M:=by
 have ws:∀{ws ys:List D},D.unds 0 ws=M->ys.Sublist ws->D.unds 0 ys=M:=λe h=>by
  rw[iO,bA]at *
  exact λy f=>e y (h.subset f)
 unfold eD;simp only[D.und,D.unds,unds_map (ux 0),ws (ws:=wEy) O x.e,ws (ws:=wHa) O x.h.1,ws (ws:=wSt) O x.s.1,Bool.and_self]
theorem Ha{ns:List Int}{j:Int}{S:Sto}{Q:D×Sto->Prop}(d:0<=j)(q:∀x:Int,Q (.int x,S)):W (db 2 fb [.rol (ns.map D.int),.int j] S) Q:=by
 refine jg O (by rw[D.unds,D.und,jP];rfl) ?_;unfold fb
 refine ib ?_;unfold jK
 walk_at"w";have c:((ns.map D.int).length:Int)=(ns.length:Int):=by simp
 rw[c];split
 ·rename_i a;rw [decide_eq_true_eq] at a;have b:py (ns.map D.int) j=some (.int (ns[j.toNat]'(by omega))):=by
   unfold py tj;rw[ak d,ak (by simpa using a)];simp[show j.toNat<ns.length by omega]
  refine W.of (x:=(.int (ns[j.toNat]'(by omega)),[])) ?_ ?_
  ·simp only[dm,mH,xl,dn,oS1,b,oP1]
  ·exact⟨O,q _⟩
 ·exact⟨O,q _⟩
theorem v6{i j:Int}{S:Sto}{Q:D×Sto->Prop}(h:gf i j=M)(q:Q (.int (i*j),S)):W (gx (.int i) (.int j) S) Q:=by
 refine W.of ?_ q;simp only[gx];rw[ak h]
theorem v7{i j:Int}{S:Sto}{Q:D×Sto->Prop}(h:0<j)(q:Q (.int (i%j),S)):W (j1 (.int i) (.int j) S) Q:=by
 refine W.of ?_ q;simp only[j1];rw[ak h]
theorem Jl{i:Int}{n:Nat}{S:Sto}{Q:D×Sto->Prop}(h:i.natAbs<2^64)(hn:n<=1000)(q:Q (.int (i^n),S)):W (gu (.int i) (.int (n:Nat)) S) Q:=by
 refine W.of ?_ q;simp only[gu];rw[ak ⟨by omega,by omega,h⟩,Int.toNat_natCast]
theorem Dn{S:Sto}{r:Ev}{Q:D×Sto->Prop}(q:∀ b:Int,0<b->Q (.int b,S)):
  W ((m2 (b2 gx) (m2 (b2 gx) (m2 (b2 gx) (m2 (b2 gx) (m2 (b2 gx) (m2 (b2 gu) (mC (D.int (10))) (mC (D.int (60)))) (m2 (b2 gu) (mC (D.int (10))) (mC (D.int (60))))) (m2 (b2 gu) (mC (D.int (10))) (mC (D.int (60))))) (m2 (b2 gu) (mC (D.int (10))) (mC (D.int (60))))) (m2 (b2 gu) (mC (D.int (10))) (mC (D.int (60))))) (m2 (b2 gu) (mC (D.int (10))) (mC (D.int (60))))) r S) Q:=by
 have a:(m2 (b2 gx) (m2 (b2 gx) (m2 (b2 gx) (m2 (b2 gx) (m2 (b2 gx) (m2 (b2 gu) (mC (D.int (10))) (mC (D.int (60)))) (m2 (b2 gu) (mC (D.int (10))) (mC (D.int (60))))) (m2 (b2 gu) (mC (D.int (10))) (mC (D.int (60))))) (m2 (b2 gu) (mC (D.int (10))) (mC (D.int (60))))) (m2 (b2 gu) (mC (D.int (10))) (mC (D.int (60))))) (m2 (b2 gu) (mC (D.int (10))) (mC (D.int (60))))) r S=Z (.int (10^60*10^60*10^60*10^60*10^60*10^60),S):=by kernel_rfl!
 exact W.of a (q _ (by decide+kernel))
theorem Gy(ns:List Int)(k:Nat)(hk:k<63):W (db 2 fY [.rol (ns.map D.int),.int (k:Nat)] []) λp=>p.1 = .ref 0 /\ ∃o,p.2=[o]/\Hnd o 0:=by
 have a:W (fY [.rol (ns.map D.int),.int (k:Nat)] []) λp=>p.1 = .ref 0 /\ ∃g m:Int,p.2=[hnd g m 0]/\0<=m/\m<2147483647:=by
  unfold fY;refine ib ?_;unfold mx;have hc:∀(j:Int) (S:Sto) (Q:D×Sto->Prop),0<=j->(∀x:Int,Q (.int x,S))->W (db 2 fb [.rol (ns.map D.int),.int j] S) Q:=λj S Q h q=>Ha h q;have c:∀S,dZ (.rol (ns.map D.int)) S=Z (.int ns.length,S):=λS=>by simp[dZ,dn]
  generalize D.rol (ns.map D.int)=N at *
  refine eu (λr S=>∃x:Int,S=[]/\r=[Z N,Z (.int (k:Nat)),Z (.int x),Y,Y]) ?_ ?_
  ·((try walk_at"w");repeat(simp only[c,sw];try walk_at"w"))
   refine v7 (by split<;>omega) ?_;refine hc _ _ _ (Int.emod_nonneg _ (by split<;>omega)) λx=>?_;exact⟨x,O,O⟩
  rintro r S ⟨x,rfl,rfl⟩;refine eu (λr S=>∃m:Int,0<=m/\m<2147483647/\S=[]/\r=[Z N,Z (.int (k:Nat)),Z (.int x),Z (.int m),Y]) ?_ ?_
  ·walk_at"w";refine v7 (by decide) ?_;refine v6 (y1 (by decide) (by decide)) ?_;refine v6 (vo (by omega) (by omega)) ?_;walk_at"w";refine v6 (vo (by decide) (by decide)) ?_;refine v7 (by decide) ?_;exact⟨_,Int.emod_nonneg _ (by decide),Int.emod_lt_of_pos _ (by decide),O,O⟩
  rintro r S ⟨m,l,m1,rfl,rfl⟩;refine eu (λr S=>∃b:Int,0<b/\S=[]/\r=[Z N,Z (.int (k:Nat)),Z (.int x),Z (.int m),Z (.int b)]) ?_ ?_
  ·rw[dY,dk];refine Dn λb f=>?_;walk_at"w";exact⟨b,f,O⟩
  rintro r S ⟨b,f,rfl,rfl⟩;walk_at"w";refine v7 f ?_;refine Jl (i:=10) (n:=18) (by decide) (by decide) ?_;walk_at"w";refine v6 (vo (by split<;>decide) (by split<;>decide)) ?_;walk_at"w";exact⟨_,m,O,l,m1⟩
 obtain⟨⟨d,S⟩,e,t,g,m,s,l,m1⟩:=a;dsimp only at t s;subst t;subst s;refine W.of (Aw (n:=2) e O (by rw[D.unds,D.und,jP];rfl) (by simp[D.und])) ?_;refine⟨by rw[D.sh];rfl,hnd g m 0,by simp[hnd,Ob.sh,D.shs,D.sh],g,m,0,O,l,m1,by omega,by omega⟩
theorem Je{b:Bool}{S:Sto}:gEq (.bl b) (.bl b) S=Z (.bl M,S):=by cases b<;>rfl
theorem IU{b:Bool}{S:Sto}:io S .bool (.bl b)=Z M:=rfl
theorem EA{d:D}{S:Sto}{Q:D×Sto->Prop}(e:d3 S)(hd:Ok 50 S d)(q:Q (.bl M,S)):W (db 1 fX [d] S) Q:=by
 have a:∀T,d3 T->Ok 50 T d->W (fX [d] T) λp=>p=(.bl M,T):=λT c h=>by
  unfold fX;refine ib ?_;unfold mw;walk_at"w";refine pd c h.v h.b ?_
  ((try walk_at"w");repeat(simp only[dQ,IU];try walk_at"w"))
  refine si c h.v h.u h.b ?_
  ((try walk_at"w");repeat(simp only[Je];try walk_at"w"))
 cases hu:D.unds 0 [d]with
 |true=>
  have b:d.und 0=M:=by rw[iO,bA]at hu;exact hu d (by simp)
  refine jg O hu ((a [] rfl (.shut b hd.b)).mono ?_);rintro p rfl;exact⟨O,q⟩
 |false=>
  refine sK O hu ((a S e hd).mono ?_);rintro p rfl;have:=uv (S:=S) (G:=[]) (d:=.bl M) O e;rw[aK]at this;rw[this];exact q
theorem IV{S:Sto}:qr (.bl M) (.bl M) S=Z (.bl J,S):=rfl
theorem Et(ns:List Int)(k:Nat)(hk:k<63):W (pW [Z (.rol (ns.map D.int)),Z (.int (k:Nat)),Y,Y,Y] []) λp=>p.1 = .nx /\ ∃n,p.2.1=Z (.rol (ns.map D.int))::n/\n.length=4:=by
 have j:=Gy ns k hk;generalize H:D.rol (ns.map D.int)=N at *
 unfold pW;refine eu (λr S=>∃o,Hnd o 0/\S=[o]/\r=[Z N,Z (.int (k:Nat)),Z (.ref 0),Y,Y]) ?_ ?_
 ·walk_at"w";refine j.mono λp A=>?_;obtain⟨h1,o,h2,w⟩:=A;rw[h1];exact⟨o,w,h2,O⟩
 rintro r S ⟨o,e,rfl,rfl⟩;have t:HZ 0 [o] [o]:=⟨by simp,by simp,λi h1 h2=>rfl,⟨o,O,e⟩,by unfold d3;simp[e.und]⟩;refine eu (λr S=>∃o d,Hnd o 2000/\S=[o]/\d.und 0=M/\bd 40 d=M/\xr 6 d/\uz d=M/\r=[Z N,Z (.int (k:Nat)),Z (.ref 0),Z d,Y]) ?_ ?_
 ·walk_at"w";refine z8 (km:=8) t (by decide) (by decide) (by decide) fun fs ao I P F am K V x a ar l=>?_;obtain ⟨o',rfl⟩:∃ o',V=[o']:=by
   match V,l with
   |[o'],_=>exact⟨o',O⟩
  have b:Hnd o' (0+2000):=by
   obtain⟨L,s,h2⟩:=a.hand;cases s;exact h2
  walk_at"w";have h2:=IP x;exact⟨o',_,by simpa using b,O,GX x,h2.1,h2.2,GV x,O⟩
 rintro r S ⟨o,d,e,rfl,B,m,h,v,rfl⟩;walk_at"w";refine⟨O,?_⟩;rw[show(Int.toNat 8)=8 from rfl];have g:∀V:Sto,Ok 40 V d:=λV=>.shut B m;refine fR (λi r V=>i<=8 /\ ∃o G x,V=o::G/\Hnd o (2000+100*i)/\ClT G/\r=[Z N,Z (.int (k:Nat)),Z (.ref 0),Z d,x]) (iS 0 8) 0 _ _ ⟨by lia,o,[],_,O,e,O,O⟩ (λ_ _ _ _=>rfl) ?_ ?_
 ·rintro i z u r V ⟨hi,o,G,x,rfl,e,q,rfl⟩;have f:=(gE1.mp u).1;rw[ej]at f;unfold vb;walk_at"w";refine Hf 6 (fuel:=8) (by decide) e (by lia) q (g _) h λy o' C b c E=>?_;refine EA (pM b c) E ?_;walk_at"w";refine pd (pM b c) (g _).v (qB (by lia) m) ?_
  ((try walk_at"w");repeat(simp only[v,IV];try walk_at"w"))
  exact⟨by lia,o',G++C,_,O,b.more (by lia),c,O⟩
 ·rintro r V ⟨-,o,G,x,rfl,e,q,rfl⟩;exact⟨O,_,O,O⟩
theorem truth(ns:List Int)(F:ns.length<=63):∃S,m_law [.rol (ns.map D.int)] []=Z (.bl M,S):=by
 have l:W (m_law [.rol (ns.map D.int)] []) λp=>p.1 = .bl M:=by
  unfold m_law;refine ib ?_;unfold AL;have E:(D.rol (ns.map D.int)).und 0=M:=by simp[D.und,jP]
  have C:=λk w=>Et ns k w;generalize z:D.rol (ns.map D.int)=N at *
  have a:dZ N []=Z (.int ns.length,[]):=by rw[<- z];simp[dZ,dn]
  refine eu (λr S=>S=[]/\r=[Z N,Y,Y,Y,Y]) ?_ ?_
  ·((try walk_at"w");repeat(simp only[sw,wR,a];try walk_at"w"))
   have B:∃t:Nat,t<=3/\(if(if(ns.length:Int)<3 then(ns.length:Int)else 3)>1 then(if(ns.length:Int)<3 then(ns.length:Int)else 3)else 1)=(t:Int):=by
    by_cases h1:(ns.length:Int)<3
    ·rw[ak h1];by_cases h2:(ns.length:Int)>1
     ·rw[ak h2];exact⟨ns.length,by omega,O⟩
     ·rw[aj h2];exact⟨1,by omega,O⟩
    ·rw[aj h1];exact⟨3,by omega,by decide⟩
   obtain⟨t,H,te⟩:=B;rw[te,Int.toNat_natCast];refine⟨fF (by omega),?_⟩;refine fR (λ_ r S=>S=[]/\r=[Z N,Y,Y,Y,Y]) _ 0 _ _ ⟨O,O⟩ (λ_ _ _ _=>rfl) ?_ ?_
   ·rintro i d s r S ⟨rfl,rfl⟩;have b:=(gE1.mp s).1;rw [ej] at b;have m:d = .int (i:Nat):=by
     rw[k6,gP1,ci b]at s;exact(Option.some.inj s).symm
    subst m;walk_at"w";obtain⟨⟨f,r2,G⟩,y,v,u,c,o⟩:=C i (by omega);dsimp only at v c;subst v;subst c;obtain⟨q,j,g,n,A⟩:∃q j g n,u=[q,j,g,n]:=by
     match u,o with
     |[q,j,g,n],_=>exact⟨_,_,_,_,O⟩
    subst A;refine W.of (x:=(.nx,[Z N,Y,Y,Y,Y],[])) ?_ ⟨O,O,O⟩;unfold va oT;simp[fL,kO,D.und,E,y]
   ·rintro r S ⟨rfl,rfl⟩;exact⟨O,O,O⟩
  ·rintro r S ⟨rfl,rfl⟩;walk_at"w"
 obtain⟨⟨d,S⟩,e,h⟩:=l;dsimp only at h;exact⟨S,by rw[e,h]⟩
end Law
end
open PySem PySem.W PyProof.Rows
noncomputable def PySem.W.Fast.tw1569936021863099834:=()
noncomputable def PySem.W.Fast.tw14302536922981948508:=()
noncomputable def PySem.W.Fast.tw470271922847682901:=()
noncomputable def PySem.W.Fast.tw7033884882073778613:=()
noncomputable def PySem.W.Fast.tw15628428146866603134:=()
noncomputable def PySem.W.Fast.tw5993191938838920615:=()
noncomputable def PySem.W.Fast.tw1050667276675943941:=()
noncomputable def PySem.W.Fast.tw3455368809350890852:=()
noncomputable def PySem.W.Fast.tw16491616789358363267:=()
noncomputable def PySem.W.Fast.tw5164402648049436542:=()
noncomputable def PySem.W.Fast.tw14268526748294876619:=()
noncomputable def PySem.W.Fast.tw16034686468357580333:=()
noncomputable def PySem.W.Fast.tw14386659962961402541:=()
noncomputable def PySem.W.Fast.tw18155360873730064538:=()
noncomputable def PySem.W.Fast.tw12014232425400515742:=()
noncomputable def PySem.W.Fast.tw481888926695244272:=()
noncomputable def PySem.W.Fast.tw16753824466296812503:=()
noncomputable def PySem.W.Fast.tw8217201947062923110:=()
noncomputable def PySem.W.Fast.tw11835791116555803438:=()
noncomputable def PySem.W.Fast.tw128560560291499781:=()
noncomputable def PySem.W.Fast.tw4096563515209518406:=()
noncomputable def PySem.W.Fast.tw13086752026773682991:=()
noncomputable def PySem.W.Fast.tw11726354623327668981:=()
noncomputable def PySem.W.Fast.tw8156611172690701186:=()
noncomputable def PySem.W.Fast.tw11674608180850042178:=()
noncomputable def PySem.W.Fast.tw9863194455801112669:=()
noncomputable def PySem.W.Fast.tw8660187141578931068:=()
noncomputable def PySem.W.Fast.tw6000318965826679176:=()
noncomputable def PySem.W.Fast.tw3363146281481939082:=()
noncomputable def PySem.W.Fast.tw14492993685911480633:=()
noncomputable def PySem.W.Fast.tw6525365349476641856:=()
noncomputable def PySem.W.Fast.tw16680528654014328964:=()
noncomputable def PySem.W.Fast.tw14980836016264566469:=()
noncomputable def PySem.W.Fast.tw15298891437161341407:=()
noncomputable def PySem.W.Fast.tw13123121735442194180:=()
noncomputable def PySem.W.Fast.tw4979535802807459878:=()
noncomputable def PySem.W.Fast.tw7902113285921515703:=()
noncomputable def PySem.W.Fast.tw5695779561245060985:=()
noncomputable def PySem.W.Fast.tw10682859732534679607:=()
noncomputable def PySem.W.Fast.tw2598190992552163442:=()
noncomputable def PySem.W.Fast.tw8697097212990215964:=()
noncomputable def PySem.W.Fast.tw9553668412281693493:=()
noncomputable def PySem.W.Fast.tw5985240965880105794:=()
noncomputable def PySem.W.Fast.tw869402947356579160:=()
noncomputable def PySem.W.Fast.tw6000804908366631721:=()
noncomputable def PySem.W.Fast.tw13734626813273010123:=()
noncomputable def PySem.W.Fast.tw13408651106184277388:=()
noncomputable def PySem.W.Fast.tw16035928652041649852:=()
noncomputable def PySem.W.Fast.tw4977152593336086372:=()
noncomputable def PySem.W.Fast.tw11215762965354048770:=()
noncomputable def PySem.W.Fast.tw18284060016127159042:=()
noncomputable def PySem.W.Fast.tw10836264884042848783:=()
noncomputable def PySem.W.Fast.tw11620315874081718154:=()
noncomputable def PySem.W.Fast.tw1830609843666719536:=()
noncomputable def PySem.W.Fast.tw2786032723161295385:=()
noncomputable def PySem.W.Fast.tw15162091153561538577:=()
noncomputable def PySem.W.Fast.tw12048993028224057863:=()
noncomputable def PySem.W.Fast.tw7593380018145709222:=()
noncomputable def PySem.W.Fast.tw14636575902599754426:=()
noncomputable def PySem.W.Fast.tw3656538265973953643:=()
noncomputable def PySem.W.Fast.tw9384028067091446620:=()
noncomputable def PySem.W.Fast.tw12140502007444721257:=()
set_option maxRecDepth 100000 in
set_option maxHeartbeats 0 in
theorem PySem.Challenge.cw_ringmeet_k53_errands_known_holds : PySem.Challenge.rw_ringmeet_k53_errands_known.Holds := by
 w_on;o_law;k_head;(case hw=>w_witness2)
 k_fill
 refine Mi.walk_m (l:=PySem.Challenge.rw_ringmeet_k53_errands_known) (m:=Law.m_law) (k:=12) (x:="_law_script") rfl rfl ⟨rfl,by decide,by decide,rfl⟩ (fun w h Y=>PySem.W.kIn_of Y) Law.truth ?F
 case F=>
  intro w mg e h d G b;refine' Law.all_mk d G b ?a1 ?a2 ?a3 ?a4 ?a5 ?a6 ?a7 ?a8 ?a9 ?a10 ?a11 ?a12 ?a13 ?a14 ?a15 ?a16 ?a17 ?a18 ?a19 ?a20 ?a21 ?a22 ?a23 ?a24 ?a25 ?a26 ?a27 ?a28 ?a29 ?a30 ?a31 ?a32 ?a33 ?a34 ?a35 ?a36 ?a37 ?a38 ?a39 ?a40 ?a41 ?e_HANDS ?h1 ?e_MOST_BEATS ?e_MOST_CHALK ?e_MOST_DOORS ?e_MOST_FIELDS ?e_MOST_MOODS ?e_MOST_ROOMS ?e_PARTS ?h11 ?h12 ?h15 ?h18 ?h21 ?e_STEPS ?z
  all_goals try (refine' Mi.Jc ?a ?l ?c ?k;(case a=>k_is);(case l=>k_is);(case c=>k_is);(case k=>k_is))
  (case e_HANDS=>k_is)
  (case h1=>k_is)
  (case e_MOST_BEATS=>k_is)
  (case e_MOST_CHALK=>k_is)
  (case e_MOST_DOORS=>k_is)
  (case e_MOST_FIELDS=>k_is)
  (case e_MOST_MOODS=>k_is)
  (case e_MOST_ROOMS=>k_is)
  (case e_PARTS=>k_is)
  (case h11=>k_is)
  (case h12=>k_is)
  (case h15=>k_is)
  (case h18=>k_is)
  (case h21=>k_is)
  (case e_STEPS=>k_is)
  (case z=>exact ⟨by k_is,by k_is,by k_is,by k_is,by k_is,by k_is,by k_is,by k_is,by k_is,by k_is,by k_is,by k_is,by k_is,by k_is,by k_is,trivial⟩)

