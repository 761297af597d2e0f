import PyProof.Rows.All
import Wide.All
import OpenK.AllK
import Wide.FinOn
import Lean
import PyProof.EqAt
import PyProof.EqKinds
import PyProof.TupleCall
import PySem.Challenge.RW_ringmeet_k67_slow_walks
set_option Elab.async false
set_option compiler.extract_closed false
set_option linter.all false
set_option maxRecDepth 100000
set_option maxHeartbeats 4000000
open List renaming getElem?_eq_some_iff → gE1, getElem?_append_left → gL1, getElem?_eq_getElem → gG1, mem_of_getElem? → gM1, getElem?_set_ne → gS1, length_append → lA1, length_map → lM1, getElem?_cons_succ → gC1, mem_cons_of_mem → mC1, mem_cons_self → mS1, getElem?_map → gP1, getElem?_append_right → gR1, size_toArray → sT1, map_cons → mP1, length_cons → lC1, length_replicate → lR1, mem_append_right → mA1
open Option renaming bind_eq_some_iff → oB1, map_eq_some_iff → oM1, bind_some → oS1, map_some → oP1
open Nat renaming le_refl → nR1, lt_of_lt_of_le → nL1, ne_of_lt → nN1, ne_of_gt → nG1
open Bool renaming and_eq_true → bA1, false_eq_true → bF1
open Array renaming getElem?_eq_getElem → aG1, getElem?_toList → aT1
open PySem.W renaming Frag → Fg1, nsIn → wN1, keepIn → wK1, codeIn → wC1, fnOf → wF1, mg_of → wM1
open PySem.Heap renaming get?_push_of_some → hP1, get?_push_size → hS1, lt_size → hL1, size_push → hZ1, get?_update_ne → hU1, get?_update_self → hW1
open PySem renaming wpAny_bind → wB1, wpAny_pure → wP1, wpAny_setField_rec → wS1, wpAny_newObj_type → wO1, codeAny_builtin → wD1, wpAny_call_entry → wE1
open List renaming take_nil → av, drop_nil → aw, mem_filter → aA, mem_range → aB, filterMap_cons → aD, mem_cons → aE, mem_append → aF, mem_append_left → aG, getElem?_set_self → aH, mem_filterMap → aK, append_nil → aL, nodup_cons → aM, replicate → aN, length_take → aP, getElem?_replicate → aQ, getElem?_take_of_lt → aR, take_sublist → aS, length_set → aT, reverse_cons → aU, replicate_succ → aV, flatten_cons → aW, append_assoc → aY, foldl_cons → aZ, length_singleton → a0, map_nil → bc, find?_cons → bf, any_cons → bg, length_nil → bh, cons_append → bn, prefix_rfl → bp, nodup_nil → bq, getElem?_of_mem → br, map_map → bu, prefix_append → bv, nodup_append → bx, all_eq_true → bB, lookup_cons → bD, getD_eq_getElem?_getD → bG, zipIdx_cons → bH, not_mem_nil → bI, all_cons → bM, any_eq_true → bO, getElem_mem → bP, zip_cons_cons → bQ, cons_prefix_cons → bS, take_length → bT, getElem?_eq_none → bU, pairwise_cons → bW, length_eq_zero_iff → bY, take_of_length_le → b0, pairwise_lt_range → b4, map_append → b5, mem_map → b6, take_succ → b7, length_eraseIdx_of_lt → b8, perm_middle → b9, getElem?_range → ca, getElem?_toArray → cc, contains_iff_mem → cf, forall_mem_nil → cg, nil_append → ci, mem_of_mem_take → cj, mem_singleton → cm, map_congr_left → cq, filter_cons → cr, take_append_of_le_length → cu, map_id → cv, pairwise_map → cw, getElem?_cons_zero → cy, set_cons_zero → cA, set_cons_succ → cB, getElem?_concat_length → cC, length_filter_le → cD, mem_flatten → cE, length_zipIdx → cG, set_append_right → cH, getElem?_zipIdx → cI, length_range → cJ, mem_flatMap → cK, map_take → cM
open Option renaming some → ay, isSome_iff_exists → aO, isSome_map → bi, getD_some → ck
open Nat renaming lt_irrefl → az, le_trans → aC, le_succ → aX, le_of_not_lt → bd, lt_trans → bj, zero_le → bm, add_assoc → bo, le_add_right → bt, not_lt_zero → bw, min_eq_left → bA, lt_succ_self → bC, lt_of_le_of_lt → bE, le_of_succ_le → bF, zero_add → bK, lt_or_ge → bR, mul_le_mul_right → cF
open Array renaming length_toList → aI, toArray_toList → bX, toList_push → bZ, getElem?_eq_none → cb
open Bool renaming false_ne_true → aJ, and_true → bJ, or_eq_true → bL, eq_iff_iff → bN, not_true → bV, and_self → cp
open PySem renaming Value → cN, Shared → cO, Addr → cP, Program → cQ, Around → cR, World → cS, mainGlobals → cT, starEach → cU, sizeLine → cV, wpAny → cW, Heap → cX, FuncData → cY, Stmt → cZ, Scope → c3
open Option renaming some → Z, none → Y
open Bool renaming true → M, false → J
theorem Mi.O{α}{a:α}:a=a:=rfl
open Mi (O)
theorem Mi.al{p:Prop}[Decidable p]:(decide p=true)=p:=decide_eq_true_eq
theorem Mi.ak{c:Prop}{h:Decidable c}(a:c){α:Sort _}{t e:α}:ite c t e=t:=if_pos a
theorem Mi.aj{c:Prop}{h:Decidable c}(a:¬c){α:Sort _}{t e:α}:ite c t e=e:=if_neg a
theorem Mi.ai{p:Prop}[Decidable p]:¬p→decide p=false:=decide_eq_false
theorem Mi.ah{p:Prop}[Decidable p]:p→decide p=true:=decide_eq_true
open List renaming range → af
open Mi (al ak aj ai ah)
noncomputable section
namespace L2
open PySem PySem.Spec PyProof.Rows
abbrev Key:=Sum Int Str
noncomputable def om:Key->cN->Bool
 | .inl k,v=>Value.isInt k v
 | .inr x,v=>Value.isStrOf x v
noncomputable def Hy(w:cS):Key->Int
 | .inl k=>hashInt k
 | .inr x=>hashStr w x
theorem eg:∀{k:Key} {v:cN},om k v=M->(∃i t,k=Sum.inl i/\v=Value.int i t)\/(∃x t,k=Sum.inr x/\v=Value.str x t)
 | .inl i,v,h=>by
  obtain⟨t,e⟩:=Value.isInt_shape (k:=i) (v:=v) h;exact .inl ⟨i,t,O,e⟩
 | .inr x,v,h=>by
  obtain⟨t,e⟩:=Value.isStrOf_shape (x:=x) (v:=v) h;exact .inr ⟨x,t,O,e⟩
theorem wa(i:Int)(t:Tok):om (.inl i) (.int i t)=M:=by simp[om,Value.isInt]
theorem v9(x:Str)(t:Tok):om (.inr x) (.str x t)=M:=by simp[om,Value.isStrOf]
theorem D6(a b:Int):decide ((Sum.inl a:Key)=Sum.inl b)=(a == b):=by
 by_cases e:a=b
 ·subst e;simp
 ·have h:¬ (Sum.inl a:Key)=Sum.inl b:=λq=>e (Sum.inl.inj q);rw[ai h];exact(beq_eq_false_iff_ne.mpr e).symm
theorem D3(a b:Str):decide ((Sum.inr a:Key)=Sum.inr b)=decide (a=b):=by
 by_cases e:a=b
 ·subst e;simp
 ·have h:¬ (Sum.inr a:Key)=Sum.inr b:=λq=>e (Sum.inr.inj q);rw[ai h,ai e]
theorem D5(a:Int)(b:Str):decide ((Sum.inl a:Key)=Sum.inr b)=J:=ai (λq=>nomatch q)
theorem D4(a:Str)(b:Int):decide ((Sum.inr a:Key)=Sum.inl b)=J:=ai (λq=>nomatch q)
noncomputable def ew(prog:cQ)(w:cS):PySem.KeyKind prog w Key where
 is:=om
 hash:=Hy w
 inj:=λv a b ha hb=>by
  rcases eg ha with⟨i,t,rfl,rfl⟩|⟨x,t,rfl,rfl⟩
  ·rcases eg hb with⟨j,u,rfl,e⟩|⟨y,u,rfl,e⟩
   ·injection e with e1 _;rw[e1]
   ·exact nomatch e
  ·rcases eg hb with⟨j,u,rfl,e⟩|⟨y,u,rfl,e⟩
   ·exact nomatch e
   ·injection e with e1 _;rw[e1]
 byValue:=λk v h=>by
  rcases eg h with⟨i,t,rfl,rfl⟩|⟨x,t,rfl,rfl⟩<;>rfl
 pyHash:=λhv h=>by
  rcases eg hv with⟨i,t,rfl,rfl⟩|⟨x,t,rfl,rfl⟩
  ·exact wpAny_pyHash_int h
  ·exact wpAny_pyHash_str h
 eqBool:=λhu hv h=>by
  rcases eg hu with⟨i,t,rfl,rfl⟩|⟨x,t,rfl,rfl⟩
  ·rcases eg hv with⟨j,u,rfl,rfl⟩|⟨y,u,rfl,rfl⟩
   ·rw[D6]at h;exact wpAny_eqBool_int h
   ·rw[D5]at h;exact SeqAt.EqAt.int_str i t y u _ _ _ _ h
  ·rcases eg hv with⟨j,u,rfl,rfl⟩|⟨y,u,rfl,rfl⟩
   ·rw[D4]at h;exact SeqAt.EqAt.str_int x t j u _ _ _ _ h
   ·rw[D3]at h;exact wpAny_eqBool_str h
 «strs» :=λk x t v h=>by
  rcases eg h with⟨i,u,rfl,e⟩|⟨y,u,rfl,e⟩
  ·exact nomatch e
  ·injection e with e1 _;subst e1;cases v<;>rfl
theorem rh(prog:cQ)(w:cS)(i:Int)(t:Tok):(ew prog w).is (.inl i) (.int i t)=M:=wa i t
theorem rg(prog:cQ)(w:cS)(x:Str)(t:Tok):(ew prog w).is (.inr x) (.str x t)=M:=v9 x t
end L2
namespace L2
open PySem PySem.Spec PyProof.Rows
inductive V where
 |non|bl (b:Bool)|int (i:Int)|str (x:Str)|byt (b:Array UInt8)|flt (b:UInt64)|ref (a:cP)|ty (n:String)
 deriving DecidableEq
def dy:V->cN->Prop
 | .non,u=>u=Value.none
 | .bl b,u=>u=Value.bool b
 | .int i,u=>∃t,u=Value.int i t
 | .str x,u=>∃t,u=Value.str x t
 | .byt b,u=>∃t,u=Value.bytes b t
 | .flt b,u=>∃t,u=Value.float b t
 | .ref a,u=>u=Value.ref a
 | .ty n,u=>u=Value.type n
abbrev dG:List V->List cN->Prop:=Paired dy
theorem dG.length{xs:List V}{a:List cN}(r:dG xs a):xs.length=a.length:=Paired.length r
theorem dG.get:∀{xs:List V} {a:List cN} {i:Nat} {x:V},dG xs a->xs[i]?=Z x -> ∃u,a[i]?=Z u/\dy x u:=by
 intro xs a i x h e
 induction h generalizing i with
 |nil=>cases e
 |cons r t ih=>cases i with
  |zero=>cases e;exact⟨_,O,r⟩
  |succ i=>exact ih (i:=i) e
theorem dG.set{x:V}{u:cN}(r:dy x u):∀{xs:List V} {a:List cN} (i:Nat),dG xs a->dG (xs.set i x) (a.set i u):=by
 intro xs a i h
 induction h generalizing i with
 |nil=>exact .nil
 |cons q t ih=>cases i with
  |zero=>exact .cons r t
  |succ i=>exact .cons q (ih i)
theorem dG.append:∀{xs ys:List V} {a ws:List cN},dG xs a->dG ys ws->dG (xs++ys) (a++ws):=by
 intro xs ys a ws h s
 induction h with
 |nil=>exact s
 |cons r t ih=>exact .cons r ih
theorem dG.take:∀{xs:List V} {a:List cN} (n:Nat),dG xs a->dG (xs.take n) (a.take n):=by
 intro xs a n h
 induction h generalizing n with
 |nil=>rw[av,av];exact .nil
 |cons r t ih=>cases n with
  |zero=>exact .nil
  |succ n=>exact .cons r (ih n)
theorem dG.drop:∀{xs:List V} {a:List cN} (n:Nat),dG xs a->dG (xs.drop n) (a.drop n):=by
 intro xs a n h
 induction h generalizing n with
 |nil=>rw[aw,aw];exact .nil
 |cons r t ih=>cases n with
  |zero=>exact .cons r t
  |succ n=>exact ih n
def nN:Option V->Option cN->Prop
 |some v,Z u=>dy v u
 |none,Y=>True
 |_,_=>False
def KV{κ:Type}:List (κ×V)->List (κ×cN)->Prop:=Paired λ(p:κ×V) (q:κ×cN)=>p.1=q.1/\dy p.2 q.2
noncomputable def kV:Key->V
 | .inl i=>.int i
 | .inr x=>.str x
inductive HO where
 /-- a list -/
 |lst (xs:List V)
 /-- a tuple (never changes) -/
 |tup (xs:List V)
 /-- a dict whose keys are ints and texts; one whose keys are tuples of ints and texts (the empty one is both) -/
 |dK (kvs:List (Key×V))|dT (kvs:List (List Key×V))
 /-- a set of ints: its members, its size -/
 |set (S:Int->Bool) (n:Nat)
 /-- an instance of the class at C, its dict at dx, its attributes -/
 |ins (C dx:cP) (fs:List (Str×V))
 /-- the dict of the instance at x -/
 |own (x:cP)
 /-- the dict of an exception -/
 |xd (fs:List (Str×V))
 /-- a bound method, f of x -/
 |met (f x:cP)
 /-- a range object lo, lo + 1, .. below hi -/
 |rng (lo hi:Int)
 /-- a thing that is known to the object (the script; a dict while a loop walks it): read, never written while it is so -/
 |frz (o:Obj) (u:HO)
 /-- a code object's table -/
 |tbl (ps:Array cN)
 /-- any other thing, by what is true of its one object (a def of one's own: SetO a S n := HO.ext λh => ..) -/
 |ext (φ:cX->Prop)
abbrev Hp:=cP->Option HO
noncomputable def upd(H:Hp)(a:cP)(o:HO):Hp:=λb=>if b=a then Z o else H b
theorem dD{H:Hp}{a:cP}{o:HO}:upd H a o a=Z o:=by unfold upd;rw[ak O]
theorem dB{H:Hp}{a b:cP}{o:HO}(h:b≠a):upd H a o b=H b:=by unfold upd;rw[aj h]
theorem FR{H:Hp}{a b:cP}{o u:HO}(h:H a=Z o)(h':H b=Z u)(d:o≠u):a≠b:=by
 intro e;subst e;rw[h]at h';exact d (Option.some.inj h')
theorem dP{H:Hp}{a b:cP}{o:HO}(h:H a=Z o)(h':H b=Y):a≠b:=by
 intro e;subst e;rw[h]at h';cases h'
section
variable(P:cQ) (w:cS)
def ev(H:Hp)(h:cX)(a:cP):HO->Prop
 | .lst xs=>xs.length<=cV /\ ∃(its:List cN) (n:Nat),dG xs its/\h.get? a=Z {cls:=.type "list",data:=.seq its.toArray n}
 | .tup xs=>xs.length<=cV /\ ∃its:List cN,dG xs its/\IsTup h a its.toArray
 | .dK kvs=>kvs.length<=cV/\(a == sysModules)=J /\ ∃vs,KV kvs vs/\h.DictOf (ew P w) a vs
 | .dT kvs=>kvs.length<=cV/\(a == sysModules)=false /\ ∃ xs:List (List Key×cP×cN),
   Paired (λ(p:List Key×V) (q:List Key×cP×cN)=>p.1=q.1/\H q.2.1=Z (.tup (p.1.map kV))/\dy p.2 q.2.2) kvs xs /\
   ∃o es ep,h.get? a=Z o/\o.ExactDict/\o.data = .dict es ep/\es.toList=xs.map (entryOfKey (tupleKind (ew P w)))/\(xs.map (·.1)).Nodup
 | .set S n=>h.SetOf (intKind P w) a S n
 | .ins C dx fs=>H dx=some (.own a)/\fs.length<=1000/\dx≠a/\h.get? a=some (PySem.W.instObj C dx) /\
   ∃mA,h.Ns1 dx mA/\(∀f,nN (fs.lookup f) (mA f))/\PySem.Within mA (fs.map (·.1))
 | .own _=>∃o,h.get? a=Z o
 | .xd fs=>∃mA,h.Ns1 a mA /\ ∀f,nN (fs.lookup f) (mA f)
 | .rng lo hi=>∃t u v,h.get? a=Z {cls:=.type "range",data:=.fields #[.int lo t,.int hi u,.int 1 v]}
 | .frz o u=>h.get? a=Z o/\ev H h a u
 | .tbl ps=>h.get? a=Z {cls:=.none,data:=.fields ps}
 | .met f x=>h.get? a=Z (PySem.W.methodObj (.ref f) (.ref x))
 | .ext φ=>φ h/\(∃o,h.get? a=Z o) /\ ∀h1 h2:cX,φ h1->(∀o,h1.get? a=Z o->h2.get? a=Z o)->φ h2
def kE(H:Hp)(h:cX):Prop:=∀a o,H a=Z o->ev P w H h a o
end
section
variable{P:cQ}{w:cS}{H H':Hp}{h h':cX}{a:cP}{o:HO}
theorem ev.lt(x:ev P w H h a o):a<h.objs.size:=by
 cases o with
 |lst xs=>obtain⟨_,_,_,_,e⟩:=x;exact hL1 e
 |tup xs=>obtain⟨_,_,_,p⟩:=x;exact p.lt
 |dK kvs=>obtain⟨_,_,_,_,o,_,_,e,_⟩:=x;exact hL1 e
 |dT kvs=>obtain⟨_,_,_,_,o,_,_,e,_⟩:=x;exact hL1 e
 |set S n=>obtain⟨o,_,_,_,e,_⟩:=x;exact hL1 e
 |ins C dx fs=>obtain⟨_,_,_,e,_⟩:=x;exact hL1 e
 |own y=>obtain⟨_,e⟩:=x;exact hL1 e
 |xd fs=>obtain⟨_,⟨_,_,_,e,_⟩,_⟩:=x;exact hL1 e
 |rng lo hi=>obtain⟨_,_,_,e⟩:=x;exact hL1 e
 |frz b u=>obtain⟨e,_⟩:=x;exact hL1 e
 |tbl ps=>exact hL1 (show h.get? a=Z _ from x)
 |met f y=>exact hL1 (show h.get? a=Z _ from x)
 |ext φ=>obtain⟨_,⟨_,e⟩,_⟩:=x;exact hL1 e
theorem Paired.mapP{α β:Type}{F G:α->β->Prop}:∀{l₁:List α} {l₂:List β},Paired F l₁ l₂->(∀a b,F a b->G a b)->Paired G l₁ l₂:=by
 intro a b h f
 induction h with
 |nil=>exact .nil
 |cons r t ih=>exact .cons (f _ _ r) ih
theorem ev.stay(x:ev P w H h a o)(k:∀ b u,(b=a\/H b=Z (.own a))->h.get? b=Z u->h'.get? b=Z u)(ho:∀b,H b=Z (.own a)->H' b=Z (.own a))(ht:∀b xs,H b=Z (.tup xs)->H' b=Z (.tup xs)):ev P w H' h' a o:=by
 induction o with
 |lst xs=>obtain⟨z,i,n,r,e⟩:=x;exact⟨z,i,n,r,k _ _ (.inl O) e⟩
 |tup xs=>obtain⟨z,i,r,g,e,c⟩:=x;exact⟨z,i,r,g,k _ _ (.inl O) e,c⟩
 |dK kvs=>obtain⟨z,y,vs,r,g,es,ep,e,c⟩:=x;exact⟨z,y,vs,r,g,es,ep,k _ _ (.inl O) e,c⟩
 |dT kvs=>
  obtain⟨z,y,xs,r,g,es,ep,e,c⟩:=x;exact⟨z,y,xs,Paired.mapP r λp q z=>⟨z.1,ht _ _ z.2.1,z.2.2⟩,g,es,ep,k _ _ (.inl O) e,c⟩
 |set S n=>obtain⟨g,es,ep,t,e,c⟩:=x;exact⟨g,es,ep,t,k _ _ (.inl O) e,c⟩
 |ins C dx fs=>
  obtain⟨d,z,ne,e,mA,⟨j,es,ep,l,c⟩,r⟩:=x;exact⟨ho _ d,z,ne,k _ _ (.inl O) e,mA,⟨j,es,ep,k _ _ (.inr d) l,c⟩,r⟩
 |own y=>obtain⟨g,e⟩:=x;exact⟨g,k _ _ (.inl O) e⟩
 |xd fs=>obtain⟨mA,⟨j,es,ep,e,c⟩,r⟩:=x;exact⟨mA,⟨j,es,ep,k _ _ (.inl O) e,c⟩,r⟩
 |rng lo hi=>obtain⟨t,u,v,e⟩:=x;exact⟨t,u,v,k _ _ (.inl O) e⟩
 |frz g u ih=>obtain⟨e,q⟩:=x;exact⟨k _ _ (.inl O) e,ih q⟩
 |tbl ps=>
  have e:h.get? a=Z {cls:=.none,data:=.fields ps}:=x;show h'.get? a=Z {cls:=.none,data:=.fields ps};exact k a _ (.inl O) e
 |met f y=>
  have e:h.get? a=Z (PySem.W.methodObj (.ref f) (.ref y)):=x;show h'.get? a=Z (PySem.W.methodObj (.ref f) (.ref y));exact k a _ (.inl O) e
 |ext φ=>obtain⟨p,⟨o,e⟩,st⟩:=x;exact⟨st _ _ p λo q=>k _ _ (.inl O) q,⟨o,k _ _ (.inl O) e⟩,st⟩
theorem kE.lt(x:kE P w H h)(e:H a=Z o):a<h.objs.size:=(x a o e).lt
theorem kE.fresh(x:kE P w H h)(e:h.objs.size<=a):H a=Y:=by
 cases q:H a with
 |none=>rfl
 |some u=>exact absurd (nL1 (x.lt q) e) (az _)
theorem kE.kept(x:kE P w H h)(k:∀b u,h.get? b=Z u->h'.get? b=Z u):kE P w H h':=λa o e=>
 (x a o e).stay (λb u _ q=>k b u q) (λ_ q=>q) λ_ _ q=>q
theorem kE.laid(x:kE P w H h)(k:∀b u,h.get? b=Z u->h'.get? b=Z u)(hp:h.objs.size<=a)(new:ev P w (upd H a o) h' a o):kE P w (upd H a o) h':=λb u e=>by
 have f:=x.fresh hp;by_cases d:b=a
 ·subst d;rw[dD]at e;cases e;exact new
 ·rw[dB d]at e;exact(x b u e).stay (λc v _ q=>k c v q) (λc q=>by rw[dB (dP q f)];exact q) λc xs q=>by rw[dB (dP q f)];exact q
end
def Rd(H:Hp)(a:cP)(u:HO):Prop:=H a=Z u \/ ∃o,H a=Z (.frz o u)
theorem Rd.ok{P:cQ}{w:cS}{H:Hp}{h:cX}{a:cP}{u:HO}(r:Rd H a u)(x:kE P w H h):ev P w H h a u:=by
 rcases r with r|⟨o,r⟩
 ·exact x a u r
 ·obtain⟨_,q⟩:=x a _ r;exact q
def EF:Option HO->Prop
 |some (.lst _)=>True
 |some (.dK _)=>True
 |some (.dT _)=>True
 |some (.set _ _)=>True
 |some (.ins _ _ _)=>True
 |some (.ext _)=>True
 |_=>False
section
variable{P:cQ}{w:cS}{H:Hp}{h h':cX}{x e:cP}{o':HO}
theorem kE.write(ok:kE P w H h)(mu:EF (H x))(he:e=x\/H e=Z (.own x))(k:∀ b u,b≠e->h.get? b=Z u->h'.get? b=Z u)(i:∃ u,h'.get? e=Z u)(new:ev P w (upd H x o') h' x o'):kE P w (upd H x o') h':=λb u q=>by
 have d:∀c y,H c=Z (.own y)->c≠x:=λc y r z=>by subst z;rw[r]at mu;exact mu
 have f:∀c xs,H c=Z (.tup xs)->c≠x:=λc xs r z=>by subst z;rw[r]at mu;exact mu
 by_cases g:b=x
 ·subst g;rw[dD]at q;cases q;exact new
 ·rw[dB g]at q;by_cases a:b=e
  ·have j:H b=some (.own x):=by
    rcases he with z|z
    ·exact absurd (a.trans z) g
    ·rw[a];exact z
   rw[q]at j;cases j;obtain⟨v,l⟩:=i;exact⟨v,by rw[a];exact l⟩
  ·refine(ok b u q).stay (λc v hc r=>k c v ?_ r) (λc r=>by rw[dB (d c b r)];exact r) λc xs r=>by rw[dB (f c xs r)];exact r
   rcases hc with rfl|hc
   ·exact a
   ·rintro rfl;rcases he with z|z
    ·exact d c b hc z
    ·rw[hc]at z;cases z;exact g O
end
structure Un (fs ex:List cP)(H H':Hp)(h h':cX):Prop where
 keep:∀b o,h.get? b=some o->H b=none->b∉fs->b∉ex->h'.get? b=some o
 slot:∀b o,h.get? b=some o->H b=none->b∈fs->b∉ex -> ∃sl,h'.get? b=some {o with slots:=sl}
 free:∀b o,h.get? b=some o->H b=none->b∉ex->H' b=none
 there:∀b o,h.get? b=some o->b∉ex -> ∃o',h'.get? b=some o'
 tups:∀b xs,H b=some (.tup xs)->H' b=some (.tup xs)
 frzs:∀b o u,H b=some (.frz o u)->H' b=some (.frz o u)
 tbls:∀b ps,H b=some (.tbl ps) -> ∃more,H' b=some (.tbl (ps++more))
section
variable{fs fs' ex ex':List cP}{H H1 H2:Hp}{h h1 h2 h':cX}{a x e:cP}{o:HO}
theorem Un.any(u:Un fs ex H H1 h h1){b:cP}{a:Obj}(q:h.get? b=Z a)(n:H b=Y)(hx:b∉ex):∃d,h1.get? b=Z {a with slots:=d}:=by
 by_cases c:b∈fs
 ·exact u.slot b a q n c hx
 ·exact⟨a.slots,u.keep b a q n c hx⟩
theorem Un.trans(a:Un fs ex H H1 h h1)(b:Un fs ex H1 H2 h1 h2):Un fs ex H H2 h h2 where
 keep:=λc e q n hc d=>b.keep c e (a.keep c e q n hc d) (a.free c e q n d) hc d
 slot:=λc e q n hc d=>by
  obtain⟨j,f⟩:=a.slot c e q n hc d;obtain⟨g,i⟩:=b.slot c _ f (a.free c e q n d) hc d;exact⟨g,i⟩
 free:=λc e q n d=>by
  obtain⟨o',f⟩:=a.there c e q d;exact b.free c o' f (a.free c e q n d) d
 there:=λc e q d=>by
  obtain⟨o',f⟩:=a.there c e q d;exact b.there c o' f d
 tups:=λc xs q=>b.tups c xs (a.tups c xs q)
 frzs:=λc e xs q=>b.frzs c e xs (a.frzs c e xs q)
 tbls:=λc ps q=>by
  obtain⟨m1,f⟩:=a.tbls c ps q;obtain⟨m2,i⟩:=b.tbls c _ f;exact⟨m1++m2,by rw[i,Array.append_assoc]⟩
theorem Un.kept(k:∀b u,h.get? b=Z u->h'.get? b=Z u):Un fs ex H H h h':=
 ⟨λb a q _ _ _=>k b a q,λb a q _ _ _=>⟨a.slots,k b a q⟩,λ_ _ _ n _=>n,λb a q _=>⟨a,k b a q⟩,λ_ _ q=>q,λ_ _ _ q=>q,λ_ ps q=>⟨#[],by rw[q];simp⟩⟩
theorem Un.refl:Un fs ex H H h h:=Un.kept λ_ _ q=>q
theorem Un.laid(k:∀b u,h.get? b=Z u->h'.get? b=Z u)(hp:h.objs.size<=a)(hn:H a=Y):Un fs ex H (upd H a o) h h' where
 keep:=λb u q _ _ _=>k b u q
 slot:=λb u q _ _ _=>⟨u.slots,k b u q⟩
 free:=λb u q n _=>by rw[dB (nN1 (nL1 (hL1 q) hp))];exact n
 there:=λb u q _=>⟨u,k b u q⟩
 tups:=λb xs q=>by rw[dB (dP q hn)];exact q
 frzs:=λb u xs q=>by rw[dB (dP q hn)];exact q
 tbls:=λb ps q=>⟨#[],by rw[dB (dP q hn),q];simp⟩
theorem Un.write(mu:EF (H x))(he:e=x\/H e=Z (.own x))(k:∀b u,b≠e->h.get? b=Z u->h'.get? b=Z u)(d:∃u,h'.get? e=Z u):Un fs ex H (upd H x o) h h':=by
 have g:∀b,H b=Y->b≠x:=λb n z=>by subst z;rw[n]at mu;exact mu
 have f:∀b,H b=Y->b≠e:=λb n z=>by
  subst z;rcases he with r|r
  ·exact g b n r
  ·rw[n]at r;cases r
 have c:∀b u,H b=Z u -> ¬ EF (Z u)->b≠x:=λb u q nm z=>by subst z;rw[q]at mu;exact nm mu
 refine⟨λb u q n _ _=>k b u (f b n) q,λb u q n _ _=>⟨u.slots,k b u (f b n) q⟩,λb u q n _=>by rw[dB (g b n)];exact n,λb u q _=>?_,
  λb xs q=>by rw[dB (c b _ q λz=>z)];exact q,λb u xs q=>by rw[dB (c b _ q λz=>z)];exact q,λb ps q=>⟨#[],by rw[dB (c b _ q λz=>z),q];simp⟩⟩
 by_cases a:b=e
 ·subst a;exact d
 ·exact⟨u,k b u a q⟩
end
noncomputable def trk(h:cX)(H:Hp):List cP:=(af h.objs.size).filter λa=>(H a).isSome
noncomputable def pI(h:cX)(H:Hp):cX:=PySem.W.hideAll h (trk h H)
theorem wh(h:cX)(H:Hp):(pI h H).objs.size=h.objs.size:=PySem.W.hideAll_size _ _
theorem yY{h:cX}{H:Hp}{b:cP}{o:Obj}(e:h.get? b=Z o)(n:H b=Y):(pI h H).get? b=Z o:=
 PySem.W.hideAll_get _ e λa=>by
  have q:(H b).isSome=M:=(aA.mp a).2;rw[n]at q;simp at q
theorem AU{h:cX}{H:Hp}{b:cP}{o:Obj}(e:(pI h H).get? b=Z o):h.get? b=Z o/\H b=Y:=by
 have a:h.get? b=Z o:=PySem.W.of_hideAll (trk h H) e;refine⟨a,?_⟩;cases q:H b with
 |none=>rfl
 |some x=>
  have c:b∈trk h H:=aA.mpr ⟨aB.mpr (hL1 a),by simp[q]⟩;have z:(pI h H).get? b=Y:=PySem.W.hideAll_none (trk h H) c;rw[z]at e;cases e
noncomputable def BS(g h:cX)(L:cP):List (cP×Obj):=(af h.objs.size).filterMap λa=>if a=L\/(g.get? a).isSome=M then Y else(h.get? a).map λo=>(a,o)
noncomputable def rest(g h:cX)(L d:cP):List (cP×Obj):=(BS g h L).filter λp=>decide (p.1≠d)
end L2
namespace L2
open PySem PySem.Spec PyProof.Rows
structure Mod (K:Fg1)(mg:Str->Option cN)(base:cX):Prop where
 kin:K.In base
 glob:base.Ns cT mg
 blt:∃mb,base.Ns builtinsNs mb /\ ∀x:Str,x≠"__name__"->mb x=bootBuiltins x
 nolimit:base.NoLimit
structure Cx where
 prog:cQ
 w:cS
 K:Fg1
 mg:Str->Option cN
 base:cX
 A:cR
 N:List Str
 s₀:cO
 H₀:Hp
 env:Env
 outer:List Env
 stack:List Env
 ex:List cP
 fn:Str->Bool
 calm:Bool
 pn:List (cP×Obj)
 xe:cN->cO->Prop
noncomputable def frs(l:List Env):List cP:=l.filterMap (·.frame)
abbrev Cx.fs(X:Cx):List cP:=frs X.outer
def Vis(sc:c3)(x:Str):Prop:=sc.names.lookup x=Z .local\/sc.names.lookup x=Z .cell\/sc.names.lookup x=Z .free
def uh(sc:c3)(x:Str):Prop:=sc.names.lookup x=Z .local\/sc.names.lookup x=Z .cell
def HV(env:Env)(h:cX)(m:Str->Option cN)(x:Str)(u:cN):Prop:=
 (env.kindOf x=Z .local/\m x=Z u)\/((env.kindOf x=Z .cell\/env.kindOf x=Z .free) /\ ∃c,env.cells.lookup x=Z c/\h.IsCell c (Z u))
structure Cx.Ok (X:Cx):Prop where
 mod:Mod X.K X.mg X.base
 kind:X.env.scope.kind = .function
 glob:X.env.globals=cT
 blt:X.env.builtins=builtinsNs
 above:X.s₀.heap.objs.size<=X.env.locals
 inj:∀x y c,X.env.cells.lookup x=some c->X.env.cells.lookup y=some c->x=y
 has:∀x,(X.env.kindOf x=some .cell\/X.env.kindOf x=some .free) -> ∃c,X.env.cells.lookup x=some c
 cab:∀x c,X.fn x=true->X.env.cells.lookup x=some c->X.s₀.heap.objs.size<=c
 hd:X.calm=true->X.A.handled=none
 frames:X.A.frames=some X.stack
 stk:X.stack=X.outer\/(X.stack=X.env::X.outer/\X.env.frame=some X.env.locals)
 exf:∀b∈X.ex,b≠X.env.locals /\ ∀x c,X.env.cells.lookup x=some c->c≠b
 bs:∀b o,X.base.get? b=some o->X.s₀.heap.get? b=some o/\X.H₀ b=none
 bsz:X.base.objs.size<=X.s₀.heap.objs.size
 noex:∀b o,X.base.get? b=some o->b∉X.ex
 exfs:∀b∈X.ex,b∉X.fs
 funs:X.s₀.heap.FunFrames X.base X.outer
 frf:∀b∈X.fs,X.H₀ b=none
structure Inv (X:Cx)(ag:List (cP×Obj))(σ:List (Option V))(H:Hp)(s:cO):Prop where
 ok:X.Ok
 os:s.os=X.s₀.os
 bare:AllBare s.gens
 base:Un X.fs X.ex X.H₀ H X.s₀.heap s.heap
 loc:∃m,s.heap.Ns X.env.locals m /\ ∀(i:Nat) (x:Str) (v:V),X.N[i]?=some x->σ[i]?=some (some v)->Vis X.env.scope x -> ∃u,dy v u/\HV X.env s.heap m x u
 cell:∀x c,X.env.cells.lookup x=some c -> ∃v,s.heap.IsCell c v
 free:H X.env.locals=none
 freeC:∀x c,X.env.cells.lookup x=some c->H c=none
 pin:∀p∈X.pn++ag,s.heap.get? p.1=some p.2/\H p.1=none/\p.1≠X.env.locals/\p.1∉X.fs /\ ∀v,p.2.data ≠ .cell v
 hok:kE X.prog X.w H s.heap
 len:σ.length=X.N.length
section
variable{X:Cx}{ag:List (cP×Obj)}{σ:List (Option V)}{H H':Hp}{s:cO}{h':cX}
theorem Cx.Ok.nofr(ok:X.Ok){b:cP}{o:Obj}(e:X.base.get? b=Z o):b∉X.fs:=λa=>by
 have:=(ok.funs.mem a).1;rw[e]at this;cases this
theorem Inv.bs(I:Inv X ag σ H s):∀b o,X.base.get? b=Z o->s.heap.get? b=Z o/\H b=Y:=λb o e=>
 ⟨I.base.keep b o (I.ok.bs b o e).1 (I.ok.bs b o e).2 (I.ok.nofr e) (I.ok.noex b o e),I.base.free b o (I.ok.bs b o e).1 (I.ok.bs b o e).2 (I.ok.noex b o e)⟩
theorem Inv.bk(I:Inv X ag σ H s):∀b o,X.base.get? b=Z o->s.heap.get? b=Z o:=λb o e=>(I.bs b o e).1
theorem Inv.mod(I:Inv X ag σ H s):Mod X.K X.mg X.base:=I.ok.mod
theorem Inv.kIn(I:Inv X ag σ H s):X.K.In s.heap:=I.ok.mod.kin.keeps I.bk
theorem Inv.lt(I:Inv X ag σ H s):X.env.locals<s.heap.objs.size:=let ⟨_,hn,_⟩:=I.loc;hn.lt
theorem Inv.sz(I:Inv X ag σ H s):X.s₀.heap.objs.size<=s.heap.objs.size:=aC I.ok.above (Nat.le_of_lt I.lt)
theorem Inv.nofs(I:Inv X ag σ H s){a:cP}(h:s.heap.objs.size<=a):a∉X.fs:=λb=>by
 obtain⟨_,o,c,_⟩:=I.ok.funs.mem b;exact absurd (nL1 (hL1 c) (aC I.sz h)) (az _)
theorem Inv.cne(I:Inv X ag σ H s):∀x c,X.env.cells.lookup x=Z c->c≠X.env.locals:=λx c e z=>by
 obtain⟨v,o,f,d⟩:=I.cell x c e;obtain⟨m,⟨o',es,ep,a,b,_⟩,_⟩:=I.loc;rw[z,a]at f;cases f;rw[b]at d;cases d
theorem Inv.funs(I:Inv X ag σ H s):s.heap.FunFrames X.base X.outer:=by
 have all:∀(l:List Env),(∀b∈frs l,b∈X.fs)->X.s₀.heap.FunFrames X.base l->s.heap.FunFrames X.base l:=by
  intro l
  induction l with
  |nil=>intro _ _;trivial
  |cons j r ih=>
   intro f h;obtain⟨k,⟨L,o,c,g,n,m⟩,i⟩:=h;have d:L∈X.fs:=f L (by unfold frs;rw[aD,c];exact mS1);obtain⟨p,e⟩:=I.base.slot L o n (I.ok.frf L d) d λz=>I.ok.exfs L z d;exact⟨k,⟨L,_,c,g,e,m⟩,ih (λb a=>f b (by unfold frs;rw[aD,c];exact mC1 _ a)) i⟩
 exact all X.outer (λ_ a=>a) I.ok.funs
theorem Inv.stack(I:Inv X ag σ H s):s.heap.FunFrames X.base X.stack:=by
 rcases I.ok.stk with e|⟨e,a⟩
 ·rw[e];exact I.funs
 ·rw[e];obtain⟨m,b,_⟩:=I.loc;refine .cons (by rw[I.ok.kind];decide) a b ?_ I.funs;exact Heap.get?_none_of_le (aC I.ok.bsz I.ok.above)
theorem Inv.stkSub(I:Inv X ag σ H s):∀b∈frs X.stack,b∈X.env.locals::X.fs:=λb a=>by
 rcases I.ok.stk with e|⟨e,c⟩
 ·rw[e]at a;exact mC1 _ a
 ·rw[e]at a;unfold frs at a;rw[aD,c]at a;exact a
theorem Inv.stkFree(I:Inv X ag σ H s):∀b∈frs X.stack,H b=Y:=λb a=>by
 rcases aE.mp (I.stkSub b a)with e|a
 ·rw[e];exact I.free
 ·obtain⟨_,o,c,_⟩:=I.ok.funs.mem a;exact I.base.free b o c (I.ok.frf b a) λz=>I.ok.exfs b z a
theorem Inv.step{g':Array GenState}{t':Nat}{d':Drawn}{ch:List cP}(I:Inv X ag σ H s)(f:∀b∈ch,(b∈X.ex\/X.s₀.heap.objs.size<=b)/\b≠X.env.locals/\(∀x c,X.env.cells.lookup x=some c->c≠b) /\ ∀p∈X.pn++ag,p.1≠b)(keep:∀b o,b≠X.env.locals->b∉X.fs->b∉ch->s.heap.get? b=some o->H b=none->h'.get? b=some o)(slot:∀b o,b≠X.env.locals->b∈X.fs->b∉ch->s.heap.get? b=some o->H b=none -> ∃G,h'.get? b=some {o with slots:=G})(free:∀b o,b∉ch->s.heap.get? b=some o->H b=none->H' b=none)(w:∀b o,b∉ch->s.heap.get? b=some o -> ∃o',h'.get? b=some o')(B:∀b xs,H b=some (.tup xs)->H' b=some (.tup xs))(C:∀b o u,H b=some (.frz o u)->H' b=some (.frz o u))(E:∀b ps,H b=some (.tbl ps) -> ∃more,H' b=some (.tbl (ps++more)))(ns:∀m,s.heap.Ns X.env.locals m->h'.Ns X.env.locals m)(K:kE X.prog X.w H' h')(hg:AllBare g'):
  Inv X ag σ H' {s with heap:=h',gens:=g',drawn:=d',toks:=t'}:=by
 have F:∀b o,X.s₀.heap.get? b=Z o->b≠X.env.locals:=λb o e=>nN1 (nL1 (hL1 e) I.ok.above);have t:∀b o,X.s₀.heap.get? b=Z o->b∉X.ex->b∉ch:=λb o e a y=>by
  rcases(f b y).1 with z|z
  ·exact a z
  ·exact absurd (nL1 (hL1 e) z) (az _)
 have g:∀x c,X.env.cells.lookup x=Z c -> ∀v,s.heap.IsCell c v->h'.IsCell c v:=λx c e v ⟨o,A,L⟩=>by
  have h:c∉ch:=λz=>(f c z).2.2.1 x c e O;by_cases hc:c∈X.fs
  ·obtain⟨G,q⟩:=slot c o (I.cne x c e) hc h A (I.freeC x c e);exact⟨_,q,L⟩
  ·exact⟨o,keep c o (I.cne x c e) hc h A (I.freeC x c e),L⟩
 refine⟨I.ok,I.os,hg,⟨λb o e n y a=>?_,λb o e n y a=>?_,λb o e n a=>?_,λb o e a=>?_,λb xs e=>B b xs (I.base.tups b xs e),λb o xs e=>C b o xs (I.base.frzs b o xs e),λb ps e=>?_⟩,?_,λx c e=>?_,?_,λx c e=>?_,λp ao=>?_,K,I.len⟩
 ·exact keep b o (F b o e) y (t b o e a) (I.base.keep b o e n y a) (I.base.free b o e n a)
 ·obtain⟨G,j⟩:=I.base.slot b o e n y a;obtain⟨am,D⟩:=slot b _ (F b o e) y (t b o e a) j (I.base.free b o e n a);exact⟨am,D⟩
 ·obtain⟨o',j⟩:=I.base.there b o e a;exact free b o' (t b o e a) j (I.base.free b o e n a)
 ·obtain⟨o',j⟩:=I.base.there b o e a;exact w b o' (t b o e a) j
 ·obtain⟨m1,j⟩:=I.base.tbls b ps e;obtain⟨m2,D⟩:=E b _ j;exact⟨m1++m2,by rw[D,Array.append_assoc]⟩
 ·obtain⟨m,Q,au⟩:=I.loc;refine⟨m,ns m Q,λi x v j D P=>?_⟩;obtain⟨u,r,l⟩:=au i x v j D P;refine⟨u,r,?_⟩;rcases l with l|⟨k,c,e,z⟩
  ·exact .inl l
  ·exact .inr ⟨k,c,e,g x c e _ z⟩
 ·obtain⟨v,z⟩:=I.cell x c e;exact⟨v,g x c e v z⟩
 ·obtain⟨m,⟨o,_,_,A,_⟩,_⟩:=I.loc;exact free _ o (λz=>(f _ z).2.1 O) A I.free
 ·obtain⟨v,o,A,L⟩:=I.cell x c e;exact free c o (λz=>(f c z).2.2.1 x c e O) A (I.freeC x c e)
 ·obtain⟨e,n,ne,N,d⟩:=I.pin p ao;have h:p.1∉ch:=λz=>(f p.1 z).2.2.2 p ao O;exact⟨keep p.1 p.2 ne N h e n,free p.1 p.2 h e n,ne,N,d⟩
theorem Inv.un{t':Nat}(I:Inv X ag σ H s)(u:Un X.fs [] H H' s.heap h')(f:kE X.prog X.w H' h'):Inv X ag σ H' {s with heap:=h',toks:=t'}:=by
 obtain⟨m,⟨o,es,ep,h,r⟩,_⟩:=id I.loc;obtain⟨l,k⟩:=u.any h I.free (by simp);exact I.step (g':=s.gens) (d':=s.drawn) (ch:=[]) (λ_ z=>nomatch z) (λb o _ d _ e n=>u.keep b o e n d (by simp)) (λb o _ d _ e n=>u.slot b o e n d (by simp)) (λb o _ e n=>u.free b o e n (by simp)) (λb o _ e=>u.there b o e (by simp)) u.tups u.frzs u.tbls (λp j=>by
  obtain⟨o',c,g,a,i⟩:=j;rw[h]at a;cases a;exact⟨_,c,g,k,i⟩) f I.bare
theorem Inv.call{g':Array GenState}{t':Nat}{d':Drawn}{ch:List cP}(I:Inv X ag σ H s)(u:Un (frs X.stack) ch H H' s.heap h')(g:kE X.prog X.w H' h')(hg:AllBare g')(a:∀b∈ch,(b∈X.ex\/X.s₀.heap.objs.size<=b)/\b≠X.env.locals/\(∀x c,X.env.cells.lookup x=some c->c≠b) /\ ∀p∈X.pn++ag,p.1≠b):
  Inv X ag σ H' {s with heap:=h',gens:=g',drawn:=d',toks:=t'}:=by
 obtain⟨m,⟨o,es,ep,j,r⟩,_⟩:=id I.loc;obtain⟨t,i⟩:=u.any j I.free λz=>(a _ z).2.1 O;exact I.step (ch:=ch) a (λb o i k hc e n=>u.keep b o e n (λz=>(aE.mp (I.stkSub b z)).elim i k) hc) (λb o _ _ hc e n=>u.any e n hc) (λb o hc e n=>u.free b o e n hc) (λb o hc e=>u.there b o e hc) u.tups u.frzs u.tbls (λv q=>by
  obtain⟨o',f,h,d,l⟩:=q;rw[j]at d;cases d;exact⟨_,f,h,i,l⟩) g hg
theorem Inv.turned{t':Nat}{it:cP}(I:Inv X ag σ H s)(k:∀ b o,b≠it->s.heap.get? b=Z o->h'.get? b=Z o)(hn:H it=Y)(d:it≠X.env.locals)(h1:it∈X.ex\/X.s₀.heap.objs.size<=it)(h2:∀x c,X.env.cells.lookup x=Z c->c≠it)(h:∀p∈X.pn++ag,p.1≠it):Inv X ag σ H {s with heap:=h',toks:=t'}:=by
 have a:∀b u,H b=Z u->b≠it:=λb u e z=>by rw[z,hn]at e;cases e
 refine I.step (g':=s.gens) (d':=s.drawn) (ch:=[it]) (λb f=>?_) (λb o _ _ hc e _=>k b o (λz=>hc (by simp[z])) e) (λb o _ _ hc e _=>⟨o.slots,k b o (λz=>hc (by simp[z])) e⟩) (λ_ _ _ _ n=>n)
  (λb o hc e=>⟨o,k b o (λz=>hc (by simp[z])) e⟩) (λ_ _ e=>e) (λ_ _ _ e=>e) (λb ps e=>⟨#[],by rw[e];simp⟩) (λm g=>?_) (λb u e=>?_) I.bare
 ·have e:b=it:=by simpa using f
  subst e;exact⟨h1,d,h2,h⟩
 ·obtain⟨o,es,ep,i,r⟩:=g;exact⟨o,es,ep,k _ o (Ne.symm d) i,r⟩
 ·refine(I.hok b u e).stay (λc v hc q=>k c v ?_ q) (λ_ q=>q) λ_ _ q=>q;rcases hc with z|z
  ·rw[z];exact a b u e
  ·exact a c _ z
theorem Inv.tok(I:Inv X ag σ H s)(t:Nat):Inv X ag σ H {s with toks:=t}:=I.un (h':=s.heap) (t':=t) Un.refl I.hok
theorem Inv.kept{t':Nat}(I:Inv X ag σ H s)(k:∀b u,s.heap.get? b=Z u->h'.get? b=Z u):Inv X ag σ H {s with heap:=h',toks:=t'}:=I.un (Un.kept k) (I.hok.kept k)
theorem Inv.laid{a:cP}{o:HO}{t':Nat}(I:Inv X ag σ H s)(k:∀ b u,s.heap.get? b=some u->h'.get? b=some u)(hp:s.heap.objs.size<=a)(new:ev X.prog X.w (upd H a o) h' a o):
  Inv X ag σ (upd H a o) {s with heap:=h',toks:=t'}:=I.un (Un.laid k hp (I.hok.fresh hp)) (I.hok.laid k hp new)
theorem Inv.write{x e:cP}{o:HO}{t':Nat}(I:Inv X ag σ H s)(mu:EF (H x))(he:e=x\/H e=Z (.own x))(k:∀ b u,b≠e->s.heap.get? b=Z u->h'.get? b=Z u)(a:∃ u,h'.get? e=Z u)(new:ev X.prog X.w (upd H x o) h' x o):Inv X ag σ (upd H x o) {s with heap:=h',toks:=t'}:=I.un (Un.write mu he k a) (I.hok.write mu he k a new)
theorem Inv.pins_of{a:List (cP×Obj)}(I:Inv X ag σ H s)(h:∀p∈a,s.heap.get? p.1=Z p.2/\H p.1=Y/\p.1≠X.env.locals/\p.1∉X.fs /\ ∀v,p.2.data ≠ .cell v):Inv X a σ H s:=
 ⟨I.ok,I.os,I.bare,I.base,I.loc,I.cell,I.free,I.freeC,λp b=>(aF.mp b).elim (λz=>I.pin p (aG _ z)) (h p),I.hok,I.len⟩
theorem ra{N:List Str}(hN:N.Nodup){i j:Nat}{x:Str}(a:N[i]?=Z x)(b:N[j]?=Z x):i=j:=by
 obtain⟨h1,c⟩:=gE1.mp a;obtain⟨h2,d⟩:=gE1.mp b;exact(List.getElem_inj hN).mp (c.trans d.symm)
theorem vK{ao:Model}{A:cR}{E:cN->cO->Prop}{i:Nat}{x:Str}{v:V}{u:cN}{Q:Unit->cO->Prop}(I:Inv X ag σ H s)(hN:X.N.Nodup)(hi:X.N[i]? = Z x)(hx:uh X.env.scope x)(r:dy v u)(h:∀s',Inv X ag (σ.set i (Z v)) H s'->(∃a,Heap.SameBut a s.heap s'.heap/\(a=X.env.locals\/X.env.cells.lookup x=Z a))->Q () s')(hf:X.fn x=M\/X.env.scope.names.lookup x=Z .local:=by first|exact .inl rfl|exact .inr rfl|assumption):cW ao A (storeName X.env x u) Q E s:=by
 obtain⟨m,aq,hl⟩:=id I.loc;have am:(X.env.scope.kind == .class||(X.env.scope.kind == .module&&X.env.locals != X.env.globals))=J:=by rw[I.ok.kind];rfl
 have B:i<σ.length:=by rw[I.len];exact(gE1.mp hi).1
 have cne:=I.cne;have tracked:∀{a:cP} {h':cX},(∃o,s.heap.get? a=Z o/\H a=Y)->Heap.SameBut a s.heap h'->kE X.prog X.w H h':=λ{a h'} ha f b ob e=>by
  obtain⟨_,_,l⟩:=ha;refine(I.hok b ob e).stay (λc au hc q=>(f.2 c ?_).trans q) (λ_ q=>q) λ_ _ q=>q;rintro rfl;rcases hc with rfl|hc
  ·rw[l]at e;cases e
  ·rw[l]at hc;cases hc
 rcases hx with w|w
 ·refine wpAny_storeName_local w aq (λh' U f=>?_) am;obtain⟨oL,_,_,S,_⟩:=id aq;refine h _ ⟨I.ok,I.os,I.bare,⟨λb o e n D hx=>?_,λb o e n D hx=>?_,I.base.free,λb o e hx=>?_,I.base.tups,I.base.frzs,I.base.tbls⟩,⟨_,U,λj y R g t W=>?_⟩,λy c e=>?_,I.free,I.freeC,λp wq=>?_,tracked ⟨oL,S,I.free⟩ f,by simpa using I.len⟩ ⟨_,f,.inl O⟩
  ·exact(f.2 b (nN1 (nL1 (hL1 e) I.ok.above))).trans (I.base.keep b o e n D hx)
  ·obtain⟨T,g⟩:=I.base.slot b o e n D hx;exact⟨T,(f.2 b (nN1 (nL1 (hL1 e) I.ok.above))).trans g⟩
  ·obtain⟨o',g⟩:=I.base.there b o e hx;exact⟨o',(f.2 b (nN1 (nL1 (hL1 e) I.ok.above))).trans g⟩
  ·by_cases C:j=i
   ·subst C;rw[hi]at g;cases g;rw[aH B]at t;cases t;exact⟨u,r,.inl ⟨w,by simp⟩⟩
   ·rw[gS1 (Ne.symm C)]at t;obtain⟨P,r',q⟩:=hl j y R g t W;refine⟨P,r',?_⟩;rcases q with⟨k,e⟩|⟨k,c,e,z⟩
    ·refine .inl ⟨k,?_⟩;have:y≠x:=λe=>C (ra hN g (e ▸ hi));simp[this,e]
    ·exact .inr ⟨k,c,e,z.sameBut f (cne y c e)⟩
  ·obtain⟨au,z⟩:=I.cell y c e;exact⟨au,z.sameBut f (cne y c e)⟩
  ·obtain⟨e,n,ne,nf,d⟩:=I.pin p wq;exact⟨(f.2 p.1 ne).trans e,n,ne,nf,d⟩
 ·have F:X.fn x=true:=by
   rcases hf with z|z
   ·exact z
   ·rw[z]at w;cases w
  obtain⟨c,hc⟩:=I.ok.has x (.inl w);obtain⟨au,z⟩:=I.cell x c hc;refine wpAny_storeName_cell I.ok.kind w hc z (λh' N f=>?_);obtain⟨oc,G,K⟩:=id z;refine h {s with heap:=h'} ⟨I.ok,I.os,I.bare,⟨λb o e n D hx=>?_,λb o e n D hx=>?_,I.base.free,λb o e hx=>?_,I.base.tups,I.base.frzs,I.base.tbls⟩,⟨m,aq.sameBut f (Ne.symm (cne x c hc)),λj y R g t W=>?_⟩,λy c' e=>?_,I.free,I.freeC,λp wq=>?_,tracked ⟨oc,G,I.freeC x c hc⟩ f,by simpa using I.len⟩ ⟨c,f,.inr hc⟩
  ·exact(f.2 b (nN1 (nL1 (hL1 e) (I.ok.cab x c F hc)))).trans (I.base.keep b o e n D hx)
  ·obtain⟨T,g⟩:=I.base.slot b o e n D hx;exact⟨T,(f.2 b (nN1 (nL1 (hL1 e) (I.ok.cab x c F hc)))).trans g⟩
  ·obtain⟨o',g⟩:=I.base.there b o e hx;exact⟨o',(f.2 b (nN1 (nL1 (hL1 e) (I.ok.cab x c F hc)))).trans g⟩
  ·by_cases C:j=i
   ·subst C;rw[hi]at g;cases g;rw[aH B]at t;cases t;exact⟨u,r,.inr ⟨.inl w,c,hc,N⟩⟩
   ·rw[gS1 (Ne.symm C)]at t;obtain⟨P,r',q⟩:=hl j y R g t W;refine⟨P,r',?_⟩;rcases q with q|⟨k,c',e,z'⟩
    ·exact .inl q
    ·refine .inr ⟨k,c',e,z'.sameBut f ?_⟩;rintro rfl;exact C (ra hN g (I.ok.inj _ _ _ e hc ▸ hi))
  ·by_cases L:c'=c
   ·subst L;exact⟨_,N⟩
   ·obtain⟨w2,z2⟩:=I.cell y c' e;exact⟨w2,z2.sameBut f L⟩
  ·obtain⟨e,n,ne,nf,d⟩:=I.pin p wq;refine⟨(f.2 p.1 ?_).trans e,n,ne,nf,d⟩;intro q;rw[q,G]at e;have q':oc=p.2:=Option.some.inj e;exact d au (by rw[<- q'];exact K)
theorem iN{ao:Model}{A:cR}{E:cN->cO->Prop}{i:Nat}{x:Str}{v:V}{u:cN}{Q:Unit->cO->Prop}(I:Inv X ag σ H s)(hN:X.N.Nodup)(hi:X.N[i]? = Z x)(hx:uh X.env.scope x)(r:dy v u)(h:∀s',Inv X ag (σ.set i (Z v)) H s'->Q () s')(hf:X.fn x=M\/X.env.scope.names.lookup x=Z .local:=by first|exact .inl rfl|exact .inr rfl|assumption):cW ao A (storeName X.env x u) Q E s:=
 vK I hN hi hx r (λs' a _=>h s' a) hf
theorem Inv.call'{s':cO}{ch:List cP}(I:Inv X ag σ H s)(ho:s'.os=s.os)(u:Un (frs X.stack) ch H H' s.heap s'.heap)(a:kE X.prog X.w H' s'.heap)(hg:AllBare s'.gens)(d:∀b∈ch,(b∈X.ex\/X.s₀.heap.objs.size<=b)/\b≠X.env.locals/\(∀x c,X.env.cells.lookup x=Z c->c≠b) /\ ∀p∈X.pn++ag,p.1≠b):Inv X ag σ H' s':=by
 obtain⟨h',f,g,h,o'⟩:=s';have e:o'=s.os:=ho;subst e;exact I.call (g':=f) (t':=h) (d':=g) u a hg d
end
abbrev XK:=cN->Option cP->Hp->Prop
abbrev St:=List (Option V)
abbrev VK:=V->Hp->Prop
abbrev TE:=St->Hp->VK->Prop
abbrev TT:=St->Hp->(Bool->Hp->Prop)->Prop
abbrev TA:=St->Hp->(List V->Hp->Prop)->Prop
structure jr where
 nx:St->Hp->Prop
 rt:VK
 bk:St->Hp->Prop:=λ_ _=>False
 ct:St->Hp->Prop:=λ_ _=>False
abbrev TS:=jr->St->Hp->Prop
def EP(X:Cx)(ag:List (cP×Obj))(σ:St)(Q:VK)(u:cN)(s':cO):Prop:=∃v H',Inv X ag σ H' s'/\dy v u/\Q v H'
def TP(X:Cx)(ag:List (cP×Obj))(σ:St)(Q:Bool->Hp->Prop)(b:Bool)(s':cO):Prop:=∃H',Inv X ag σ H' s'/\Q b H'
def AP(X:Cx)(ag:List (cP×Obj))(σ:St)(Q:List V->Hp->Prop)(us:List cN)(s':cO):Prop:=∃vs H',Inv X ag σ H' s'/\dG vs us/\Q vs H'
def SP(X:Cx)(ag:List (cP×Obj))(D:jr)(f:Flow)(s':cO):Prop:=
 match f with
 | .next=>∃ σ' H',Inv X ag σ' H' s'/\D.nx σ' H'
 | .brk=>∃ σ' H',Inv X ag σ' H' s'/\D.bk σ' H'
 | .cont=>∃ σ' H',Inv X ag σ' H' s'/\D.ct σ' H'
 | .ret u=>∃v σ' H',Inv X ag σ' H' s'/\dy v u/\D.rt v H'
def PE(X:Cx)(e:Expr)(t:TE):Prop:=
 ∀(ag:List (cP×Obj)) (s:cO) (σ:St) (H:Hp) (Q:VK),Inv X ag σ H s->t σ H Q->cW (model X.prog X.w) X.A (eval e X.env) (EP X ag σ Q) X.xe s
def PT(X:Cx)(e:Expr)(t:TT):Prop:=
 ∀(ag:List (cP×Obj)) (s:cO) (σ:St) (H:Hp) (Q:Bool->Hp->Prop),Inv X ag σ H s->t σ H Q->cW (model X.prog X.w) X.A (isTrue e X.env (eval e X.env)) (TP X ag σ Q) X.xe s
def PW(X:Cx)(e:Expr)(t:TT):Prop:=
 ∀(whole:Sem cN) (ag:List (cP×Obj)) (s:cO) (σ:St) (H:Hp) (Q:Bool->Hp->Prop),Inv X ag σ H s->t σ H Q->cW (model X.prog X.w) X.A (isTrue e X.env whole) (TP X ag σ Q) X.xe s
theorem PW.pt{X:Cx}{e:Expr}{t:TT}(h:PW X e t):PT X e t:=h _
def PA(X:Cx)(es:List Expr)(t:TA):Prop:=
 ∀(pos:Pos) (ag:List (cP×Obj)) (s:cO) (σ:St) (H:Hp) (Q:List V->Hp->Prop),Inv X ag σ H s->t σ H Q->cW (model X.prog X.w) X.A (spliced (backTo pos (cU es X.env))) (AP X ag σ Q) X.xe s
def PS(X:Cx)(st:cZ)(t:TS):Prop:=
 ∀(ag:List (cP×Obj)) (s:cO) (σ:St) (H:Hp) (D:jr),Inv X ag σ H s->t D σ H->cW (model X.prog X.w) X.A (exec st X.env) (SP X ag D) X.xe s
def sD(X:Cx)(st:List cZ)(t:TS):Prop:=
 ∀(ag:List (cP×Obj)) (s:cO) (σ:St) (H:Hp) (D:jr),Inv X ag σ H s->t D σ H->cW (model X.prog X.w) X.A (execs st X.env) (SP X ag D) X.xe s
theorem eJ{α:Type}{t:Sem α}{Q b:α->cO->Prop}{ao:Model}{A:cR}{E:cN->cO->Prop}{s:cO}(h:cW ao A t Q E s)(c:∀a s,Q a s->b a s):cW ao A t b E s:=wpAny_mono h c λ_ _ x=>x
end L2
namespace L2
open PySem PySem.Spec PyProof.Rows
section
variable{X:Cx}
theorem Jq{a b:Expr}{ta tb:TE}(ha:PE X a ta)(hb:PE X b tb){ag:List (cP×Obj)}{s:cO}{σ:St}{H:Hp}{R:V->V->Hp->Prop}(I:Inv X ag σ H s)(h:ta σ H fun x H1=>tb σ H1 fun y H2=>R x y H2){α:Type}{Q:α->cO->Prop}{f:cN->cN->Sem α}(hf:∀v u e x y H2,Inv X ag σ H2 e->dy x v->dy y u->R x y H2->cW (model X.prog X.w) X.A (f v u) Q X.xe e):
  cW (model X.prog X.w) X.A (eval a X.env) (λv c=>cW (model X.prog X.w) X.A (eval b X.env) (λu d=>cW (model X.prog X.w) X.A (f v u) Q X.xe d) X.xe c) X.xe s:=by
 refine eJ (ha ag s σ H _ I h) λv j ⟨x,H1,l,g,k⟩=>?_;refine eJ (hb ag j σ H1 _ l k) λu e ⟨y,H2,m,r2,i⟩=>?_;exact hf v u e x y H2 m g r2 i
noncomputable def G5(i:Nat):TE:=fun σ H Q=>∃v,σ[i]?=Z (Z v)/\Q v H
noncomputable def tC(v:V):TE:=λ_ H Q=>Q v H
theorem Da {i:Nat}{x:Str}{pos:Pos}(hN:X.N[i]?=Z x)(hv:Vis X.env.scope x)(hd:(x == ("__debug__":Str))=J:=by decide)(hcd:(x == ("__classdict__":Str))=J:=by decide):PE X (.Name x pos) (G5 i):=by
 intro ag s σ H Q I h;obtain⟨v,e,h⟩:=h;obtain⟨m,f,j⟩:=I.loc;obtain⟨u,r,l⟩:=j i x v hN e hv;have b:EP X ag σ Q u s:=⟨v,H,I,r,h⟩;rcases l with⟨d,g⟩|⟨d,c,hc,a⟩
 ·exact wpAny_Name (wpAny_loadName_local I.ok.kind d f g b) hd
 ·rcases d with d|d
  ·exact wpAny_Name (wpAny_loadName_cell I.ok.kind d hc a b) hd
  ·exact wpAny_Name (wpAny_loadName_free I.ok.kind d hc a b hcd) hd
theorem Df{i j pos}:PE X (.Constant (.int i) j pos) (tC (.int i)):=λ_ _ _ H _ I h=>wpAny_Constant_int ⟨.int i,H,I.tok _,⟨_,O⟩,h⟩
theorem Fy{b j pos}:PE X (.Constant (.bool b) j pos) (tC (.bl b)):=λ_ _ _ H _ I h=>Constant_bool ⟨.bl b,H,I,O,h⟩
theorem Dd{j pos}:PE X (.Constant .none j pos) (tC .non):=λ_ _ _ H _ I h=>Constant_none ⟨.non,H,I,O,h⟩
theorem Dc{x j pos}:PE X (.Constant (.str x) j pos) (tC (.str x)):=λ_ _ _ H _ I h=>Calls.Constant_str ⟨.str x,H,I.tok _,⟨_,O⟩,h⟩
def Gl(X:Cx)(x:Str):Prop:=X.env.kindOf x=Z .globalImplicit
theorem uT {E:cN->cO->Prop}{ag:List (cP×Obj)}{s:cO}{σ:St}{H:Hp}{x:Str}{u:cN}{pos:Pos}{Q:cN->cO->Prop}(I:Inv X ag σ H s)(hg:Gl X x)(hm:X.mg x=some u)(h:Q u s)
  (hd:(x == ("__debug__":Str))=J:=by decide):cW (model X.prog X.w) X.A (eval (.Name x pos) X.env) Q E s:=
 Calls.Name_function_global I.ok.kind hg (Calls.loadGlobal_global (by rw[I.ok.glob];exact I.mod.glob.keeps I.bk) hm h) hd
theorem jL {E:cN->cO->Prop}{ag:List (cP×Obj)}{s:cO}{σ:St}{H:Hp}{x:Str}{u:cN}{pos:Pos}{Q:cN->cO->Prop}(I:Inv X ag σ H s)(hg:Gl X x)(hm:X.mg x=none)(hv:bootBuiltins x=some u)(h:Q u s)
  (hn:x≠"__name__":=by decide) (hd:(x == ("__debug__":Str))=J:=by decide):cW (model X.prog X.w) X.A (eval (.Name x pos) X.env) Q E s:=by
 obtain⟨a,h1,h2⟩:=I.mod.blt;exact Calls.Name_function_global I.ok.kind hg (Calls.loadGlobal_builtin (by rw[I.ok.glob];exact I.mod.glob.keeps I.bk) hm (by rw[I.ok.blt];exact h1.keeps I.bk) ((h2 x hn).trans hv) h) hd
theorem AG {x:Str}{v:V}{u:cN}{pos:Pos}(hg:Gl X x)(hm:X.mg x=Z u)(r:dy v u)(hd:(x == ("__debug__":Str))=J:=by decide):PE X (.Name x pos) (tC v):=
 λ_ _ _ H _ I h=>uT I hg hm ⟨v,H,I,r,h⟩ hd
variable{a b:Expr}{ta tb:TE}{pos:Pos}
noncomputable def tB(t:TE):TT:=fun σ H Q=>t σ H λx H1=>∃c,x = .bl c/\Q c H1
variable{tA tB':TT}{rest:List Expr}
noncomputable def Hi(t u:TT):TT:=fun σ H Q=>t σ H λc H1=>if c=M then u σ H1 Q else Q J H1
noncomputable def ID(t u:TT):TT:=fun σ H Q=>t σ H λc H1=>if c=M then Q M H1 else u σ H1 Q
theorem Ap(ha:PT X a tA):PW X (.BoolOp .And [a] pos) tA:=by
 intro d ag s σ H Q I h;refine isTrue_and (eJ (ha ag s σ H Q I h) λc b e=>?_);cases c with
 |true=>exact isTrue_and_nil e
 |false=>exact e
theorem CS(ha:PT X a tA):PW X (.BoolOp .Or [a] pos) tA:=by
 intro d ag s σ H Q I h;refine isTrue_or (eJ (ha ag s σ H Q I h) λc b e=>?_);cases c with
 |false=>exact isTrue_or_nil e
 |true=>exact e
theorem CT(ha:PT X a tA)(hb:PW X (.BoolOp .And (b::rest) pos) tB'):PW X (.BoolOp .And (a::b::rest) pos) (Hi tA tB'):=by
 intro g ag s σ H Q I h;refine isTrue_and (eJ (ha ag s σ H _ I h) λc f ⟨H1,e,d⟩=>?_);cases c with
 |true=>exact hb g ag f σ H1 Q e d
 |false=>exact⟨H1,e,d⟩
theorem Fq(ha:PT X a tA)(hb:PW X (.BoolOp .Or (b::rest) pos) tB'):PW X (.BoolOp .Or (a::b::rest) pos) (ID tA tB'):=by
 intro g ag s σ H Q I h;refine isTrue_or (eJ (ha ag s σ H _ I h) λc f ⟨H1,e,d⟩=>?_);cases c with
 |true=>exact⟨H1,e,d⟩
 |false=>exact hb g ag f σ H1 Q e d
noncomputable def IF(t:TT)(ta tb:TE):TE:=fun σ H Q=>t σ H λc H1=>if c=M then ta σ H1 Q else tb σ H1 Q
theorem x9{c:Expr}(hc:PT X c tA)(ha:PE X a ta)(hb:PE X b tb):PE X (.IfExp c a b pos) (IF tA ta tb):=by
 intro ag s σ H Q I h;refine wpAny_IfExp (eJ (hc ag s σ H _ I h) λd e ⟨H1,g,f⟩=>?_);cases d with
 |true=>exact ha ag e σ H1 Q g f
 |false=>exact hb ag e σ H1 Q g f
end
end L2
namespace L2
open PySem PySem.Spec PyProof.Rows
def lA(K:Fg1)(H:Hp)(a:cP)(xs:List V):Prop:=
 Rd H a (.lst xs) \/
  ∃(o:Obj) (its:Array cN) (n:Nat),K.lookup a=Z o/\o.cls = .type "list"/\o.dict=Y/\o.data = .seq its n/\its.size<=cV/\dG xs its.toList
def iI(K:Fg1)(H:Hp)(a:cP)(xs:List V):Prop:=
 Rd H a (.tup xs) \/
  ∃(o:Obj) (its:Array cN) (n:Nat),K.lookup a=Z o/\o.cls = .type "tuple"/\o.data = .seq its n/\its.size<=cV/\dG xs its.toList
noncomputable def HM:cN->Option V
 | .none=>Z .non
 | .bool b=>Z (.bl b)
 | .int i _=>Z (.int i)
 | .str x _=>Z (.str x)
 | .bytes b _=>Z (.byt b)
 | .float b _=>Z (.flt b)
 | .ref a=>Z (.ref a)
 | .type n=>Z (.ty n)
 |_=>Y
theorem dy.abs{x:V}{u:cN}(r:dy x u):HM u=Z x:=by
 cases x with
 |non=>cases r;rfl
 |bl _=>cases r;rfl
 |int _=>obtain⟨t,rfl⟩:=r;rfl
 |str _=>obtain⟨t,rfl⟩:=r;rfl
 |byt _=>obtain⟨t,rfl⟩:=r;rfl
 |flt _=>obtain⟨t,rfl⟩:=r;rfl
 |ref _=>cases r;rfl
 |ty _=>cases r;rfl
theorem dy.inj{x y:V}{u:cN}(r:dy x u)(q:dy y u):x=y:=Option.some.inj (r.abs.symm.trans q.abs)
theorem dG.inj:∀{xs ys:List V} {a:List cN},dG xs a->dG ys a->xs=ys:=by
 intro xs ys a h g
 induction h generalizing ys with
 |nil=>cases g;rfl
 |cons r t ih=>cases g with
  |cons c b=>rw[r.inj c,ih b]
section
variable{X:Cx}{ag:List (cP×Obj)}{σ:St}{H:Hp}{s:cO}{a:cP}{xs ys:List V}
theorem lA.of{K:Fg1}(h:H a=Z (.lst xs)):lA K H a xs:=.inl (.inl h)
theorem iI.of{K:Fg1}(h:H a=Z (.tup xs)):iI K H a xs:=.inl (.inl h)
theorem Inv.list(I:Inv X ag σ H s)(h:lA X.K H a xs):∃b:List cN,dG xs b/\PlainL s.heap a b.toArray/\xs.length<=cV:=by
 rcases h with h|⟨o,b,n,d,hc,f,c,g,r⟩
 ·obtain⟨z,b,n,r,e⟩:=h.ok I.hok;exact⟨b,r,⟨_,n,e,O,O,O⟩,z⟩
 ·refine⟨b.toList,r,⟨o,n,I.kIn a o d,hc,f,by simpa using c⟩,?_⟩;have e:=r.length;simp only[aI]at e;lia
theorem Inv.tuple(I:Inv X ag σ H s)(h:iI X.K H a xs):∃b:List cN,dG xs b/\IsTup s.heap a b.toArray/\xs.length<=cV:=by
 rcases h with h|⟨o,b,n,d,hc,c,f,r⟩
 ·obtain⟨z,b,r,p⟩:=h.ok I.hok;exact⟨b,r,p,z⟩
 ·refine⟨b.toList,r,⟨o,I.kIn a o d,hc,n,by simpa using c⟩,?_⟩;have e:=r.length;simp only[aI]at e;lia
theorem Inv.list_inj(I:Inv X ag σ H s)(h:lA X.K H a xs)(h':lA X.K H a ys):xs=ys:=by
 obtain⟨b,r,⟨o,n,e,_,_,d⟩,_⟩:=I.list h;obtain⟨its',g,⟨o',j,f,_,_,c⟩,_⟩:=I.list h';rw[e]at f;cases f;rw[d]at c;injection c with i _;have:b=its':=by simpa using congrArg Array.toList i
 subst this;exact r.inj g
theorem Inv.tuple_inj(I:Inv X ag σ H s)(h:iI X.K H a xs)(h':iI X.K H a ys):xs=ys:=by
 obtain⟨b,r,⟨o,e,_,n,d⟩,_⟩:=I.tuple h;obtain⟨its',g,⟨o',f,_,j,c⟩,_⟩:=I.tuple h';rw[e]at f;cases f;rw[d]at c;injection c with i _;have:b=its':=by simpa using congrArg Array.toList i
 subst this;exact r.inj g
end
abbrev Cx.wish(X:Cx)(E:cN->cO->Prop):Cx:={X with xe:=E}
abbrev Cx.nox(X:Cx):Cx:=X.wish λ_ _=>False
theorem Cx.Ok.wish{X:Cx}(ok:X.Ok)(E:cN->cO->Prop):(X.wish E).Ok:=
 ⟨ok.mod,ok.kind,ok.glob,ok.blt,ok.above,ok.inj,ok.has,ok.cab,ok.hd,ok.frames,ok.stk,ok.exf,ok.bs,ok.bsz,ok.noex,ok.exfs,ok.funs,ok.frf⟩
theorem Cx.Ok.unwish{X:Cx}{E:cN->cO->Prop}(ok:(X.wish E).Ok):X.Ok:=
 ⟨ok.mod,ok.kind,ok.glob,ok.blt,ok.above,ok.inj,ok.has,ok.cab,ok.hd,ok.frames,ok.stk,ok.exf,ok.bs,ok.bsz,ok.noex,ok.exfs,ok.funs,ok.frf⟩
section
variable{X:Cx}{ag:List (cP×Obj)}{σ:St}{H:Hp}{s:cO}{E:cN->cO->Prop}
theorem Inv.wish(I:Inv X ag σ H s)(E:cN->cO->Prop):Inv (X.wish E) ag σ H s:=⟨I.ok.wish E,I.os,I.bare,I.base,I.loc,I.cell,I.free,I.freeC,I.pin,I.hok,I.len⟩
theorem Inv.unwish(I:Inv (X.wish E) ag σ H s):Inv X ag σ H s:=⟨I.ok.unwish,I.os,I.bare,I.base,I.loc,I.cell,I.free,I.freeC,I.pin,I.hok,I.len⟩
theorem SP.unwish{D:jr}{f:Flow}{s':cO}(h:SP (X.wish E) ag D f s'):SP X ag D f s':=by
 cases f with
 |next=>obtain⟨a,H',I,q⟩:=h;exact⟨a,H',I.unwish,q⟩
 |brk=>obtain⟨a,H',I,q⟩:=h;exact⟨a,H',I.unwish,q⟩
 |cont=>obtain⟨a,H',I,q⟩:=h;exact⟨a,H',I.unwish,q⟩
 |ret u=>obtain⟨v,a,H',I,r,q⟩:=h;exact⟨v,a,H',I.unwish,r,q⟩
theorem sD.nox{st:List cZ}{t:TS}(h:sD X.nox st t):sD X st t:=λag s σ H D I a=>
 wpAny_mono (h ag s σ H D (I.wish _) a) (λ_ _ q=>q.unwish) λ_ _ z=>False.elim z
end
section
variable{X:Cx}{st:cZ}{rest:List cZ}{t u:TS}{e:Expr}{te:TE}{pos:Pos}
noncomputable def E7:TS:=λD σ H=>D.nx σ H
noncomputable def G7(t u:TS):TS:=λD σ H=>t {D with nx:=u D} σ H
theorem Av:sD X [] E7:=λ_ _ σ H _ I h=>wpAny_execs_nil ⟨σ,H,I,h⟩
theorem xQ(h1:PS X st t)(h2:sD X rest u):sD X (st::rest) (G7 t u):=by
 intro ag s σ H D I h;refine wpAny_execs_cons (eJ (h1 ag s σ H {D with nx:=u D} I h) λf b q=>?_);cases f with
 |next=>
  obtain⟨a,H',c,q⟩:=q;exact h2 ag b a H' D c q
 |ret v=>exact q
 |brk=>exact q
 |cont=>exact q
theorem Au(h1:PS X st t):sD X [st] t:=by
 intro ag s σ H D I h;refine wpAny_execs_cons (eJ (h1 ag s σ H D I h) λf a q=>?_);cases f with
 |next=>exact wpAny_execs_nil q
 |ret v=>exact q
 |brk=>exact q
 |cont=>exact q
theorem Inv.quiet{ag:List (cP×Obj)}{σ:St}{H:Hp}{s:cO}(I:Inv X ag σ H s):interactive X.env=J:=by simp[interactive,I.ok.kind]
noncomputable def Fa(te:TE):TS:=λD σ H=>te σ H λ_ H1=>D.nx σ H1
theorem Aw(he:PE X e te)(hs:swapsWith e Y pos.line X.env=pure J:=by rfl):PS X (.Expr e pos) (Fa te):=by
 intro ag s σ H D I h;exact wpAny_Expr_any (eJ (he ag s σ H _ I h) λv c ⟨x,H1,b,d,a⟩=>⟨σ,H1,b,a⟩) I.quiet hs
noncomputable def G8(te:TE):TS:=λD σ H=>te σ H D.rt
theorem C0(he:PE X e te):PS X (.Return (Z e) pos) (G8 te):=by
 intro ag s σ H D I h;exact wpAny_Return_some (eJ (he ag s σ H _ I h) λv d ⟨x,H1,c,b,a⟩=>⟨x,σ,H1,c,b,a⟩)
noncomputable def Hf(c:TT)(t u:TS):TS:=λD σ H=>c σ H λb H1=>if b=M then t D σ H1 else u D σ H1
theorem Fs{c:Expr}{a b:List cZ}{tc:TT}(hc:PT X c tc)(ha:sD X a t)(hb:sD X b u):PS X (.If c a b pos) (Hf tc t u):=by
 intro ag s σ H D I h;refine wpAny_If (eJ (hc ag s σ H _ I h) λd e ⟨H1,g,f⟩=>?_);cases d with
 |true=>exact ha ag e σ H1 D g f
 |false=>exact hb ag e σ H1 D g f
end
abbrev TG:=V->St->Hp->(St->Hp->Prop)->Prop
abbrev Cj:=List V->St->Hp->(St->Hp->Prop)->Prop
def PG(X:Cx)(target:Expr)(t:TG):Prop:=
 ∀(ag:List (cP×Obj)) (s:cO) (σ:St) (H:Hp) (v:V) (u:cN) (Q:St->Hp->Prop),Inv X ag σ H s->dy v u->t v σ H Q ->
  cW (model X.prog X.w) X.A (assign target X.env u) (λ_ s'=>∃ σ' H',Inv X ag σ' H' s'/\Q σ' H') X.xe s
def EE(X:Cx)(ts:List Expr)(t:Cj):Prop:=
 ∀(ag:List (cP×Obj)) (s:cO) (σ:St) (H:Hp) (vs:List V) (us:List cN) (Q:St->Hp->Prop),Inv X ag σ H s->dG vs us->t vs σ H Q ->
  cW (model X.prog X.w) X.A (assignInOrder ((assignEach ts X.env).map (·.2)) us) (λ_ s'=>∃ σ' H',Inv X ag σ' H' s'/\Q σ' H') X.xe s
abbrev EC:=V->V->V->Hp->(Hp->Prop)->Prop
def ug(X:Cx)(t:EC):Prop:=
 ∀(ag:List (cP×Obj)) (s:cO) (σ:St) (H:Hp) (o i v:V) (ov iv u:cN) (Q:Hp->Prop),Inv X ag σ H s->dy o ov->dy i iv->dy v u->t o i v H Q ->
  cW (model X.prog X.w) X.A (setItem ov iv u) (λ_ s'=>∃H',Inv X ag σ H' s'/\Q H') X.xe s
abbrev HR:=V->V->Hp->VK->Prop
def GY(X:Cx)(op:Operator)(t:HR):Prop:=
 ∀(ag:List (cP×Obj)) (s:cO) (σ:St) (H:Hp) (x y:V) (v u:cN) (Q:VK),Inv X ag σ H s->dy x v->dy y u->t x y H Q ->
  cW (model X.prog X.w) X.A (inplaceOp op v u) (EP X ag σ Q) X.xe s
section
variable{X:Cx}{pos:Pos}
noncomputable def u9(i:Nat):TG:=λv σ H Q=>Q (σ.set i (Z v)) H
theorem uI{i:Nat}{x:Str}(hN:X.N.Nodup)(hi:X.N[i]?=Z x)(hx:uh X.env.scope x)(hf:X.fn x=M\/X.env.scope.names.lookup x=Z .local:=by first|exact .inl rfl|exact .inr rfl|assumption):PG X (.Name x pos) (u9 i):=by
 intro ag s σ H v u Q I r h;exact wpAny_assign_Name (iN I hN hi hx r (λs' a=>⟨_,H,a,h⟩) hf)
noncomputable def HE:Cj:=λvs σ H Q=>vs=[]/\Q σ H
noncomputable def Gf(t:TG)(u:Cj):Cj:=λvs σ H Q=>∃v r,vs=v::r/\t v σ H fun σ' H'=>u r σ' H' Q
theorem AF:EE X [] HE:=by
 intro ag s σ H vs a Q I r h;obtain⟨e,h⟩:=h;subst e;cases r;exact assignInOrder_nil ⟨σ,H,I,h⟩
theorem xY{e:Expr}{es:List Expr}{t:TG}{u:Cj}(h1:PG X e t)(h2:EE X es u)(hs:(assignEach (e::es) X.env).map (·.2)=assign e X.env::(assignEach es X.env).map (·.2):=by rfl):EE X (e::es) (Gf t u):=by
 intro ag s σ H vs j Q I r h;obtain⟨v,i,c,h⟩:=h;subst c;cases r with
 |cons r g=>
  rw[hs];refine assignInOrder_cons (eJ (h1 ag s σ H _ _ _ I r h) λ_ b ⟨a,H1,f,d⟩=>?_);exact h2 ag b a H1 _ _ Q f g d
noncomputable def gTup(K:Fg1)(n:Nat)(t:Cj):TG:=λv σ H Q=>∃a xs,v = .ref a/\iI K H a xs/\xs.length=n/\t xs σ H Q
theorem C8{es:List Expr}{k:Nat}{t:Cj}{n:Nat}(hc:X.calm=M)(h:EE X es t)(hn:(assignEach es X.env).length=n:=by rfl)(hst:(assignEach es X.env).findIdx? (·.1)=Y:=by rfl):PG X (.Tuple es k pos) (gTup X.K n t):=by
 intro ag s σ H v u Q I r c;obtain⟨a,xs,g,m,i,c⟩:=c;subst g;cases r;obtain⟨f,d,p,q⟩:=I.tuple m;refine assign_Tuple_tuple (I.ok.hd hc) p (by simp[hn,<- i,d.length]) hst λh' j=>?_;have l:Inv X ag σ H {s with heap:=h'}:=I.kept (t':=s.toks) λb o e=>j b o (nN1 (hL1 e)) e;exact h ag _ σ H xs _ Q l (by simpa using d) c
noncomputable def gSub(to ti:TE)(t:EC):TG:=λv σ H Q=>to σ H λo H1=>ti σ H1 λi H2=>t o i v H2 λH3=>Q σ H3
theorem C9{o i:Expr}{to c:TE}{t:EC}(ho:PE X o to)(hi:PE X i c)(hs:ug X t)(ha:∀v,assign (.Subscript o i pos) X.env v=(do
   let a<-holding [v] (eval o X.env)
   let b<-holding [v,a] (eval i X.env)
   standAt pos
   holding [v,a,b] (setItem a b v)
   release [v,a,b] []):=by intro _;rfl):PG X (.Subscript o i pos) (gSub to c t):=by
 intro ag s σ H v u Q I r h;rw[ha];refine wB1 (wpAny_holding (eJ (ho ag s σ H _ I h) λa g ⟨x,H1,m,e,j⟩=>?_));refine wB1 (wpAny_holding (eJ (hi ag g σ H1 _ m j) λb d ⟨y,H2,p,r2,f⟩=>?_));refine wB1 (wpAny_standAt (wB1 (wpAny_holding (eJ (hs ag d σ H2 x y v a b u _ p e r2 r f) λ_ q ⟨l,n,k⟩=>?_))));exact wpAny_release ⟨σ,l,n,k⟩
noncomputable def xt(te:TE)(g:TG):TS:=λD σ H=>te σ H λx H1=>g x σ H1 D.nx
theorem C4{tg e:Expr}{te:TE}{g:TG}(he:PE X e te)(hg:PG X tg g)(hs:swapsWithSole [tg] e pos.line X.env=pure J:=by rfl)(hw:swappedStores [tg] e X.env=pure Y:=by rfl)(h1:(assignEach [tg] X.env).map (·.2)=[assign tg X.env]:=by rfl):PS X (.Assign [tg] e pos) (xt te g):=by
 intro ag s σ H D I h;refine wpAny_Assign_stores (eJ (he ag s σ H _ I h) λv b ⟨x,H1,d,a,c⟩=>?_) hs hw;rw[h1];exact eJ (hg ag b σ H1 x v _ d a c) λ_ f q=>q
theorem CZ{i:Nat}{x:Str}{e:Expr}{te:TE}{pos':Pos}(hN:X.N.Nodup)(hi:X.N[i]? = some x)(hx:uh X.env.scope x)(he:PE X e te)(hs:swapsWith e (some (.Name x pos')) pos.line X.env=pure false:=by rfl)(hf:X.fn x=true\/X.env.scope.names.lookup x=some .local:=by first | exact .inl rfl | exact .inr rfl | assumption):
  PS X (.Assign [.Name x pos'] e pos) (xt te (u9 i)):=by
 intro ag s σ H D I h;refine wpAny_Assign_Name (eJ (he ag s σ H _ I h) λv g ⟨y,H1,c,a,b⟩=>?_) hs;exact iN c hN hi hx a (λf d=>⟨_,H1,d,b⟩) hf
noncomputable def G9(i j:Nat)(ta:TA):TS:=λD σ H=>ta σ H λvs H1=>∃v w,vs=[v,w]/\D.nx ((σ.set i (Z v)).set j (Z w)) H1
theorem C1{i j:Nat}{x y:Str}{a b:Expr}{ta:TA}{m f pt:Pos}{kt k2 pt2}(hc:X.calm=true)(hN:X.N.Nodup)(hi:X.N[i]? = some x)(z:X.N[j]? = some y)(l:i≠j)(hx:X.env.scope.names.lookup x=some .local)(hy:X.env.scope.names.lookup y=some .local)(ha:PA X [a,b] ta)(hw:swappedStores [.Tuple [.Name x m,.Name y f] kt pt] (.Tuple [a,b] k2 pt2) X.env=pure (some [x,y]))(hs:swapsWithSole [.Tuple [.Name x m,.Name y f] kt pt] (.Tuple [a,b] k2 pt2) pos.line X.env=pure false:=by rfl):
  PS X (.Assign [.Tuple [.Name x m,.Name y f] kt pt] (.Tuple [a,b] k2 pt2) pos) (G9 i j ta):=by
 intro ag s σ H D I h;rw[exec_Assign_arm];refine wB1 (wpAny_standAt ?_);rw[hs];refine wB1 (wP1 ?_);rw[aj (by decide)];refine wB1 (Tuple_ (eJ (ha _ ag s σ H _ I h) λC c ⟨vs,H1,G,B,g⟩=>?_));obtain⟨v,w,E,g⟩:=g;subst E;obtain⟨d,u2,rfl,K,n⟩:∃d u2,C=[d,u2]/\dy v d/\dy w u2:=by
  cases B with
  |cons p q=>
   cases q with
   |cons u F=>
    cases F;exact⟨_,_,O,p,u⟩
 refine wO1 ?_ (by show 2<=cV;decide);have A:Inv X ag σ H1 {c with heap:=c.heap.push {cls:=.type "tuple",data:=.seq [d,u2].toArray}}:=G.kept (t':=c.toks) λb o e=>hP1 _ e;rw[hw];refine wB1 (wP1 ?_);show cW (model X.prog X.w) X.A (do rule "assign.swapped-stores";let items<-unpackItems (.ref c.heap.objs.size) 2 Y;assignInOrder [λv=>bindName X.env y v,λv=>bindName X.env x v] items.reverse;pure Flow.next) _ _ _;refine wB1 (wpAny_rule (wB1 (unpackItems_tuple (items:= #[d,u2]) (I.ok.hd hc) (IsTup.new c.heap _) λh' k=>?_)));have am:=A.kept (h':=h') (t':=c.toks) λb o e=>k b o (nN1 (hL1 e)) e;show cW _ _ (assignInOrder [λv=>bindName X.env y v,λv=>bindName X.env x v] [u2,d] >>= λ_=>pure Flow.next) _ _ _;refine wB1 (assignInOrder_cons (wpAny_bindName (iN am hN z (.inl hy) n (λL t=>?_) (.inr hy))));refine assignInOrder_cons (wpAny_bindName (iN t hN hi (.inl hx) K (λao r=>assignInOrder_nil (wP1 ?_)) (.inr hx)));rw[List.set_comm _ _ (Ne.symm l)]at r;exact⟨_,H1,r,g⟩
noncomputable def Hh(i:Nat)(te:TE)(ti:HR):TS:=λD σ H=>∃x,σ[i]?=Z (Z x)/\te σ H λy H1=>ti x y H1 λz H2=>D.nx (σ.set i (Z z)) H2
theorem C3{i:Nat}{x:Str}{e:Expr}{te:TE}{op:Operator}{j:HR}{pos':Pos}(hN:X.N.Nodup)(hi:X.N[i]? = some x)(hx:uh X.env.scope x)(he:PE X e te)(ho:GY X op j)(hf:X.fn x=true\/X.env.scope.names.lookup x=some .local:=by first | exact .inl rfl | exact .inr rfl | assumption):
  PS X (.AugAssign (.Name x pos') op e pos) (Hh i te j):=by
 intro ag s σ H D I h;obtain⟨v,t,h⟩:=h;obtain⟨m,G,B⟩:=I.loc;have g:Vis X.env.scope x:=by rcases hx with k|k;exact .inl k;exact .inr (.inl k)
 obtain⟨u,r,l⟩:=B i x v hi t g;refine wpAny_AugAssign_Name ?_;have n:cW (model X.prog X.w) X.A (eval e X.env) (λw f=>cW (model X.prog X.w) X.A (inplaceOp op u w) (λr d=>cW (model X.prog X.w) X.A (storeName X.env x r) (λ_=>SP X ag D .next) X.xe d) X.xe f) X.xe s:=by
  refine eJ (he ag s σ H _ I h) λw am ⟨y,H1,C,q,o⟩=>?_;refine eJ (ho ag am σ H1 v y u w _ C r q o) λz K ⟨ao,H2,p,r2,F⟩=>?_;exact iN p hN hi hx r2 (λL E=>⟨_,H2,E,F⟩) hf
 rcases l with⟨a,A⟩|⟨a,c,hc,b⟩
 ·exact wpAny_loadName_local I.ok.kind a G A n
 ·rcases a with a|a
  ·exact wpAny_loadName_cell I.ok.kind a hc b n
  ·rcases hx with k|k
   ·have:X.env.scope.names.lookup x=Z .free:=a;rw[k]at this;cases this
   ·have:X.env.scope.names.lookup x=Z .free:=a;rw[k]at this;cases this
noncomputable def xp(c:TT)(tb:TS):TS:=λD σ H=>∃W:Nat->St->Hp->Prop,(∃m,W m σ H) /\ ∀m σ H,W m σ H ->
 c σ H λb H1=>if b=M then∃N:St->Hp->Prop,(∀ σ' H',N σ' H' -> ∃m',m'<m/\W m' σ' H')/\tb {D with nx:=N,ct:=N,bk:=D.nx} σ H1 else D.nx σ H1
theorem xR{c:Expr}{e:List cZ}{tc:TT}{tb:TS}(hp:PassesOwn (model X.prog X.w) X.A X.env X.xe)(hc:PT X c tc)(hb:sD X e tb):PS X (.While c e [] pos) (xp tc tb):=by
 intro ag s σ H D I h;obtain⟨W,⟨x,B⟩,i⟩:=h;refine wpAny_While (codeAny_whileLoop (λn s'=>∃g H',Inv X ag g H' s'/\W n g H') ?_ x ⟨σ,H,I,B⟩);rintro n A ⟨d,H1,y,z⟩;refine wpAny_passesOwn hp (eJ (hc ag A d H1 _ y (i n d H1 z)) λb w ⟨H2,t,l⟩=>?_);cases b with
 |true=>
  obtain⟨N,u,l⟩:=l;rw[ak O];refine wpAny_passesOwn hp (eJ (hb ag w d H2 _ t l) λf C k=>?_);cases f with
  |next=>
   obtain⟨a,j,p,r⟩:=k;obtain⟨q,o,m⟩:=u a j r;exact⟨q,o,a,j,p,m⟩
  |cont=>
   obtain⟨a,j,p,r⟩:=k;obtain⟨q,o,m⟩:=u a j r;exact⟨q,o,a,j,p,m⟩
  |brk=>exact k
  |ret v=>exact k
 |false=>
  rw[aj aJ];exact wpAny_execs_nil ⟨d,H2,t,l⟩
end
structure It where
 go:Nat->Hp->Prop
 yld:Nat->Hp->V->Hp->Prop
 stop:Nat->Hp->Prop
def jo(X:Cx)(ag:List (cP×Obj))(H:Hp)(b:cP):Prop:=
 H b=Y/\b≠X.env.locals/\b∉X.fs/\(b∈X.ex\/X.s₀.heap.objs.size<=b)/\(∀x c,X.env.cells.lookup x=Z c->c≠b) /\ ∀p∈X.pn++ag,p.1≠b
theorem Inv.fpOk{X:Cx}{ag:List (cP×Obj)}{σ:St}{H H':Hp}{s:cO}{b:cP}(I:Inv X ag σ H s)(hb:s.heap.objs.size<=b)(hn:H' b=Y):jo X ag H' b:=by
 refine⟨hn,nG1 (nL1 I.lt hb),I.nofs hb,.inr (aC I.sz hb),λx c e z=>?_,λp a z=>?_⟩
 ·obtain⟨v,q⟩:=I.cell x c e;exact absurd (nL1 q.lt (by rw[z];exact hb)) (az _)
 ·exact absurd (nL1 (hL1 (I.pin p a).1) (by rw[z];exact hb)) (az _)
structure ud (P:cQ)(w:cS)(K:Fg1)(tg:Expr)(am:It)(fp:List cP)(it:cP)(tn:Nat->cX->Prop):Prop where
 mem:it∈fp
 obj:∀i h,tn i h -> ∀b∈fp,∃o,h.get? b=some o /\ ∀v,o.data ≠ .cell v
 keep:∀i h h',tn i h->(∀b∈fp,∀o,h.get? b=some o->h'.get? b=some o)->tn i h'
 item:∀(X:Cx),X.prog=P->X.w=w->X.K=K->X.calm=true -> ∀(i:Nat) (ag:List (cP×Obj)) (s:cO) (σ:St) (H:Hp) (E:cN->cO->Prop),Inv X ag σ H s->(∀b∈fp,jo X ag H b)->tn i s.heap->am.go i H ->
  cW (model P w) X.A (pyNext (.ref it)) (λr s1=>∃u,r=some u /\
   cW (model P w) X.A (letOwnedTupleGo tg (.ref it) u) (λ_ s2=>∃x H',Inv X ag σ H' s2/\dy x u/\am.yld i H x H'/\tn (i+1) s2.heap /\ ∀b∈fp,H' b=none) E s1) E s
 done:∀(X:Cx),X.prog=P->X.w=w->X.K=K->X.calm=true -> ∀(i:Nat) (ag:List (cP×Obj)) (s:cO) (σ:St) (H:Hp) (E:cN->cO->Prop),Inv X ag σ H s->(∀b∈fp,jo X ag H b)->tn i s.heap->am.stop i H ->
  cW (model P w) X.A (pyNext (.ref it)) (λr s1=>r=none/\Inv X ag σ H s1) E s
 self:∀(A:cR) (i:Nat) (s:cO) (Q:cN->cO->Prop) (E:cN->cO->Prop),tn i s.heap->Q (.ref it) s->cW (model P w) A (pyIter (.ref it)) Q E s
abbrev TI:=St->Hp->(It->Hp->Prop)->Prop
def Iu(X:Cx)(ag:List (cP×Obj))(σ:St)(tg:Expr)(R:It->Hp->Prop)(itv:cN)(s2:cO):Prop:=
 ∃(it:cP) (fp:List cP) (tn:Nat->cX->Prop) (am:It) (H':Hp),itv = .ref it/\Inv X ag σ H' s2/\ud X.prog X.w X.K tg am fp it tn/\tn 0 s2.heap/\(∀b∈fp,jo X ag H' b)/\R am H'
def PI(X:Cx)(tg iter:Expr)(wi:TI):Prop:=
 ∀(ag:List (cP×Obj)) (s:cO) (σ:St) (H:Hp) (R:It->Hp->Prop),Inv X ag σ H s->wi σ H R ->
  cW (model X.prog X.w) X.A (eval iter X.env) (λv s1=>cW (model X.prog X.w) X.A (pyIter v) (Iu X ag σ tg R) X.xe s1) X.xe s
theorem y1 {ao:Model}{A:cR}{E:cN->cO->Prop}{s:cO}{tg:Expr}{it:cP}{u:cN}{o:Obj}{n:String}{vs:Array cN}{Q:Unit->cO->Prop}(ho:s.heap.get? it=some o)(hc:o.cls = .type n)(hd:o.data = .fields vs)
   (hn:["enumerate","zip","dict_itemiterator","dict_reverseitemiterator","odict_iterator","itertools.zip_longest","itertools.pairwise"].contains n=J) (a:Q () s):cW ao A (letOwnedTupleGo tg (.ref it) u) Q E s:=by
 unfold letOwnedTupleGo;cases tg <;> first
   |exact wP1 a
   | (cases u<;>first
       |exact wP1 a
       | (refine wB1 (wpAny_load ho ?_)
          rw[hc,hd];show cW ao A (if(["enumerate","zip","dict_itemiterator","dict_reverseitemiterator","odict_iterator","itertools.zip_longest","itertools.pairwise"].contains n&&vs[0]? == Z (rawInt _))=M then _ else _) Q E s;rw[aj (by intro h;rw[hn,Bool.false_and]at h;cases h)];exact wP1 a))
noncomputable def Iy(K:Fg1)(a:cP):It:=
 ⟨λi H=>∃xs x,lA K H a xs/\xs[i]?=Z x,λi H x H'=>H'=H /\ ∀xs,lA K H a xs->xs[i]?=Z x,λi H=>∃xs,lA K H a xs/\xs.length<=i⟩
noncomputable def Ix(K:Fg1)(a:cP):It:=
 ⟨λi H=>∃xs x,iI K H a xs/\xs[i]?=Z x,λi H x H'=>H'=H /\ ∀xs,iI K H a xs->xs[i]?=Z x,λi H=>∃xs,iI K H a xs/\xs.length<=i⟩
noncomputable def GG(lo:Int)(n:Nat):It:=⟨λi _=>i<n,λi H x H'=>H'=H/\x = .int (lo+i),λi _=>n<=i⟩
theorem vI{P:cQ}{w:cS}{K:Fg1}{tg:Expr}(a it:cP):ud P w K tg (Iy K a) [it] it (λi h=>h.IsListIter it a i) where
 mem:=by simp
 obj:=λi h st b f=>by
  have e:b=it:=by simpa using f
  subst e;obtain⟨o,e,c,d⟩:=st;exact⟨o,e,λv z=>by rw[d]at z;cases z⟩
 keep:=λi h h' st k=>st.at λo e=>k it (by simp) o e
 item:=by
  intro X m y r hc i ag s σ H E I g st A;subst m y r;obtain⟨xs,x,j,B⟩:=A;obtain⟨C,F,p,au⟩:=I.list j;obtain⟨u,am,R⟩:=F.get B;obtain⟨q,l,L,n,D,t⟩:=g it (by simp);refine wpAny_pyNext_list_item st p.isList (x:=u) (by simpa using am) λh' st' N=>?_;have ao:Inv X ag σ H {s with heap:=h'}:=I.turned (t':=s.toks) (λb o f e=>(N.2 b f).trans e) q l n D t;obtain⟨o,e,c,d⟩:=id st';exact⟨u,O,y1 (s:={s with heap:=h'}) e c d (by decide) ⟨x,H,ao,R,⟨O,λys G=>by rw[I.list_inj G j];exact B⟩,st',λb f=>(g b f).1⟩⟩
 done:=by
  intro X m y r hc i ag s σ H E I g st A;subst m y r;obtain⟨xs,j,B⟩:=A;obtain⟨C,F,p,au⟩:=I.list j;obtain⟨q,l,L,n,D,t⟩:=g it (by simp);have S:=F.length;exact wpAny_pyNext_list_end (I.ok.hd hc) st p.isList (by simp;lia) λh' Q=>⟨O,I.turned (t':=s.toks) (λb o f e=>Q b o f e) q l n D t⟩
 self:=λ_ _ _ _ _ st h=>wpAny_pyIter_listiter st h
theorem sN{P:cQ}{w:cS}{K:Fg1}{tg:Expr}(a it:cP):ud P w K tg (Ix K a) [it] it (λi h=>h.IsTupleIter it a i) where
 mem:=by simp
 obj:=λi h st b f=>by
  have e:b=it:=by simpa using f
  subst e;obtain⟨o,e,c,d⟩:=st;exact⟨o,e,λv z=>by rw[d]at z;cases z⟩
 keep:=λi h h' st k=>st.at λo e=>k it (by simp) o e
 item:=by
  intro X n A t hc i ag s σ H E I j st B;subst n A t;obtain⟨xs,x,l,C⟩:=B;obtain⟨g,F,p,au⟩:=I.tuple l;obtain⟨u,am,R⟩:=F.get C;obtain⟨r,m,L,q,D,y⟩:=j it (by simp);refine wpAny_pyNext_tuple_item st (show s.heap.IsTuple a g.toArray from p) (x:=u) (by simpa using am) λh' st' N=>?_;have ao:Inv X ag σ H {s with heap:=h'}:=I.turned (t':=s.toks) (λb o f e=>(N.2 b f).trans e) r m q D y;obtain⟨o,e,c,d⟩:=id st';exact⟨u,O,y1 (s:={s with heap:=h'}) e c d (by decide) ⟨x,H,ao,R,⟨O,λys G=>by rw[I.tuple_inj G l];exact C⟩,st',λb f=>(j b f).1⟩⟩
 done:=by
  intro X n A t hc i ag s σ H E I j st B;subst n A t;obtain⟨xs,l,C⟩:=B;obtain⟨g,F,p,au⟩:=I.tuple l;obtain⟨r,m,L,q,D,y⟩:=j it (by simp);have S:=F.length;exact wpAny_pyNext_tuple_end (I.ok.hd hc) st (show s.heap.IsTuple a g.toArray from p) (by simp;lia) λh' Q=>⟨O,I.turned (t':=s.toks) (λb o f e=>Q b o f e) r m q D y⟩
 self:=λ_ _ _ _ _ st h=>wpAny_pyIter_tupleiter st h
theorem sO{P:cQ}{w:cS}{K:Fg1}{tg:Expr}(it:cP)(lo:Int)(n:Nat):ud P w K tg (GG lo n) [it] it (λi h=>IsRangeIter h it (lo+(i:Nat)*1) ((n:Int)-(i:Nat)) 1) where
 mem:=by simp
 obj:=λi h st b a=>by
  have e:b=it:=by simpa using a
  subst e;exact⟨_,st,λv z=>by
   have B:Data.fields _=Data.cell v:=z;cases B⟩
 keep:=λi h h' st k=>k it (by simp) _ st
 item:=by
  intro X d p j hc i ag s σ H E I c st q;subst d p j;obtain⟨m,r,u,f,l,g⟩:=c it (by simp);have W:=Walks.range (prog:=X.prog) (w:=X.w) (I.ok.hd hc) it lo 1 n;refine W.item i s _ _ q st λv h' tk C st' A=>?_;obtain⟨t,rfl⟩:=C;have x:Inv X ag σ H {s with heap:=h',toks:=tk}:=I.turned (λb o a e=>A b o (by simpa using a) e) m r f l g;refine⟨_,O,y1 (s:={s with heap:=h',toks:=tk}) (n:="range_iterator") st' O O (by decide) ⟨.int (lo+i),H,x,⟨t,?_⟩,⟨O,O⟩,st',λb a=>(c b a).1⟩⟩;rw[Int.mul_one]
 done:=by
  intro X d p j hc i ag s σ H E I c st q;subst d p j;obtain⟨m,r,u,f,l,g⟩:=c it (by simp);exact wpAny_pyNext_range_end (I.ok.hd hc) st (by have:n<=i:=q;lia) λh' y=>⟨O,I.turned (t':=s.toks) (λb o a e=>y b o a e) m r f l g⟩
 self:=λ_ _ _ _ _ st h=>wpAny_pyIter_rangeiter st h
end L2
namespace L2
open PySem PySem.Spec PyProof.Rows
section
variable{X:Cx}{tg:Expr}
noncomputable def Gc(K:Fg1)(tl:TE):TI:=fun σ H R=>tl σ H λx H1=>∃a,x = .ref a/\(∃xs,lA K H1 a xs)/\R (Iy K a) H1
noncomputable def HD(K:Fg1)(tl:TE):TI:=fun σ H R=>tl σ H λx H1=>∃a,x = .ref a/\(∃xs,iI K H1 a xs)/\R (Ix K a) H1
theorem AD{l:Expr}{tl:TE}(j:PE X l tl):PI X tg l (Gc X.K tl):=by
 intro ag s σ H R I h;refine eJ (j ag s σ H _ I h) λv c ⟨x,H1,d,i,k⟩=>?_;obtain⟨a,e,⟨xs,m⟩,q⟩:=k;subst e;cases i;obtain⟨f,n,p,r⟩:=d.list m;refine wpAny_pyIter_list p.isList ?_;refine⟨c.heap.objs.size,[c.heap.objs.size],_,_,H1,O,d.kept (t':=c.toks) λb o e=>hP1 _ e,vI a _,⟨_,hS1 _ O,O,O⟩,λb g=>?_,q⟩;have e:b=c.heap.objs.size:=by simpa using g
 subst e;exact d.fpOk (nR1 _) (d.hok.fresh (nR1 _))
theorem C7{l:Expr}{tl:TE}(j:PE X l tl):PI X tg l (HD X.K tl):=by
 intro ag s σ H R I h;refine eJ (j ag s σ H _ I h) λv c ⟨x,H1,d,i,k⟩=>?_;obtain⟨a,e,⟨xs,m⟩,q⟩:=k;subst e;cases i;obtain⟨f,n,p,r⟩:=d.tuple m;refine wpAny_pyIter_tuple (show c.heap.IsTuple a f.toArray from p) ?_;refine⟨c.heap.objs.size,[c.heap.objs.size],_,_,H1,O,d.kept (t':=c.toks) λb o e=>hP1 _ e,sN a _,⟨_,hS1 _ O,O,O⟩,λb g=>?_,q⟩;have e:b=c.heap.objs.size:=by simpa using g
 subst e;exact d.fpOk (nR1 _) (d.hok.fresh (nR1 _))
theorem qx{ag:List (cP×Obj)}{σ:St}{H:Hp}{s:cO}{R:It->Hp->Prop}{E:cN->cO->Prop}{lo hi:Int}{t u v:Tok}{tk:Nat}(I:Inv X ag σ H s)(h1: -(2^62)<=lo)(h2:lo<2^62)(g: -(2^62)<=hi)(d:hi<2^62)(q:R (GG lo (hi-lo).toNat) H):cW (model X.prog X.w) X.A (pyIter (.ref s.heap.objs.size)) (Iu X ag σ tg R) E {s with heap:=s.heap.push {cls:=.type "range",data:=.fields #[.int lo t,.int hi u,.int 1 v]},toks:=tk}:=by
 refine wpAny_pyIter_range (IsRange.new ..) (small_one h1 h2 g d) ?_;have a:Inv X ag σ H {s with heap:=s.heap.push {cls:=.type "range",data:=.fields #[.int lo t,.int hi u,.int 1 v]},toks:=tk}:=I.kept λb o e=>hP1 _ e;refine⟨(s.heap.push {cls:=.type "range",data:=.fields #[.int lo t,.int hi u,.int 1 v]}).objs.size,[(s.heap.push {cls:=.type "range",data:=.fields #[.int lo t,.int hi u,.int 1 v]}).objs.size],_,_,H,O,
  a.kept (t':=tk) λb o e=>hP1 _ e,sO _ lo (hi-lo).toNat,?_,λb c=>?_,q⟩
 ·have f:lo+((0:Nat):Int)*1=lo:=by simp
  have h:(((hi-lo).toNat:Nat):Int)-((0:Nat):Int)=Builtin.Range.rangeSize lo hi 1:=by rw[rangeSize_one];split<;>lia
  show IsRangeIter _ _ (lo+((0:Nat):Int)*1) ((((hi-lo).toNat:Nat):Int)-((0:Nat):Int)) 1;rw[f,h];exact hS1 _ O
 ·have e:b=(s.heap.push {cls:=.type "range",data:=.fields #[.int lo t,.int hi u,.int 1 v]}).objs.size:=by simpa using c
  subst e;exact a.fpOk (nR1 _) (a.hok.fresh (nR1 _))
noncomputable def Gb(ta:TA):TI:=fun σ H R=>ta σ H λvs H1=>∃j:Int,vs=[.int j] /\ -(2^62)<=j/\j<2^62/\R (GG 0 j.toNat) H1
noncomputable def Ga(ta:TA):TI:=fun σ H R=>ta σ H λvs H1=>∃i j:Int,vs=[.int i,.int j]/\(-(2^62)<=i/\i<2^62 /\ -(2^62)<=j/\j<2^62)/\R (GG i (j-i).toNat) H1
theorem vU {a:Expr}{ta:TA}{p pos:Pos}(hg:Gl X "range")(hm:X.mg "range"=Y)(ha:PA X [a] ta)(hs:cU [a] X.env=[(J,eval a X.env)]:=by rfl):PI X tg (.Call (.Name "range" p) [a] [] pos) (Gb ta):=by
 intro ag s σ H R I h;refine Call_ (jL I hg hm boot_range (PyProof.Rows.callWith_type1 (eJ (ha pos ag s σ H _ I h) λi k ⟨vs,H1,f,c,b⟩=>?_) hs O));obtain⟨j,e,b,d,q⟩:=b;subst e;cases c with
 |cons r g=>
  cases g;obtain⟨t,rfl⟩:=r;exact call_range_1 (qx f (by lia) (by lia) b d (by simpa using q))
theorem vT {a b:Expr}{ta:TA}{p pos:Pos}(hg:Gl X "range")(hm:X.mg "range"=none)(ha:PA X [a,b] ta)(hs:cU [a,b] X.env=[(false,eval a X.env),(false,eval b X.env)]:=by rfl)(hs2:cU [b] X.env=[(false,eval b X.env)]:=by rfl):
  PI X tg (.Call (.Name "range" p) [a,b] [] pos) (Ga ta):=by
 intro ag s σ H R I h;refine Call_ (jL I hg hm boot_range (PyProof.Rows.callWith_type1 (eJ (ha pos ag s σ H _ I h) λo u ⟨vs,H1,m,f,d⟩=>?_) (by rw[hs,hs2]) (by rw[hs2];rfl)));obtain⟨i,j,e,⟨d,g,l,n⟩,q⟩:=d;subst e;cases f with
 |cons r c=>
  cases c with
  |cons k c=>
   cases c;obtain⟨t,rfl⟩:=r;obtain⟨v,rfl⟩:=k;exact call_range_2 (qx m d g l n q)
noncomputable def E9(wi:TI)(g:TG)(tb:TS):TS:=λD σ H=>wi σ H λam H1=>∃W:Nat->Nat->St->Hp->Prop,(∃m,W 0 m σ H1) /\ ∀i m σ H,W i m σ H ->
 (am.stop i H/\D.nx σ H)\/(am.go i H /\ ∃N:St->Hp->Prop,(∀ σ' H',N σ' H' -> ∃m',m'<m/\W (i+1) m' σ' H') /\ ∀x H',am.yld i H x H'->g x σ H' fun σ2 H2=>tb {D with nx:=N,ct:=N,bk:=D.nx} σ2 H2)
noncomputable def mI(fp:List cP)(h:cX):List (cP×Obj):=fp.filterMap λb=>(h.get? b).map λo=>(b,o)
theorem iw{a:List cP}{h:cX}{b:cP}{o:Obj}(hb:b∈a)(e:h.get? b=Z o):(b,o)∈mI a h:=aK.mpr ⟨b,hb,by rw[e];rfl⟩
theorem vW{a:List cP}{h:cX}{p:cP×Obj}(hp:p∈mI a h):p.1∈a/\h.get? p.1=Z p.2:=by
 obtain⟨b,c,e⟩:=aK.mp hp;cases q:h.get? b with
 |none=>rw[q]at e;cases e
 |some o=>
  rw[q]at e;have d:(b,o)=p:=Option.some.inj e;subst d;exact⟨c,q⟩
theorem Inv.pinned{ag:List (cP×Obj)}{σ:St}{H:Hp}{s:cO}{a:List cP}(I:Inv X ag σ H s)(hf:∀b∈a,jo X ag H b)(ho:∀b∈a,∃o,s.heap.get? b=Z o /\ ∀v,o.data ≠ .cell v):Inv X (ag++mI a s.heap) σ H s:=
 I.pins_of λp j=>(aF.mp j).elim (λz=>I.pin p (mA1 _ z)) λz=>by
  obtain⟨c,e⟩:=vW z;obtain⟨h,i,g,_⟩:=hf p.1 c;obtain⟨o,f,d⟩:=ho p.1 c;rw[e]at f;cases f;exact⟨e,h,i,g,d⟩
theorem Inv.unpinned{ag pl:List (cP×Obj)}{σ:St}{H:Hp}{s:cO}(I:Inv X (ag++pl) σ H s):Inv X ag σ H s:=I.pins_of λp a=>I.pin p (mA1 _ (aG _ a))
theorem C2{iter:Expr}{q:List cZ}{Q:TI}{g:TG}{tb:TS}{pos:Pos}(hp:PassesOwn (model X.prog X.w) X.A X.env X.xe)(hc:X.calm=M)(hi:PI X tg iter Q)(hg:PG X tg g)(hb:sD X q tb)(hs:∀x,foldedSetIterable iter X.env x=pure x:=by intro _;rfl):PS X (.For tg iter q [] pos) (E9 Q g tb):=by
 intro ag s σ H D I h;refine wpAny_For (eJ (hi ag s σ H _ I h) λv s1 h1=>eJ h1 λitv s2 h2=>?_) hs;obtain⟨it,y,R,am,H2,e,I2,T,L,U,W,⟨m0,w0⟩,E⟩:=h2;subst e
 -- what stays M of the iterator's objects through the loop
 have j:∀{H':Hp},(∀b∈y,H' b=Y) -> ∀b∈y,jo X ag H' b:=λhn b hb=>⟨hn b hb,(U b hb).2⟩;refine codeAny_forLoop_any (λn s'=>∃i k H',Inv X ag k H' s'/\R i s'.heap/\(∀b∈y,H' b=Y)/\W i n k H') ?_ m0 ⟨0,σ,H2,I2,L,λb hb=>(U b hb).1,w0⟩;rintro n S ⟨i,p,F,V,z,C,w3⟩;rcases E i n p F w3 with⟨A,qn⟩|⟨go,N,hN,step⟩
 ·refine wpAny_passesOwn hp (eJ (T.done X O O O hc i ag S p F X.xe V (j C) z A) λr s4 ⟨ao,I4⟩=>?_);subst ao;exact wpAny_execs_nil ⟨p,F,I4,qn⟩
 ·refine wpAny_passesOwn hp (eJ (T.item X rfl rfl rfl hc i ag S p F X.xe V (j C) z go) fun r s4 ⟨u,ao,h4⟩=>?_);subst ao;refine wpAny_passesOwn hp (eJ h4 fun _ wq ⟨x,aq,I5,r5,y5,w,P⟩=>?_);have au:=I5.pinned (j P) (T.obj _ _ w);refine wpAny_passesOwn hp (eJ (hg _ wq p aq x u _ au r5 (step x aq y5)) fun _ s6 ⟨K,H6,I6,q6⟩=>?_);refine wpAny_passesOwn hp (eJ (hb _ s6 K H6 _ I6 q6) fun f G t=>?_);have again:∀ {a:St} {c:Hp},Inv X (ag++mI y wq.heap) a c G->N a c -> ∃ m,m<n /\ ∃ i k H',Inv X ag k H' G/\R i G.heap/\(∀ b∈y,H' b=none)/\W i m k H':=fun {a c} l B=>by
   obtain⟨m',hm,w7⟩:=hN a c B;refine⟨m',hm,i+1,a,c,l.unpinned,T.keep _ _ _ w λb hb o e=>(l.pin (b,o) (mA1 _ (mA1 _ (iw hb e)))).1,λb hb=>?_,w7⟩;obtain⟨o,e,d⟩:=T.obj _ _ w b hb;exact(l.pin (b,o) (mA1 _ (mA1 _ (iw hb e)))).2.1
  cases f with
  |next=>obtain⟨a,c,l,B⟩:=t;exact again l B
  |cont=>obtain⟨a,c,l,B⟩:=t;exact again l B
  |brk=>obtain⟨a,c,l,t⟩:=t;exact⟨a,c,l.unpinned,t⟩
  |ret v=>obtain⟨x7,a,c,l,r7,t⟩:=t;exact⟨x7,a,c,l.unpinned,r7,t⟩
end
end L2
namespace L2
open PySem PySem.Spec PyProof.Rows
abbrev R2:=V->V->Hp->VK->Prop
def fj(X:Cx)(f:cN->cN->Sem cN)(r:R2):Prop:=
 ∀(ag:List (cP×Obj)) (s:cO) (σ:St) (H:Hp) (x y:V) (v u:cN) (Q:VK),Inv X ag σ H s->dy x v->dy y u->r x y H Q ->
  cW (model X.prog X.w) X.A (f v u) (EP X ag σ Q) X.xe s
def EO(X:Cx)(f:cN->Sem cN)(r:V->Hp->VK->Prop):Prop:=
 ∀(ag:List (cP×Obj)) (s:cO) (σ:St) (H:Hp) (x:V) (v:cN) (Q:VK),Inv X ag σ H s->dy x v->r x H Q ->
  cW (model X.prog X.w) X.A (f v) (EP X ag σ Q) X.xe s
def eG(X:Cx)(f:cN)(r:List V->Hp->VK->Prop):Prop:=
 ∀(ag:List (cP×Obj)) (s:cO) (σ:St) (H:Hp) (xs:List V) (us:List cN) (Q:VK),Inv X ag σ H s->dG xs us->r xs H Q ->
  cW (model X.prog X.w) X.A (call f us) (EP X ag σ Q) X.xe s
noncomputable def E6(r:R2)(ta tb:TE):TE:=fun σ H Q=>ta σ H λx H1=>tb σ H1 λy H2=>r x y H2 Q
def HZ(r:V->Hp->VK->Prop)(ta:TE):TE:=fun σ H Q=>ta σ H λx H1=>r x H1 Q
def rI(C:Int->Int->Prop)(g:Int->Int->V):R2:=λx y H Q=>∃i j,x = .int i/\y = .int j/\C i j/\Q (g i j) H
noncomputable def An(g:Int->Int->V):R2:=λx y H Q=>∃i j,x = .int i/\y = .int j/\Q (g i j) H
def rU(g:Int->V):V->Hp->VK->Prop:=λx H Q=>∃i,x = .int i/\Q (g i) H
section
variable{X:Cx}{a b c:Expr}{ta tb tc:TE}{pos:Pos}
theorem Eo(ha:PE X a ta)(hb:PE X b tb){ag:List (cP×Obj)}{s:cO}{σ:St}{H:Hp}{R:V->V->Hp->Prop}(I:Inv X ag σ H s)(h:ta σ H fun x H1=>tb σ H1 fun y H2=>R x y H2){Q:cN->cO->Prop}{f:cN->cN->Sem cN}(hf:∀v u e x y H2,Inv X ag σ H2 e->dy x v->dy y u->R x y H2->cW (model X.prog X.w) X.A (f v u) Q X.xe e):
  cW (model X.prog X.w) X.A (eval a X.env) (λv c=>cW (model X.prog X.w) X.A (eval b X.env) (λu d=>cW (model X.prog X.w) X.A (f v u) Q X.xe d) X.xe c) X.xe s:=by
 refine eJ (ha ag s σ H _ I h) λv j ⟨x,H1,l,g,k⟩=>?_;refine eJ (hb ag j σ H1 _ l k) λu e ⟨y,H2,m,r2,i⟩=>?_;exact hf v u e x y H2 m g r2 i
theorem Fv{op:Operator}{r:R2}(ho:fj X (binaryOp op) r)(ha:PE X a ta)(hb:PE X b tb):PE X (.BinOp a op b pos) (E6 r ta tb):=by
 intro ag s σ H Q I h;exact wpAny_BinOp (Eo ha hb I h λv u c x y H2 e f d q=>ho ag c σ H2 x y v u Q e f d q)
theorem Fu{op:UnaryOp}{r:V->Hp->VK->Prop}(ho:EO X (unaryOp op) r)(ha:PE X a ta):PE X (.UnaryOp op a pos) (HZ r ta):=by
 intro ag s σ H Q I h;exact UnaryOp_ (eJ (ha ag s σ H _ I h) λv b ⟨x,H1,e,d,c⟩=>ho ag b σ H1 x v Q e d c)
theorem opI{f:cN->cN->Sem cN}{C:Int->Int->Prop}{g:Int->Int->Int}(a:∀(i j:Int) (t u:Tok) (s:cO) (Q:cN->cO->Prop) (E:cN->cO->Prop),C i j->Q (.int (g i j) s.toks) {s with toks:=s.toks+1}->cW (model X.prog X.w) X.A (f (.int i t) (.int j u)) Q E s):
  fj X f (rI C λi j=>.int (g i j)):=by
 intro ag s σ H x y v u Q I d b h;obtain⟨i,j,rfl,rfl,hc,q⟩:=h;obtain⟨t,rfl⟩:=d;obtain⟨c,rfl⟩:=b;exact a i j t c s _ _ hc ⟨.int (g i j),H,I.tok _,⟨_,O⟩,q⟩
theorem AS{f:cN->cN->Sem cN}{g:Int->Int->Int}(a:∀(i j:Int) (t u:Tok) (s:cO) (Q:cN->cO->Prop) (E:cN->cO->Prop),Q (.int (g i j) s.toks) {s with toks:=s.toks+1}->cW (model X.prog X.w) X.A (f (.int i t) (.int j u)) Q E s):
  fj X f (An λi j=>.int (g i j)):=by
 intro ag s σ H x y v u Q I d b h;obtain⟨i,j,rfl,rfl,q⟩:=h;obtain⟨t,rfl⟩:=d;obtain⟨c,rfl⟩:=b;exact a i j t c s _ _ ⟨.int (g i j),H,I.tok _,⟨_,O⟩,q⟩
theorem FF{f:cN->cN->Sem cN}{g:Int->Int->Bool}(a:∀(i j:Int) (t u:Tok) (s:cO) (Q:cN->cO->Prop) (E:cN->cO->Prop),Q (.bool (g i j)) s->cW (model X.prog X.w) X.A (f (.int i t) (.int j u)) Q E s):
  fj X f (An λi j=>.bl (g i j)):=by
 intro ag s σ H x y v u Q I d b h;obtain⟨i,j,rfl,rfl,q⟩:=h;obtain⟨t,rfl⟩:=d;obtain⟨c,rfl⟩:=b;exact a i j t c s _ _ ⟨.bl (g i j),H,I,O,q⟩
def GI(i j:Int):Prop:=0<j/\j<1073741824
def BZ(i j:Int):Prop:=0<=j/\j<=1000000/\i.natAbs<2^64
theorem sM(k:Nat):(0:Int)<=2^k:=by
 rw[two_pow_cast];exact Int.natCast_nonneg _
theorem Dq:fj X (binaryOp .Add) (An λi j=>.int (i+j)):=AS λ_ _ _ _ _ _ _ q=>add_int q
theorem Di:fj X (binaryOp .Sub) (An λi j=>.int (i-j)):=AS λ_ _ _ _ _ _ _ q=>sub_int q
theorem AQ:fj X (binaryOp .FloorDiv) (rI GI λi j=>.int (i/j)):=opI λi j _ _ _ _ _ hc q=>by
 have h1:(0:Int)<j:=hc.1;have h2:j<1073741824:=hc.2;exact floordiv_int (by lia) (by rw[Int.fdiv_eq_ediv_of_nonneg i (by lia)];exact q) (.inl (PyProof.noPylong_small (by lia)))
theorem Dm:fj X (binaryOp .Mod) (rI (λ_ j=>0<j) λi j=>.int (i%j)):=opI λi j _ _ _ _ _ hc q=>by
 have h1:(0:Int)<j:=hc;exact mod_int' (by lia) (by rw[Int.fmod_eq_emod_of_nonneg i (by lia)];exact q)
theorem Dl:fj X (binaryOp .Pow) (rI BZ λi j=>.int (i^j.toNat)):=opI λ_ _ _ _ _ _ _ hc q=>pow_int_small hc.1 hc.2.1 hc.2.2 q
theorem Dk:fj X (binaryOp .LShift) (rI BZ λi j=>.int (i*2^j.toNat)):=opI λ_ _ _ _ _ _ _ hc q=>lshift_int_small hc.1 hc.2.1 hc.2.2 q
theorem Dj:fj X (binaryOp .RShift) (rI (λ_ j=>0<=j) λi j=>.int (i/2^j.toNat)):=opI λi j _ _ _ _ _ hc q=>
 rshift_int hc (by rw[Int.fdiv_eq_ediv_of_nonneg i (sM _)];exact q)
theorem Dp:fj X (binaryOp .BitAnd) (An λi j=>.int (Builtin.bitAnd i j)):=AS λ_ _ _ _ _ _ _ q=>and_int q
theorem Bq:fj X (inplaceOp .Add) (An λi j=>.int (i+j)):=AS λ_ _ _ _ _ _ _ q=>iadd_int q
theorem IB{f:cN->Sem cN}{g:Int->Int}(a:∀(i:Int) (t:Tok) (s:cO) (Q:cN->cO->Prop) (E:cN->cO->Prop),Q (.int (g i) s.toks) {s with toks:=s.toks+1}->cW (model X.prog X.w) X.A (f (.int i t)) Q E s):
  EO X f (rU λi=>.int (g i)):=by
 intro ag s σ H x v Q I b h;obtain⟨i,rfl,q⟩:=h;obtain⟨t,rfl⟩:=b;exact a i t s _ _ ⟨.int (g i),H,I.tok _,⟨_,O⟩,q⟩
theorem Cw:EO X (unaryOp .USub) (rU λi=>.int (-i)):=IB λ_ _ _ _ _ q=>neg_int q
theorem zj{ag:List (cP×Obj)}{σ:St}{H:Hp}{s:cO}{Q:VK}{k k':Bool}(I:Inv X ag σ H s)(q:Q (.bl k) H)(e:k=k'):EP X ag σ Q (.bool k') s:=by
 subst e;exact⟨.bl k,H,I,O,q⟩
theorem FC:fj X (compareOp .Gt) (An λi j=>.bl (decide (j<i))):=FF λ_ _ _ _ _ _ _ q=>gt_int q
theorem FD:fj X (compareOp .GtE) (An λi j=>.bl (decide (j<=i))):=FF λ_ _ _ _ _ _ _ q=>ge_int q
theorem Dn:fj X (compareOp .Is) (λx y H Q=>y = .non/\Q (.bl (decide (x = .non))) H):=by
 intro ag s σ H x y v u Q I a b h;obtain⟨rfl,q⟩:=h;cases b;refine is_none_gen (zj I q ?_);cases x<;>first
  |(cases a;rfl)
  |(obtain⟨t,rfl⟩:=a;rfl)
theorem AO:fj X (compareOp .IsNot) (λx y H Q=>y = .non/\Q (.bl (!decide (x = .non))) H):=by
 intro ag s σ H x y v u Q I a b h;obtain⟨rfl,q⟩:=h;cases b;refine isnot_none_gen (zj I q ?_);cases x<;>first
  |(cases a;rfl)
  |(obtain⟨t,rfl⟩:=a;rfl)
theorem ym(b:Expr){op:CmpOp}(h:op ≠ .In:=by decide)(h2:op ≠ .NotIn:=by decide):behindInMarks op b=J:=by
 have a:(op == CmpOp.In)=J:=by cases op<;>first|rfl|exact absurd rfl h
 have c:(op == CmpOp.NotIn)=J:=by cases op<;>first|rfl|exact absurd rfl h2
 cases b<;>simp[behindInMarks,a,c]
theorem AJ{op:CmpOp}{r:R2}(ho:fj X (compareOp op) r)(ha:PE X a ta)(hb:PE X b tb)(hm:behindInMarks op b=J):PE X (.Compare a [op] [b] pos) (E6 r ta tb):=by
 intro ag s σ H Q I h;exact wpAny_Compare1 (Eo ha hb I h λv u c x y H2 e f d q=>ho ag c σ H2 x y v u Q e f d q) hm
noncomputable def E2(t:TE):TT:=fun σ H Q=>t σ H λx H'=>∃k,x = .bl k/\Q k H'
theorem As{op:CmpOp}{r:R2}(ho:fj X (compareOp op) r)(ha:PE X a ta)(hb:PE X b tb)(hm:behindInMarks op b=J):PT X (.Compare a [op] [b] pos) (E2 (E6 r ta tb)):=by
 intro ag s σ H Q I h;refine wpAny_isTrue_Compare1 (eJ (ha ag s σ H _ I h) λv j ⟨x,H1,o,f,l⟩=>eJ (hb ag j σ H1 _ o l) λu d ⟨y,H2,q,r2,g⟩=>
  eJ (ho ag d σ H2 x y v u _ q f r2 g) λc t ⟨z,n,p,i,k,e,m⟩=>?_) hm
 subst e;cases i;exact wpAny_truthy_bool ⟨n,p,m⟩
theorem mX:(cV:Nat)<2^63:=by rw[sizeLine_eq];decide
theorem tq:fj X (binaryOp .Add) (λx y H Q=>∃i j,x = .str i/\y = .str j/\i.length+j.length<=cV/\Q (.str (i++j)) H):=by
 intro ag s σ H x y v u Q I d a h;obtain⟨i,j,rfl,rfl,c,q⟩:=h;obtain⟨t,rfl⟩:=d;obtain⟨b,rfl⟩:=a;exact add_str (λb tk=>⟨.str (i++j),H,I.tok _,⟨_,O⟩,q⟩) c
theorem gM{x:V}{a:List cN}(r:dG [x] a):∃u,a=[u]/\dy x u:=by
 cases r with
 |cons b r2=>cases r2;exact⟨_,O,b⟩
theorem oI:eG X (.type "int") (λxs H Q=>(∃i,xs=[.int i]/\Q (.int i) H) \/ ∃k,xs=[.bl k]/\Q (.int (if k then 1 else 0)) H):=by
 intro ag s σ H xs b Q I r h;rcases h with⟨i,rfl,q⟩|⟨k,rfl,q⟩
 ·obtain⟨u,rfl,t,rfl⟩:=gM r;exact call_int_int ⟨.int i,H,I,⟨_,O⟩,q⟩
 ·obtain⟨u,rfl,a⟩:=gM r;cases a;exact call_int_bool ⟨.int (if k then 1 else 0),H,I.tok _,⟨_,O⟩,q⟩
end
end L2
namespace L2
open PySem PySem.Spec PyProof.Rows
section
variable{prog:cQ}{w:cS}{A:cR}{E:cN->cO->Prop}{s:cO}{K:Fg1}{x dx C f:cP}{mA:Str->Option cN}{name:Str}{v:cN}
end
theorem nN.some_of{v:V}{o:Option cN}(r:nN (Z v) o):∃u,o=Z u/\dy v u:=by
 cases o with
 |none=>exact(show False from r).elim
 |some u=>exact⟨u,O,r⟩
section
variable{P:cQ}{w:cS}{H H':Hp}{h h':cX}{a C dx:cP}{fs fs':List (Str×V)}
end
section
variable{X:Cx}{ag:List (cP×Obj)}{σ:St}{H:Hp}{s:cO}{a C dx:cP}{fs:List (Str×V)}{f:Str}{v:V}{A:cR}{E:cN->cO->Prop}
end
section
variable{X:Cx}{o e value:Expr}{f:Str}{pos pos' tpos:Pos}{ta tv:TE}
end
section
variable{X:Cx}{ag:List (cP×Obj)}{σ:St}{H:Hp}{s:cO}{A:cR}{E:cN->cO->Prop}{Q:cN->cO->Prop}{c:cN}{b:Bool}
end
end L2
namespace L2
open PySem PySem.Spec PyProof.Rows
structure fb (k:Nat)(A:cR):Prop where
 hd:A.handled=none
 dp:A.depth+3*k+5<recursionLimit
 un:A.units+16*k+200<cLine
 gd:A.guards=some []
theorem fb.mono{j k:Nat}{A:cR}(r:fb k A)(h:j<=k):fb j A:=⟨r.hd,by have:=r.dp;lia,by have:=r.un;lia,r.gd⟩
theorem fb.deeper{k:Nat}{A:cR}(r:fb (k+1) A)(env:Env):fb k (A.deeper env):=
 ⟨r.hd,by have:=r.dp;show A.depth+1+3*k+5<_;lia,by have:=r.un;show A.units+3+16*k+200<_;lia,r.gd⟩
theorem fb.depth{k:Nat}{A:cR}(r:fb k A):A.depth<recursionLimit:=by have:=r.dp;lia
theorem fb.units{k:Nat}{A:cR}(r:fb k A):A.units+64<cLine:=by have:=r.un;lia
noncomputable def Ha:TA:=λ_ H Q=>Q [] H
noncomputable def Fc(ta:TE)(tr:TA):TA:=fun σ H Q=>ta σ H λx H1=>tr σ H1 λxs H2=>Q (x::xs) H2
section
variable{X:Cx}{e:Expr}{es:List Expr}{te:TE}{t:TA}{pos:Pos}
theorem mM:PA X [] Ha:=λ_ _ _ _ H Q I h=>Calls.spliced_nil ⟨[],H,I,.nil,h⟩
theorem j7(ha:PE X e te)(hr:PA X es t)(hs:cU (e::es) X.env=(J,eval e X.env)::cU es X.env:=by rfl):PA X (e::es) (Fc te t):=by
 intro pos ag s σ H Q I h;rw[hs];show cW _ _ (spliced ((J,eval e X.env)::backTo pos (cU es X.env))) _ _ s;refine Calls.spliced_cons (eJ (ha ag s σ H _ I h) λu c ⟨x,H1,f,a,d⟩=>?_);exact eJ (hr pos ag c σ H1 _ f d) λj i ⟨xs,H2,g,r2,b⟩=>⟨x::xs,H2,g,.cons a r2,b⟩
noncomputable def G6(t:TA):TE:=fun σ H Q=>t σ H λxs H1=>xs.length<=cV /\ ∀p,H1 p=Y->Q (.ref p) (upd H1 p (.tup xs))
noncomputable def He(t:TA):TE:=fun σ H Q=>t σ H λxs H1=>xs.length<=cV /\ ∀p,H1 p=Y->Q (.ref p) (upd H1 p (.lst xs))
theorem Db{x1}(h:PA X es t):PE X (.Tuple es x1 pos) (G6 t):=by
 intro ag s σ H Q I g;refine wpAny_Tuple_spliced (eJ (h pos ag s σ H _ I g) λd a ⟨xs,H1,c,r,z,q⟩=>⟨by rw[<- r.length];exact z,?_⟩);have f:H1 a.heap.objs.size=Y:=c.hok.fresh (nR1 _);refine⟨.ref a.heap.objs.size,upd H1 a.heap.objs.size (.tup xs),c.laid (t':=a.toks) (λb u e=>hP1 _ e) (nR1 _) ?_,O,q _ f⟩;exact⟨z,d,r,⟨_,hS1 _ O,O,_,O⟩⟩
theorem De(h:PA X es t):PE X (.List es pos) (He t):=by
 intro ag s σ H Q I g;refine wpAny_List_spliced (eJ (h pos ag s σ H _ I g) λd a ⟨xs,H1,c,r,z,q⟩=>⟨by rw[<- r.length];exact z,?_⟩);have f:H1 a.heap.objs.size=Y:=c.hok.fresh (nR1 _);refine⟨.ref a.heap.objs.size,upd H1 a.heap.objs.size (.lst xs),c.laid (t':=a.toks) (λb u e=>hP1 _ e) (nR1 _) ?_,O,q _ f⟩;exact⟨z,d,0,r,hS1 _ O⟩
end
abbrev Sp:=List V->Hp->VK->XK->Prop
abbrev wL:=List Env->Hp->cO->XK->cN->cO->Prop
structure BY (P:cQ)(w:cS)(K:Fg1)(mg:Str->Option cN)(base:cX)(A:cR)(outer:List Env)(s:cO)(H:Hp):Prop where
 frames:A.frames=some outer
 mod:Mod K mg base
 bs:∀b o,base.get? b=some o->s.heap.get? b=some o/\H b=none
 bsz:base.objs.size<=s.heap.objs.size
 funs:s.heap.FunFrames base outer
 frf:∀b∈frs outer,H b=none
 hok:kE P w H s.heap
 bare:AllBare s.gens
def CE(outer:List Env)(P:cQ)(w:cS)(H:Hp)(s:cO)(Q:VK)(u:cN)(s':cO):Prop:=
 ∃v H',s'.os=s.os/\AllBare s'.gens/\Un (frs outer) [] H H' s.heap s'.heap/\kE P w H' s'.heap/\dy v u/\Q v H'
def CR(CX:wL)(outer:List Env)(P:cQ)(w:cS)(H:Hp)(s:cO)(Q:VK)(E:XK)(r:Result)(s':cO):Prop:=
 match r with
 | .ok (.ret u)=>CE outer P w H s Q u s'
 | .ok _=>False
 | .error e=>CX outer H s E e s'
structure jp (P:cQ)(w:cS)(K:Fg1)(mg:Str->Option cN)(base:cX)(CX:wL)(k:Nat)(f:cP)(fd:cY)(ps:List Str)(sp:Sp):Prop where
 len:∀vs H Q E,sp vs H Q E->vs.length=ps.length
 run:∀(A:cR) (outer:List Env) (s:cO) (H:Hp) (args:Args) (us:List cN) (vs:List V) (Q:VK) (E:XK),fb k A->BY P w K mg base A outer s H->BindsTo s fd args (ps.zip us)->dG vs us->sp vs H Q E ->
  codeAny (model P w) A (.call (.ref f) args) (CR CX outer P w H s Q E) s
theorem jp.imp{P:cQ}{w:cS}{K:Fg1}{mg:Str->Option cN}{base:cX}{CX:wL}{k:Nat}{f:cP}{fd:cY}{ps:List Str}{sp sp':Sp}(F:jp P w K mg base CX k f fd ps sp)(h:∀vs H Q E,sp' vs H Q E->sp vs H Q E):jp P w K mg base CX k f fd ps sp':=
 ⟨λvs H Q E q=>F.len vs H Q E (h _ _ _ _ q),λA a s H b e vs Q E i d c j g=>F.run A a s H b e vs Q E i d c j (h _ _ _ _ g)⟩
section
variable{X:Cx}{ag:List (cP×Obj)}{σ:St}{H:Hp}{s s':cO}
theorem Inv.env0(I:Inv X ag σ H s):BY X.prog X.w X.K X.mg X.base X.A X.stack s H:=
 ⟨I.ok.frames,I.ok.mod,I.bs,aC I.ok.bsz I.sz,I.stack,I.stkFree,I.hok,I.bare⟩
theorem Inv.after{Q:VK}{u:cN}(I:Inv X ag σ H s)(h:CE X.stack X.prog X.w H s Q u s'):EP X ag σ Q u s':=by
 obtain⟨v,H',i,a,un,e,r,q⟩:=h;obtain⟨f,g,d,t,c⟩:=s';obtain rfl:c=s.os:=i;exact⟨v,H',I.call (h':=f) (g':=g) (d':=d) (t':=t) (ch:=[]) un e a (λb z=>absurd z (by simp)),r,q⟩
end
noncomputable def Fd(sp:Sp)(dvs:List V)(E:XK)(t:TA):TE:=fun σ H Q=>t σ H λvs H1=>sp (vs++dvs) H1 Q E
def kF(K:Fg1)(fd:cY)(ps:List Str)(ds:List cN):Prop:=
 ∀(s:cO) (us:List cN),K.In s.heap->(us++ds).length=ps.length->BindsTo s fd ⟨us,[]⟩ (ps.zip (us++ds))
theorem kF.all{K:Fg1}{fd:cY}{ps:List Str}(h:∀a:List cN,a.length=ps.length->bindArgs fd ⟨a,[]⟩=pure (ps.zip a)):kF K fd ps []:=λs a _ b=>by
 rw[aL]at b ⊢;exact .of_eq (h a b)
def uf(CX:wL)(X:Cx)(E:XK):Prop:=∀(ag:List (cP×Obj)) (σ:St) (H:Hp) (s:cO) (e:cN) (s':cO),Inv X ag σ H s->CX X.stack H s E e s'->X.xe e s'
section
variable{X:Cx}{CX:wL}{k:Nat}{f C:cP}{fd:cY}{ps:List Str}{sp:Sp}{dvs:List V}{ds:List cN}{E:XK}{x m:Str}{p pos apos:Pos}{e o:Expr}{es:List Expr}{ta:TE}{t:TA}
theorem CL{ag:List (cP×Obj)}{σ:St}{H:Hp}{s:cO}{Q:VK}{a:List cN}{vs:List V}(F:jp X.prog X.w X.K X.mg X.base CX k f fd ps sp)(hr:fb k X.A)(hb:kF X.K fd ps ds)(hd:dG dvs ds)(hx:uf CX X E)(I:Inv X ag σ H s)(r:dG vs a)(h:sp (vs++dvs) H Q E):cW (model X.prog X.w) X.A (call (.ref f) a) (EP X ag σ Q) X.xe s:=by
 have r2:dG (vs++dvs) (a++ds):=r.append hd;have d:(a++ds).length=ps.length:=by rw[<- r2.length];exact F.len _ _ _ _ h
 refine wpAny_call (codeAny_mono (F.run X.A X.stack s H ⟨a,[]⟩ (a++ds) (vs++dvs) Q E hr I.env0 (hb s a I.kIn d) r2 h) λr s' b=>?_);cases r with
 |error e=>exact hx ag σ H s e s' I b
 |ok c=>
  cases c with
  |ret u=>exact I.after b
  |next=>exact False.elim b
  |brk=>exact False.elim b
  |cont=>exact False.elim b
theorem AK (F:jp X.prog X.w X.K X.mg X.base CX k f fd ps sp)(hr:fb k X.A)(hg:Gl X x)(hm:X.mg x=some (.ref f))(hk:wK1 X.K (.ref f)=true)(hb:kF X.K fd ps ds)(hd:dG dvs ds)(hx:uf CX X E)
  (ha:PA X (e::es) t) (hdb:(x == ("__debug__":Str))=J:=by decide) (he:cU (e::es) X.env=(J,eval e X.env)::cU es X.env:=by rfl) (hpl:(backTo pos (cU es X.env)).any (·.1)=J:=by rfl):
  PE X (.Call (.Name x p) (e::es) [] pos) (Fd sp dvs E t):=by
 intro ag s σ H Q I h;refine wpAny_Call_Name_kw (uT I hg hm ?_ hdb);refine PySem.W.callWith_K (h₀:=X.base) I.ok.mod.kin hk (eJ (ha pos ag s σ H _ I h) λc b ⟨vs,H1,a,r,q⟩=>⟨a.kIn,?_⟩) he hpl;exact CL F hr hb hd hx a r q
end
section
variable{X:Cx}{CX:wL}{k:Nat}{f C:cP}{fd:cY}{ps ks:List Str}{sp:Sp}{E:XK}{x m:Str}{p pos apos kpos:Pos}{e o:Expr}{es:List Expr}{kws:List Keyword}{te ta:TE}{t tk:TA}{nm:Option Str}
variable{g:List cN->List cN->List cN}{gV:List V->List V->List V}
end
structure fS (N P:List Str)(sc:c3):Prop where
 kind:sc.kind = .function
 co:sc.isCoroutine=false
 gen:sc.isGenerator=false
 nd:N.Nodup
 pre:N.take P.length=P
 par:∀x∈P,sc.names.lookup x=some .local\/sc.names.lookup x=some .cell
 nofree:∀y∈sc.names,y.2 ≠ .free
theorem oK{kindOf:Str->Option NameKind}{x:Str}:∀{binds:List (Str×cN)} {m:Str->Option cN},(∀v,(x,v)∉binds)->bindL kindOf binds m x=m x
 |[],_,_=>rfl
 |(n,v)::r,m,h=>by
  unfold bindL;rw[oK λw a=>h w (mC1 _ a)];split
  ·have:x≠n:=by rintro rfl;exact h v mS1
   simp[this]
  ·rfl
theorem oN{kindOf:Str->Option NameKind}{x:Str}:∀{binds:List (Str×cN)} {m:Str->Option cN},(∀v,(x,v)∉binds)->bindC kindOf binds m x=m x
 |[],_,_=>rfl
 |(n,v)::r,m,h=>by
  unfold bindC;rw[oN λw a=>h w (mC1 _ a)];split
  ·rfl
  ·have:x≠n:=by rintro rfl;exact h v mS1
   simp[this]
theorem oM{kindOf:Str->Option NameKind}{x:Str}{v:cN}:∀ {P:List Str} {vs:List cN} {i:Nat} {m:Str->Option cN},P.Nodup->P[i]? = some x->vs[i]? = some v->kindOf x=some .local ->
  bindL kindOf (P.zip vs) m x=Z v
 |[],_,_,_,_,h,_,_=>by simp at h
 |_::_,[],_,_,_,_,h,_=>by simp at h
 |p::P,w::vs,0,m,nd,h1,h2,hk=>by
  simp at h1 h2;subst h1;subst h2;show bindL kindOf ((p,w)::P.zip vs) m p=_;unfold bindL;rw[oK λv a=>(aM.mp nd).1 (List.of_mem_zip a).1,ak hk];simp
 |p::P,w::vs,i+1,m,nd,h1,h2,hk=>by
  show bindL kindOf ((p,w)::P.zip vs) m x=_;unfold bindL;exact oM (i:=i) (aM.mp nd).2 (by simpa using h1) (by simpa using h2) hk
theorem oO{kindOf:Str->Option NameKind}{x:Str}{v:cN}:∀ {P:List Str} {vs:List cN} {i:Nat} {m:Str->Option cN},P.Nodup->P[i]? = some x->vs[i]? = some v->kindOf x≠some .local ->
  bindC kindOf (P.zip vs) m x=Z v
 |[],_,_,_,_,h,_,_=>by simp at h
 |_::_,[],_,_,_,_,h,_=>by simp at h
 |p::P,w::vs,0,m,nd,h1,h2,hk=>by
  simp at h1 h2;subst h1;subst h2;show bindC kindOf ((p,w)::P.zip vs) m p=_;unfold bindC;rw[oN λv a=>(aM.mp nd).1 (List.of_mem_zip a).1,aj hk];simp
 |p::P,w::vs,i+1,m,nd,h1,h2,hk=>by
  show bindC kindOf ((p,w)::P.zip vs) m x=_;unfold bindC;exact oO (i:=i) (aM.mp nd).2 (by simpa using h1) (by simpa using h2) hk
noncomputable def start(N:List Str)(vs:List V):St:=vs.map Z++aN (N.length-vs.length) Y
noncomputable def lI(CX:wL)(P:cQ)(w:cS)(K:Fg1)(mg:Str->Option cN)(base:cX)(N:List Str)(qual:Str)(scope:c3)(f:cP)(cd:cN)(A:cR)(outer:List Env)(s:cO)(H:Hp)(E:XK):Cx where
 prog:=P
 w:=w
 K:=K
 mg:=mg
 base:=base
 A:=A.deeper (envOfC qual scope s.heap.objs.size f cd)
 N:=N
 s₀:=s
 H₀:=H
 env:=envOfC qual scope s.heap.objs.size f cd
 outer:=outer
 stack:=envOfC qual scope s.heap.objs.size f cd::outer
 ex:=[]
 calm:=M
 fn:=λ_=>M
 pn:=[]
 xe:=λe s'=>cW (model P w) (A.deeper (envOfC qual scope s.heap.objs.size f cd)) (leaving (envOfC qual scope s.heap.objs.size f cd) e) (λ_ s''=>CX outer H s E e s'') (λe' s''=>CX outer H s E e' s'') s'
theorem sf{a:c3}{n:Nat}{x:Str}(h:a.names.lookup x=Z .cell):∃c,(cellsFrom n a.names []).lookup x=Z c:=by
 have q:=PySem.W.cellsFrom_some a.names n [] (.inl h);exact aO.mp q
theorem wb{CX:wL}{P:cQ}{w:cS}{K:Fg1}{mg:Str->Option cN}{base:cX}{N ps:List Str}{g:Str}{scope:c3}{f:cP}{B:cN}{A:cR}{d:List Env}{s s1:cO}{H:Hp}{E:XK}{C:List cN}{vs:List V}(S:fS N ps scope)(hd:A.handled=none)(j:BY P w K mg base A d s H)(L:vs.length=ps.length)(r:dG vs C)(x:InCallC s s.heap.objs.size (bindL (envOfC g scope s.heap.objs.size f B).kindOf (ps.zip C) fun _=>none) (cellsFrom (s.heap.objs.size+1) scope.names []) (bindC (envOfC g scope s.heap.objs.size f B).kindOf (ps.zip C) fun _=>none) s1):
  Inv (lI CX P w K mg base N g scope f B A d s H E) [] (start N vs) H s1:=by
 have I:ps.length<=N.length:=by have:=congrArg List.length S.pre;rw[aP]at this;lia
 obtain⟨h1,tk,rfl,D⟩:=x.done;have m:∀b:cP,b∉(lI CX P w K mg base N g scope f B A d s H E).ex:=λb z=>absurd (show b∈([]:List cP)from z) (by simp);refine⟨⟨j.mod,S.kind,O,O,nR1 _,λy z c h1 h2=>?_,λy l=>?_,λy c _ h=>?_,λ_=>hd,Around.frames_deeper j.frames,.inr ⟨O,O⟩,λb z=>absurd z (m b),j.bs,j.bsz,λb _ _=>m b,λb z=>absurd z (m b),j.funs,j.frf⟩,
  rfl,j.bare,Un.kept D,⟨_,x.toInCall.ns,λi y v h1 h2 ao=>?_⟩,λy c h=>⟨_,x.cell y c h⟩,j.hok.fresh (nR1 _),λy c h=>?_,λp o=>absurd (show p∈([]:List (cP×Obj))from o) (by simp),j.hok.kept D,?_⟩
 ·exact name_of_addr x.apart (PySem.mem_of_lookup h1) (PySem.mem_of_lookup h2)
 ·have l:scope.names.lookup y=Z .cell\/scope.names.lookup y=Z .free:=l;rcases l with l|l
  ·exact sf l
  ·exact absurd O (S.nofree _ (PySem.mem_of_lookup l))
 ·exact Nat.le_of_lt (x.above y c (PySem.mem_of_lookup h))
 ·have hi:i<vs.length:=by
   unfold start at h2;by_cases hi:i<vs.length
   ·exact hi
   ·rw[gR1 (by simpa using hi)]at h2;rw[aQ]at h2;split at h2<;>cases h2
  have am:vs[i]?=Z v:=by
   unfold start at h2;rw[gL1 (by simpa using hi),gP1]at h2;cases e:vs[i]? with
   |none=>rw[e]at h2;cases h2
   |some a=>rw[e]at h2;cases h2;rfl
  obtain⟨u,F,G⟩:=r.get am;have o:ps[i]?=Z y:=by
   rw[<- S.pre,aR (by lia)];exact h1
  have t:ps.Nodup:=by rw[<- S.pre];exact S.nd.sublist (aS _ _)
  refine⟨u,G,?_⟩;rcases S.par y (gM1 o)with k|k
  ·exact .inl ⟨k,oM t o F k⟩
  ·obtain⟨c,e⟩:=sf (n:=s.heap.objs.size+1) k;refine .inr ⟨.inl k,c,e,?_⟩;have q:=x.cell y c e;rw[oO t o F (by show scope.names.lookup y≠_;rw[k];decide)]at q;exact q
 ·exact j.hok.fresh (Nat.le_of_lt (x.above y c (PySem.mem_of_lookup h)))
 ·unfold start;show _=N.length;rw[lA1,lM1,lR1];lia
theorem Gg{CX:wL}{P:cQ}{w:cS}{K:Fg1}{mg:Str->Option cN}{base:cX}{k:Nat}{f:cP}{name c:Str}{params:Arguments}{g:List cZ}{scope:c3}{R kV B T d ct oc:cN}{au X:Option cP}{F:Array (Option cN)}{N ps:List Str}{sp:Sp}(lk:K.lookup f=some ⟨oc,X,.func (wF1 name c params g scope R kV B T au d ct),F⟩)(hcd:wC1 K d c=true)(S:fS N ps scope)(len:∀vs H Q E,sp vs H Q E->vs.length=ps.length)(i:∀(A:cR) (a:List Env) (s:cO) (H:Hp) (vs:List V) (Q:VK) (E:XK),fb k (A.deeper (envOfC c scope s.heap.objs.size f d))->sp vs H Q E ->
   ∃t,sD (lI CX P w K mg base N c scope f d A a s H E) g t/\t {nx:=λ_ H'=>Q .non H',rt:=Q} (start N vs) H):
  jp P w K mg base CX (k+1) f (wF1 name c params g scope R kV B T au d ct) ps sp:=by
 refine⟨len,λA a s H L us vs Q E D z wq r m=>?_⟩;have hl:=len _ _ _ _ m;have ao:K.In s.heap:=z.mod.kin.keeps λb o e=>(z.bs b o e).1;have C:s.heap.NoLimit:=z.mod.nolimit.keeps λb o e=>(z.bs b o e).1;have j:∀y∈ps.zip us,scope.names.lookup y.1=Z .local\/(scope.names.lookup y.1=Z .cell/\((cellsFrom (s.heap.objs.size+1) scope.names []).lookup y.1).isSome=M):=λ⟨n,v⟩ U=>by
  rcases S.par n (List.of_mem_zip U).1 with q|q
  ·exact .inl q
  ·exact .inr ⟨q,PySem.W.cellsFrom_some _ _ _ (.inl q)⟩
 refine codeAny_call_function D.depth (ao _ _ lk) O S.co S.gen O (PySem.W.codeRec_of ao hcd) (wq _ _ _ _ ?_);refine wpAny_newFunctionEnv_cells S.kind j λenv he s1 x=>?_;subst he;refine⟨C.keeps x.toInCall.keep,codeAny_func ?_⟩;obtain⟨t,W,hq⟩:=i A a s H vs Q E (D.deeper _) m;have I:Inv (lI CX P w K mg base N c scope f d A a s H E) [] (start N vs) H s1:=wb S D.hd z hl r x;refine wpAny_mono (W [] s1 (start N vs) H _ I hq) (λaq s' l=>?_) λe s' l=>l;have p:∀{h:St} {H':Hp} {v:V} {u:cN},Inv (lI CX P w K mg base N c scope f d A a s H E) [] h H' s'->dy v u->Q v H'->CE a P w H s Q u s':=
  λ{h H' v u} am G q=>⟨v,H',am.os,am.bare,am.base,am.hok,G,q⟩
 cases aq with
 |ret u=>
  obtain⟨v,h,H',am,G,q⟩:=l;exact p am G q
 |next=>
  obtain⟨h,H',am,q⟩:=l;exact p (v:=V.non) (u:=Value.none) am O q
 |brk=>
  obtain⟨_,_,_,q⟩:=l;exact False.elim q
 |cont=>
  obtain⟨_,_,_,q⟩:=l;exact False.elim q
end L2
namespace L2
open PySem PySem.Spec PyProof.Rows
section
variable{X:Cx}{x:Str}{p pos:Pos}{e:Expr}{es:List Expr}{t:TA}{id T:String}{r:List V->Hp->VK->Prop}
def H7(r:List V->Hp->VK->Prop)(t:TA):TE:=fun σ H Q=>t σ H λvs H1=>r vs H1 Q
theorem qz (hc:eG X (.builtin id) r)(hg:Gl X x)(hm:X.mg x=none)(hv:bootBuiltins x=some (.builtin id))(ha:PA X (e::es) t)(hn:x≠"__name__":=by decide)(hdb:(x == ("__debug__":Str))=false:=by decide)
  (he:cU (e::es) X.env=(J,eval e X.env)::cU es X.env:=by rfl) (hpl:(backTo pos (cU es X.env)).any (·.1)=J:=by rfl):PE X (.Call (.Name x p) (e::es) [] pos) (H7 r t):=by
 intro ag s σ H Q I h;refine wpAny_Call_Name_kw (jL I hg hm hv ?_ hn hdb);exact PyProof.Rows.callWith_builtin1 (eJ (ha pos ag s σ H _ I h) λb c ⟨vs,H1,f,a,d⟩=>hc ag c σ H1 vs b Q f a d) he hpl
theorem jh (hc:eG X (.type T) r)(hg:Gl X x)(hm:X.mg x=none)(hv:bootBuiltins x=some (.type T))(ha:PA X (e::es) t)(hn:x≠"__name__":=by decide)(hdb:(x == ("__debug__":Str))=false:=by decide)
  (he:cU (e::es) X.env=(J,eval e X.env)::cU es X.env:=by rfl) (hpl:(backTo pos (cU es X.env)).any (·.1)=J:=by rfl):PE X (.Call (.Name x p) (e::es) [] pos) (H7 r t):=by
 intro ag s σ H Q I h;refine wpAny_Call_Name_kw (jL I hg hm hv ?_ hn hdb);exact PyProof.Rows.callWith_type1 (eJ (ha pos ag s σ H _ I h) λb c ⟨vs,H1,f,a,d⟩=>hc ag c σ H1 vs b Q f a d) he hpl
end
end L2
namespace HT
open PySem PyProof.Rows
section
open PySem.SeqAt
open PySem.AutoSeq1 (wpAny_loadPart')
open PySem.MeetsSeq PySem.MeetsSeq2 PySem.MeetsSeq3
end
section
variable{prog:cQ}{w:cS}{A:cR}{E:cN->cO->Prop}{s:cO}
theorem BI {t b:cP}{vs ws:List cN}{Q:cN->cO->Prop}(ht:IsTup s.heap t vs.toArray)(hb:IsTup s.heap b ws.toArray)(hv:vs≠[])
  (h1:ws=[]->Q (.ref t) s) (h2:ws≠[]->Q (.ref s.heap.objs.size) {s with heap:=s.heap.push {cls:=.type "tuple",data:=.seq (vs++ws).toArray}})
  (hsz:vs.length+ws.length<=cV):cW (model prog w) A (binaryOp .Add (.ref t) (.ref b)) Q E s:=by
 obtain⟨⟨cls,l,data,k⟩,i,hc,n,p⟩:=id ht;obtain⟨⟨o,c,j,d⟩,a,f,m,g⟩:=id hb;simp only at hc p f g;subst hc p f g;have e:vs.toArray++ws.toArray=(vs++ws).toArray:=by simp
 by_cases h:ws=[]
 ·exact concat_meets ⟨_,i,rfl⟩ ⟨_,a,rfl⟩ noFill_tuple_add seq_tuple_add PySem.F.slot_tuple_add PySem.F.entry_tuple_add (PySem.F.args_tuple_add_2 _ _)
   (tuple_addW1 t b vs.toArray ws.toArray n m l c k d (by simpa using hv) (by simp[h])) ⟨i,a,h1 h⟩
 ·refine concat_meets ⟨_,i,rfl⟩ ⟨_,a,rfl⟩ noFill_tuple_add seq_tuple_add PySem.F.slot_tuple_add PySem.F.entry_tuple_add (PySem.F.args_tuple_add_2 _ _)
   (tuple_addW2 t b vs.toArray ws.toArray n m l c k d (by simpa using hv) (by simpa using h) (by rw[sT1,sT1];exact hsz)) ⟨i,a,?_⟩
  rw[e];exact h2 h
noncomputable def sIx(n d:Nat):Option Int->Nat
 |none=>d
 |some v=>if v<0 then(v+(n:Int)).toNat else min v.toNat n
theorem xK(n d:Nat):sIx n d Y=d:=rfl
theorem Ai(n d k:Nat):sIx n d (Z (k:Int))=min k n:=by
 show(if(k:Int)<0 then((k:Int)+(n:Int)).toNat else min (k:Int).toNat n)=min k n;rw[aj (by lia),Int.toNat_natCast]
theorem CJ(n d:Nat)(hd:d<=n)(o:Option Int):sIx n d o<=n:=by
 cases o with
 |none=>exact hd
 |some v=>
  show(if v<0 then(v+(n:Int)).toNat else min v.toNat n)<=n;by_cases a:v<0
  ·rw[ak a];lia
  ·rw[aj a];exact Nat.min_le_right _ _
theorem vi(v:Int)(n d:Nat):(if v<0 then max (v+(n:Int)) 0 else min v (n:Int))=((sIx n d (Z v):Nat):Int):=by
 show(if v<0 then max (v+(n:Int)) 0 else min v (n:Int))=(((if v<0 then(v+(n:Int)).toNat else min v.toNat n):Nat):Int);by_cases a:v<0
 ·simp only[ak a];lia
 ·simp only[aj a];lia
theorem ua(lo hi:Option Int)(n:Nat):Builtin.Slice.sliceAdjust lo hi 1 (n:Int)=(((sIx n 0 lo:Nat):Int),((sIx n n hi:Nat):Int)):=by
 have h1:¬ ((1:Int)<0):=by lia
 unfold Builtin.Slice.sliceAdjust;simp only[h1,if_false];refine Prod.ext ?_ ?_
 ·cases lo with
  |none=>rfl
  |some v=>exact vi v n 0
 ·cases hi with
  |none=>rfl
  |some v=>exact vi v n n
theorem s9(i j:Nat):Builtin.Slice.slicePlaces (i:Int) (j:Int) 1=j-i:=by
 unfold Builtin.Slice.slicePlaces;have h1:(1:Int)>0:=by lia
 simp only[h1,if_true,Int.ediv_one];split<;>lia
theorem mh{v:cN}{o:Option Int}{Q:Option Int->cO->Prop}(p:IsPart v o)(h:Q o s):cW (model prog w) A (Builtin.Slice.slicePartIndex v) Q E s:=by
 cases p with
 |none=>exact slicePart_none h
 |int i t=>exact slicePart_int h
theorem hY{sl:cP}{d c:cN}{lo hi:Option Int}{n:Nat}{Q:Int×Int×Nat->cO->Prop}(hs:s.heap.IsSliceOf sl d c .none)(pl:IsPart d lo)(f:IsPart c hi)(h:Q (((sIx n 0 lo:Nat):Int),1,sIx n n hi-sIx n 0 lo) s):cW (model prog w) A (Builtin.Slice.sliceApplied (.ref sl) (pure (n:Int))) Q E s:=by
 obtain⟨g,a,e,b⟩:=id hs;unfold Builtin.Slice.sliceApplied Builtin.Slice.sliceFields;refine wB1 (wB1 (wpAny_field a b (x:=d) O (wB1 (wpAny_field a b (x:=c) O (wB1 (wpAny_field a b (x:=.none) O (wP1 ?_)))))));refine wB1 (slicePart_none ?_);show cW _ _ (if((1:Int) == 0)=M then _ else _) _ _ s;rw[aj (by decide)];refine wB1 (mh pl (wB1 (mh f (wB1 (wP1 ?_)))));show cW _ _ (match Builtin.Slice.sliceAdjust lo hi 1 (n:Int)with|(lo,hi)=>pure (lo,(1:Int),Builtin.Slice.slicePlaces lo hi 1)) _ _ s;rw[ua lo hi n];show cW _ _ (pure (((sIx n 0 lo:Nat):Int),(1:Int),Builtin.Slice.slicePlaces ((sIx n 0 lo:Nat):Int) ((sIx n n hi:Nat):Int) 1)) _ _ s;rw[s9];exact wP1 h
theorem xX(xs:Array cN)(i k:Nat):((af k).filterMap λ(m:Nat)=>xs[((i:Int)+(m:Int)*1).toNat]?).toArray=((xs.toList.drop i).take k).toArray:=by
 have e:(λ(m:Nat)=>xs[((i:Int)+(m:Int)*1).toNat]?)=λm=>xs[i+m]?:=by
  funext m
  have:((i:Int)+(m:Int)*1).toNat=i+m:=by lia
  rw[this]
 rw[e];have:=pick_run xs i k;rw[List.filterMap_map]at this;have a:((λx=>xs[x]?)∘λx=>i+x)=λm=>xs[i+m]?:=rfl;rw[a]at this;rw[this]
theorem kk {t sl:cP}{items:Array cN}{g f:cN}{lo hi:Option Int}{Q:cN->cO->Prop}(ht:IsTup s.heap t items)(hs:s.heap.IsSliceOf sl g f .none)(pl:IsPart g lo)(i:IsPart f hi)
  (hw:¬ (sIx items.size 0 lo=0/\sIx items.size items.size hi=items.size))
  (h:Q (.ref s.heap.objs.size) {s with heap:=s.heap.push {cls:=.type "tuple",data:=.seq ((items.toList.drop (sIx items.size 0 lo)).take (sIx items.size items.size hi-sIx items.size 0 lo)).toArray}})
  (hsz:items.size<=cV):cW (model prog w) A (getItem (.ref t) (.ref sl)) Q E s:=by
 have a:sizeOk (.seq ((items.toList.drop (sIx items.size 0 lo)).take (sIx items.size items.size hi-sIx items.size 0 lo)).toArray):=by
  show((items.toList.drop (sIx items.size 0 lo)).take (sIx items.size items.size hi-sIx items.size 0 lo)).toArray.size<=cV;rw[sT1,aP,List.length_drop,aI];omega
 have o:sIx items.size items.size hi<=items.size:=CJ _ _ (nR1 _) hi;obtain⟨k,c,d,j⟩:=id hs;have b:s.TypeIs (.ref sl) "slice":=⟨k,c,d⟩;unfold getItem
 try with_reducible refine wpAny_holding ?_
 first|refine wB1 (wP1 ?_)|skip
 refine wB1 (wpAny_sequenceKey ht.typeIs (by decide) ?_);refine wB1 (wpAny_callSpecial?_slot (name:=Str.ofString "__getitem__") ht.typeIs PyProof.Rows.slot_tuple_getitem
  (wE1 PyProof.Rows.slot_tuple_getitem ht.typeIs entry_tuple_getitem ?_ (args_tuple_getitem _ _)))
 show cW _ _ (Builtin.Tuple.tupleItemsOf (.ref t) >>= _) _ _ s;refine wB1 (tupleItemsOf_ ht ?_);refine wB1 (wpAny_typeOf b ?_);rw[ak (by decide)];refine wB1 (hY hs pl i ?_);have e:¬ ((((sIx items.size 0 lo:Nat):Int) == 0&&(1:Int) == 1&&(sIx items.size items.size hi-sIx items.size 0 lo) == items.size)=M):=by
  intro q;rw[bA1,bA1]at q;have n:((sIx items.size 0 lo:Nat):Int)=0:=eq_of_beq q.1.1;have l:sIx items.size items.size hi-sIx items.size 0 lo=items.size:=eq_of_beq q.2;exact hw ⟨by omega,by omega⟩
 show cW _ _ (if(((sIx items.size 0 lo:Nat):Int) == 0&&(1:Int) == 1&&(sIx items.size items.size hi-sIx items.size 0 lo) == items.size)=M then _ else _) _ _ s;rw[aj e,xX]
 first
  |exact wB1 (m:=Builtin.Tuple.tupleExact _) (wO1 (wP1 ⟨_,rfl,wP1 h⟩) a)
  |exact wB1 (m:=Builtin.Tuple.tupleExact _) (wO1 (wB1 (wP1 (wP1 ⟨_,rfl,wP1 h⟩))) a)
  |exact wB1 (wB1 (m:=Builtin.Tuple.tupleExact _) (wO1 (wP1 (wP1 ⟨_,rfl,wP1 h⟩)) a))
  |exact wB1 (wB1 (m:=Builtin.Tuple.tupleExact _) (wO1 (wP1 ⟨_,rfl,wP1 h⟩) a))
end
end HT
namespace L2
open PySem PySem.Spec PyProof.Rows
abbrev TO:=St->Hp->(Option Int->Hp->Prop)->Prop
def PO(X:Cx)(e:Option Expr)(t:TO):Prop:=
 ∀(ag:List (cP×Obj)) (s:cO) (σ:St) (H:Hp) (Q:Option Int->Hp->Prop),Inv X ag σ H s->t σ H Q ->
  cW (model X.prog X.w) X.A (evalPart e X.env) (λu s'=>∃o H',Inv X ag σ H' s'/\IsPart u o/\Q o H') X.xe s
noncomputable def Ac:TO:=λ_ H Q=>Q Y H
noncomputable def E5(t:TE):TO:=fun σ H Q=>t σ H λx H1=>∃i,x = .int i/\Q (Z i) H1
section
variable{X:Cx}{e:Expr}{te:TE}{lo hi:Option Expr}{tl th:TO}{pos p2:Pos}
theorem AB:PO X Y Ac:=by
 intro ag s σ H Q I h;rw[evalPart_none];exact wP1 ⟨Y,H,I,.none,h⟩
theorem AA(h:PE X e te):PO X (Z e) (E5 te):=by
 intro ag s σ H Q I b;rw[evalPart_some];refine eJ (h ag s σ H _ I b) λu f ⟨x,H1,d,a,c⟩=>?_;obtain⟨i,rfl,q⟩:=c;obtain⟨t,rfl⟩:=a;exact⟨Z i,H1,d,.int i t,q⟩
def zS(X:Cx)(r:V->Option Int->Option Int->Hp->VK->Prop):Prop:=
 ∀(ag:List (cP×Obj)) (s:cO) (σ:St) (H:Hp) (x:V) (v vl vu:cN) (lo hi:Option Int) (sl:cP) (Q:VK),Inv X ag σ H s->dy x v->s.heap.IsSliceOf sl vl vu .none->IsPart vl lo->IsPart vu hi->r x lo hi H Q ->
  ∃T id,typeLookup (.type T) "__getitem__"=pure (Z (.builtin id))/\s.TypeIs v T/\cW (model X.prog X.w) X.A (getItem v (.ref sl)) (EP X ag σ Q) X.xe s
theorem zS.or{r b:V->Option Int->Option Int->Hp->VK->Prop}(h:zS X r)(h':zS X b):zS X (λx lo hi H Q=>r x lo hi H Q\/b x lo hi H Q):=by
 intro ag s σ H x v e c lo hi a Q I g d pl f q;rcases q with q|q
 ·exact h ag s σ H x v e c lo hi a Q I g d pl f q
 ·exact h' ag s σ H x v e c lo hi a Q I g d pl f q
def IC(r:V->Option Int->Option Int->Hp->VK->Prop)(te:TE)(tl th:TO):TE:=fun σ H Q=>te σ H λx H1=>tl σ H1 λl H2=>th σ H2 λu H3=>r x l u H3 Q
theorem x4{r:V->Option Int->Option Int->Hp->VK->Prop}(hr:zS X r)(he:PE X e te)(p:PO X lo tl)(m:PO X hi th):PE X (.Subscript e (.Slice lo hi Y p2) pos) (IC r te tl th):=by
 intro ag s σ H Q I h;refine Subscript_ (eJ (he ag s σ H _ I h) λv B ⟨x,H1,w,o,i⟩=>?_);refine wpAny_Slice (eJ (p ag B σ H1 _ w i) λd g ⟨l,H2,n,pl,A⟩=>eJ (m ag g σ H2 _ n A) λc a ⟨u,f,y,D,t⟩=>?_);rw[evalPart_none];refine wP1 ?_;have j:Inv X ag σ f {a with heap:=a.heap.push {cls:=.type "slice",data:=.fields #[d,c,.none]}}:=y.kept (t':=a.toks) λb E q=>hP1 _ q;obtain⟨T,id,z,k,C⟩:=hr ag {a with heap:=a.heap.push {cls:=.type "slice",data:=.fields #[d,c,.none]}} σ f x v d c l u a.heap.objs.size Q j o (Heap.IsSliceOf.new ..) pl D t;show cW (model X.prog X.w) X.A (subscriptTail e (.Slice lo hi Y p2) v (.ref a.heap.objs.size)) (EP X ag σ Q) X.xe {a with heap:=a.heap.push {cls:=.type "slice",data:=.fields #[d,c,.none]}};exact tail_any (ops:=[.ref a.heap.objs.size,v]) k z C (by with_unfolding_all rfl)
noncomputable def r9(xs:List V)(lo hi:Option Int):List V:=(xs.drop (HT.sIx xs.length 0 lo)).take (HT.sIx xs.length xs.length hi-HT.sIx xs.length 0 lo)
theorem lm(xs:List V)(lo hi:Option Int):(r9 xs lo hi).length<=xs.length:=by
 unfold r9;rw[aP,List.length_drop];lia
def Hr(K:Fg1):V->Option Int->Option Int->Hp->VK->Prop:=λx lo hi H Q=>∃a xs,x = .ref a/\iI K H a xs /\
 ¬ (HT.sIx xs.length 0 lo=0/\HT.sIx xs.length xs.length hi=xs.length) /\ ∀p,H p=Y->Q (.ref p) (upd H p (.tup (r9 xs lo hi)))
theorem CG:zS X (Hr X.K):=by
 intro ag s σ H x v t n lo hi m Q I l i pl k h;obtain⟨a,xs,rfl,j,g,q⟩:=h;cases l;obtain⟨d,r,f,e⟩:=I.tuple j;have c:d.toArray.size=xs.length:=by rw[sT1];exact r.length.symm
 refine⟨"tuple",_,PyProof.Rows.slot_tuple_getitem.lookup,f.typeIs,?_⟩;refine HT.kk f i pl k (by rw[c];exact g) ?_ (by rw[c];exact e);rw[c];refine⟨.ref s.heap.objs.size,_,I.laid (t':=s.toks) (o:=.tup (r9 xs lo hi)) (λb p q=>hP1 _ q) (nR1 _) ?_,O,q _ (I.hok.fresh (nR1 _))⟩;exact⟨aC (lm xs lo hi) e,_,(r.drop (HT.sIx xs.length 0 lo)).take (HT.sIx xs.length xs.length hi-HT.sIx xs.length 0 lo),IsTup.new _ _⟩
noncomputable def Fp(K:Fg1):R2:=λx y H Q=>∃a b xs ys,x = .ref a/\y = .ref b/\iI K H a xs/\iI K H b ys/\xs≠[]/\xs.length+ys.length<=cV /\
 (ys=[]->Q (.ref a) H)/\(ys≠[] -> ∀p,H p=Y->Q (.ref p) (upd H p (.tup (xs++ys))))
theorem dG.nil_iff{xs:List V}{a:List cN}(r:dG xs a):a=[]↔xs=[]:=by
 cases r with
 |nil=>simp
 |cons _ _=>simp
theorem AR:fj X (binaryOp .Add) (Fp X.K):=by
 intro ag s σ H x y v u Q I m p h;obtain⟨a,b,xs,ys,rfl,rfl,n,g,l,e,k,i⟩:=h;cases m;cases p;obtain⟨f,c,j,_⟩:=I.tuple n;obtain⟨d,r2,p2,_⟩:=I.tuple g;refine HT.BI j p2 (λz=>l (c.nil_iff.mp z)) (λz=>⟨.ref a,H,I,O,k (r2.nil_iff.mp z)⟩) (λz=>?_) (by rw[<- c.length,<- r2.length];exact e);refine⟨.ref s.heap.objs.size,_,I.laid (t':=s.toks) (o:=.tup (xs++ys)) (λb r q=>hP1 _ q) (nR1 _) ?_,O,i (λw=>z (r2.nil_iff.mpr w)) _ (I.hok.fresh (nR1 _))⟩;exact⟨by rw[lA1];exact e,_,c.append r2,IsTup.new _ _⟩
end
end L2
namespace L2
open PySem PySem.Spec PyProof.Rows
noncomputable def tP(n:Nat)(i:Int):Option Nat:=if 0<=i then(if i<n then Z i.toNat else Y)else if-(n:Int)<=i then Z (i+n).toNat else Y
noncomputable def sB{α:Type}(xs:List α)(i:Int):Option α:=(tP xs.length i).bind λj=>xs[j]?
theorem pF{n:Nat}{i:Int}{j:Nat}(h:tP n i=Z j):seqIndex? i n=Z j/\j<n /\ -(n:Int)<=i/\i<n:=by
 unfold tP at h;by_cases a:0<=i
 ·rw[ak a]at h;by_cases h1:i<n
  ·rw[ak h1]at h;have e:i.toNat=j:=Option.some.inj h;exact⟨by rw[seqIndex_of a h1,e],by lia,by lia,h1⟩
  ·rw[aj h1]at h;cases h
 ·rw[aj a]at h;by_cases h1: -(n:Int)<=i
  ·rw[ak h1]at h;have e:(i+n).toNat=j:=Option.some.inj h;exact⟨by rw[seqIndex_neg (by lia) h1,e],by lia,h1,by lia⟩
  ·rw[aj h1]at h;cases h
theorem vx{α:Type}{xs:List α}{i:Int}{v:α}(h:sB xs i=Z v):∃j,seqIndex? i xs.length=Z j/\xs[j]?=Z v/\j<xs.length /\ -(xs.length:Int)<=i/\i<xs.length:=by
 unfold sB at h;cases e:tP xs.length i with
 |none=>rw[e]at h;cases h
 |some j=>
  rw[e]at h;obtain⟨h1,h2,b,a⟩:=pF e;exact⟨j,h1,h,h2,b,a⟩
def l5(b:Expr):Prop:=∀o i,subscripted b J o i=operate [o,i] (getItem o i)
def Cm(X:Cx)(r:R2):Prop:=
 ∀(value slice:Expr) (ag:List (cP×Obj)) (s:cO) (σ:St) (H:Hp) (x y:V) (v u:cN) (Q:VK),Inv X ag σ H s->dy x v->dy y u->r x y H Q ->
  subscripted slice J v u=operate [v,u] (getItem v u)->cW (model X.prog X.w) X.A (subscriptTail value slice v u) (EP X ag σ Q) X.xe s
def EQ(X:Cx)(id:String)(r:V->List V->Hp->VK->Prop):Prop:=
 ∀(ag:List (cP×Obj)) (s:cO) (σ:St) (H:Hp) (x:V) (xs:List V) (v:cN) (us:List cN) (Q:VK),Inv X ag σ H s->dy x v->dG xs us->r x xs H Q ->
  cW (model X.prog X.w) X.A (call (.builtin id) (v::us)) (EP X ag σ Q) X.xe s
section
variable{X:Cx}{a b:Expr}{ta tb:TE}{pos:Pos}
theorem Fw{r:R2}(hr:Cm X r)(ha:PE X a ta)(hb:PE X b tb)(hs:l5 b):PE X (.Subscript a b pos) (E6 r ta tb):=by
 intro ag s σ H Q I h;exact Subscript_ (Eo ha hb I h λv u c x y H2 e f d q=>hr a b ag c σ H2 x y v u Q e f d q (hs _ _))
noncomputable def Hu(K:Fg1):R2:=λx y H Q=>∃p xs i v,x = .ref p/\y = .int i/\lA K H p xs/\sB xs i=Z v/\Q v H
noncomputable def Ht(K:Fg1):R2:=λx y H Q=>∃p xs i v,x = .ref p/\y = .int i/\iI K H p xs/\sB xs i=Z v/\Q v H
theorem Bl:Cm X (Hu X.K):=by
 intro value e ag s σ H x y v u Q I B C h g;obtain⟨p,xs,i,z,rfl,rfl,A,m,q⟩:=h;cases B;obtain⟨t,rfl⟩:=C;obtain⟨b,r,pl,F⟩:=I.list A;obtain⟨j,h1,h2,E,n,l⟩:=vx m;obtain⟨w,k,d⟩:=r.get h2;have o:=r.length;have D:=mX;have a:EP X ag σ Q w s:=⟨z,H,I,d,q⟩;by_cases f:0<=i
 ·have c:i.toNat=j:=by
   rw[seqIndex_of f l]at h1;exact Option.some.inj h1
  exact item_listR pl.isList f (by lia) (by rw[c];simpa using k) a g
 ·have c:(i+(b.toArray.size:Int)).toNat=j:=by
   rw[seqIndex_neg (by lia) n]at h1;rw[sT1,<- o];exact Option.some.inj h1
  exact subscriptTail_builtinR (x:=w) pl.isList.typeIs slot_list_getitem.lookup
   (wpAny_getItem_list_neg (Q:=λr s'=>r=w/\EP X ag σ Q r s') pl.isList (by lia) (by rw[sT1]<;>lia) (by lia) (by rw[c];simpa using k) ⟨O,a⟩) g
theorem D7:Cm X (Ht X.K):=by
 intro value c ag s σ H x y v u Q I m n h g;obtain⟨p,xs,i,z,rfl,rfl,l,e,q⟩:=h;cases m;obtain⟨t,rfl⟩:=n;obtain⟨d,r,pl,D⟩:=I.tuple l;obtain⟨j,h1,h2,B,C,o⟩:=vx e;obtain⟨w,k,b⟩:=r.get h2;have f:=r.length;have A:=mX;have a:EP X ag σ Q w s:=⟨z,H,I,b,q⟩;exact subscriptTail_builtinR (x:=w) pl.typeIs slot_tuple_getitem.lookup
  (getItem_tuple (j:=j) (Q:=λr s'=>r=w/\EP X ag σ Q r s') pl (by lia) (by lia) (by rw[sT1,<- f];exact h1) (by simpa using k) ⟨O,a⟩) g
theorem tJ(its:List cN)(n j:Nat)(u:cN):Obj.mapSeq (·.setIfInBounds j u) {cls:=.type "list",data:=.seq its.toArray n}={cls:=.type "list",data:=.seq (its.set j u).toArray n}:=by
 simp[Obj.mapSeq]
theorem Inv.lst{ag:List (cP×Obj)}{σ:St}{H:Hp}{s:cO}{p:cP}{xs:List V}(I:Inv X ag σ H s)(h:H p=some (.lst xs)):
  ∃(its:List cN) (n:Nat),dG xs its/\s.heap.get? p=Z {cls:=.type "list",data:=.seq its.toArray n}/\xs.length<=cV:=by
 obtain⟨z,its,n,r,e⟩:=I.hok p _ h;exact⟨its,n,r,e,z⟩
theorem Inv.lstUpd {ag:List (cP×Obj)}{σ:St}{H:Hp}{s:cO}{p:cP}{xs ys:List V}{its its':List cN}{n n':Nat}{f:Obj->Obj}(I:Inv X ag σ H s)(h:H p=some (.lst xs))
  (ho:s.heap.get? p=Z {cls:=.type "list",data:=.seq its.toArray n}) (hf:f {cls:=.type "list",data:=.seq its.toArray n}={cls:=.type "list",data:=.seq its'.toArray n'}) (r:dG ys its') (c:ys.length<=cV) (t:Nat):
  Inv X ag σ (upd H p (.lst ys)) {s with heap:=s.heap.update p f,toks:=t}:=by
 have e:(s.heap.update p f).get? p=Z {cls:=.type "list",data:=.seq its'.toArray n'}:=by
  rw[hW1 f ho (by rw[hf]<;>rfl),hf]
 refine I.write (x:=p) (e:=p) (by rw[h];trivial) (.inl O) (λb u a q=>(Heap.get?_update_other _ _ (Ne.symm a)).trans q) ⟨_,e⟩ ?_;exact⟨c,its',n',r,e⟩
def Fn:V->V->V->Hp->(Hp->Prop)->Prop:=λo i v H Q=>∃p xs k j,o = .ref p/\i = .int k/\H p=Z (.lst xs)/\tP xs.length k=Z j/\Q (upd H p (.lst (xs.set j v)))
theorem xH:ug X Fn:=by
 intro ag s σ H o i v C D u Q I x A w h;obtain⟨p,xs,k,j,rfl,rfl,l,z,q⟩:=h;cases x;obtain⟨t,rfl⟩:=A;obtain⟨a,n,r,d,y⟩:=I.lst l;obtain⟨h1,h2,g,e⟩:=pF z;have b:=r.length;have B:=mX;have m:Inv X ag σ (upd H p (.lst (xs.set j v))) {s with heap:=s.heap.update p (Obj.mapSeq (·.setIfInBounds j u))}:=
  I.lstUpd l d (tJ a n j u) (r.set w j) (by rw[aT];exact y) s.toks
 by_cases f:0<=k
 ·have c:k.toNat=j:=by
   rw[seqIndex_of f e]at h1;exact Option.some.inj h1
  exact PySem.W.ki_setAt d f (by lia) (by rw[sT1,<- b];exact e) (by rw[c];exact⟨_,m,q⟩)
 ·have c:(k+(a.toArray.size:Int)).toNat=j:=by
   rw[seqIndex_neg (by lia) g]at h1;rw[sT1,<- b];exact Option.some.inj h1
  exact PySem.W.ki_setBack d (by lia) (by rw[sT1,<- b];exact g) (by lia) (by rw[c];exact⟨_,m,q⟩)
theorem pf(lo hi:Option Int)(n:Nat):(sliceBounds lo hi Y n).1=((HT.sIx n 0 lo:Nat):Int)/\(sliceBounds lo hi Y n).2.1=((HT.sIx n n hi:Nat):Int)/\(sliceBounds lo hi Y n).2.2=1:=by
 refine⟨?_,?_,O⟩
 ·cases lo with
  |none=>simp[sliceBounds,HT.sIx]
  |some i=>
   simp only[sliceBounds,HT.sIx,Option.getD_none,show(1:Int)>0 by decide,if_true];by_cases h:i<0
   ·simp only[h,if_true]<;>lia
   ·simp only[h,if_false]<;>lia
 ·cases hi with
  |none=>simp[sliceBounds,HT.sIx]
  |some i=>
   simp only[sliceBounds,HT.sIx,Option.getD_none,show(1:Int)>0 by decide,if_true];by_cases h:i<0
   ·simp only[h,if_true]<;>lia
   ·simp only[h,if_false]<;>lia
theorem nB(its:List cN)(lo hi:Option Int):slicePick its.toArray lo hi Y=((its.drop (HT.sIx its.length 0 lo)).take (HT.sIx its.length its.length hi-HT.sIx its.length 0 lo)).toArray:=by
 obtain⟨h1,h2,a⟩:=pf lo hi its.toArray.size;unfold slicePick;rw[h1,h2,a];simp only[sliceRange_one,pick_run,sT1]<;>rfl
def Hs(K:Fg1):V->Option Int->Option Int->Hp->VK->Prop:=λx lo hi H Q=>∃a xs,x = .ref a/\lA K H a xs /\ ∀p,H p=Y->Q (.ref p) (upd H p (.lst (r9 xs lo hi)))
theorem Ag:zS X (Hs X.K):=by
 intro ag s σ H x v p m lo hi l Q I k f pl i h;obtain⟨a,xs,rfl,g,q⟩:=h;cases k;obtain⟨e,r,d,j⟩:=I.list g;have c:=r.length;refine⟨"list",_,slot_list_getitem.lookup,d.isList.typeIs,?_⟩;refine wpAny_getItem_list_slice d.isList f pl i .none (by simp) ?_ (by rw[sT1]<;>lia);rw[nB,<- c];refine⟨.ref s.heap.objs.size,_,I.laid (t':=s.toks) (o:=.lst (r9 xs lo hi)) (λb n q=>hP1 _ q) (nR1 _) ?_,O,q _ (I.hok.fresh (nR1 _))⟩;exact⟨aC (lm xs lo hi) j,_,0,(r.drop (HT.sIx xs.length 0 lo)).take (HT.sIx xs.length xs.length hi-HT.sIx xs.length 0 lo),hS1 _ O⟩
noncomputable def jB:V->Bool
 | .non=>M
 | .bl _=>M
 | .int _=>M
 | .str _=>M
 |_=>J
noncomputable def sA:V->V->Bool
 | .non,.non=>M
 | .bl a,.bl b=>a == b
 | .bl a,.int b=>(if a then 1 else 0) == b
 | .int a,.bl b=>a == (if b then 1 else 0)
 | .int a,.int b=>a == b
 | .str a,.str b=>a == b
 |_,_=>J
theorem jO{A:cR}{s:cO}{y x:V}{u v:cN}(f:dy y u)(c:dy x v)(g:jB y=M)(e:jB x=M):SeqAt.EqAt A s u v (sA y x):=by
 cases y with
 |non=>
  cases f;cases x with
  |non=>cases c;exact SeqAt.EqAt.same _
  |bl b=>cases c;exact SeqAt.EqAt.none_bool b
  |int b=>obtain⟨t,rfl⟩:=c;exact SeqAt.EqAt.none_int b t
  |str b=>obtain⟨t,rfl⟩:=c;exact SeqAt.EqAt.none_str b t
  |_=>exact absurd (show J=M from e) aJ
 |bl a=>
  cases f;cases x with
  |non=>cases c;exact SeqAt.EqAt.bool_none a
  |bl b=>cases c;exact SeqAt.EqAt.bool_bool a b
  |int b=>obtain⟨t,rfl⟩:=c;exact SeqAt.EqAt.bool_int a b t
  |str b=>obtain⟨t,rfl⟩:=c;exact SeqAt.EqAt.bool_str a b t
  |_=>exact absurd (show J=M from e) aJ
 |int a=>
  obtain⟨d,rfl⟩:=f;cases x with
  |non=>cases c;exact SeqAt.EqAt.int_none a d
  |bl b=>cases c;exact SeqAt.EqAt.int_bool a d b
  |int b=>obtain⟨t,rfl⟩:=c;exact SeqAt.EqAt.int_int a d b t
  |str b=>obtain⟨t,rfl⟩:=c;exact SeqAt.EqAt.int_str a d b t
  |_=>exact absurd (show J=M from e) aJ
 |str a=>
  obtain⟨d,rfl⟩:=f;cases x with
  |non=>cases c;exact SeqAt.EqAt.str_none a d
  |bl b=>cases c;exact SeqAt.EqAt.str_bool a d b
  |int b=>obtain⟨t,rfl⟩:=c;exact SeqAt.EqAt.str_int a d b t
  |str b=>obtain⟨t,rfl⟩:=c;exact SeqAt.EqAt.str_str a d b t
  |_=>exact absurd (show J=M from e) aJ
 |_=>exact absurd (show J=M from g) aJ
theorem pT:eG X (.builtin "len") (λxs H Q=>∃p ys,xs=[.ref p]/\(lA X.K H p ys\/iI X.K H p ys)/\Q (.int ys.length) H):=by
 intro ag s σ H xs i Q I r h;obtain⟨p,ys,rfl,b,q⟩:=h;obtain⟨u,rfl,f⟩:=gM r;cases f;have g:=mX;rcases b with b|b
 ·obtain⟨c,d,pl,e⟩:=I.list b;have a:=d.length;exact Calls.call_len_list pl.isList (by simp only[sT1]<;>lia) ⟨.int ys.length,H,I.tok _,⟨s.toks+1,by rw[sT1,a]⟩,q⟩
 ·obtain⟨c,d,pl,e⟩:=I.tuple b;have a:=d.length;exact len_tuple pl (by simp only[sT1]<;>lia) ⟨.int ys.length,H,I.tok _,⟨s.toks+1,by rw[sT1,a]⟩,q⟩
theorem pS:eG X (.builtin "len") (λxs H Q=>∃z,xs=[.str z]/\z.length<=cV/\Q (.int z.length) H):=by
 intro ag s σ H xs c Q I r h;obtain⟨z,rfl,a,q⟩:=h;obtain⟨u,rfl,t,rfl⟩:=gM r;have b:=mX;exact len_str (by lia) ⟨.int z.length,H,I.tok _,⟨_,O⟩,q⟩
theorem pR:eG X (.type "list") (λxs H Q=>∃p ys,xs=[.ref p]/\(lA X.K H p ys\/iI X.K H p ys) /\ ∀l,H l=Y->Q (.ref l) (upd H l (.lst ys))):=by
 intro ag s σ H xs t Q I r h;obtain ⟨p,ys,rfl,i,q⟩:=h;obtain ⟨u,rfl,m⟩:=gM r;cases m;have d:∀ (a:List cN),dG ys a->ys.length<=cV -> ∀ (h':cX) (c':Nat),(∀ b o',s.heap.get? b=some o'->h'.get? b=some o') ->
   h'.get? s.heap.objs.size=Z {cls:=.type "list",dict:=Y,data:=.seq a.toArray c',slots:= #[]}->EP X ag σ Q (.ref s.heap.objs.size) {s with heap:=h'}:=λa c g h' c' kp e=>
  ⟨.ref s.heap.objs.size,_,I.laid (t':=s.toks) kp (nR1 _) (show ev X.prog X.w _ h' _ (.lst ys)from⟨g,a,c',c,e⟩),O,q _ (I.hok.fresh (nR1 _))⟩
 rcases i with i|i
 ·obtain⟨a,c,pl,g⟩:=I.list i;have f:=c.length;obtain⟨o,k,hc,n,j⟩:=pl.isList;exact call_list_seq p (.inl O) k hc j (λh' c' kp e=>d a c g h' c' kp e) (by simp only[sT1]<;>lia)
 ·obtain⟨a,c,pl,g⟩:=I.tuple i;have f:=c.length;obtain⟨o,k,hc,n,j⟩:=pl;exact call_list_seq p (.inr O) k hc j (λh' c' kp e=>d a c g h' c' kp e) (by simp only[sT1]<;>lia)
theorem nK:eG X (.type "tuple") (λxs H Q=>∃p ys,xs=[.ref p]/\((lA X.K H p ys /\ ∀l,H l=Y->Q (.ref l) (upd H l (.tup ys)))\/(iI X.K H p ys/\Q (.ref p) H))):=by
 intro ag s σ H xs m Q I r h;obtain⟨p,ys,rfl,h⟩:=h;obtain⟨u,rfl,j⟩:=gM r;cases j;rcases h with⟨d,q⟩|⟨d,q⟩
 ·obtain ⟨a,c,pl,i⟩:=I.list d;have f:=c.length;refine call_tuple_list pl.isList (fun h' kp=>?_) (by simp only [sT1]<;>lia);have g:Inv X ag σ H {s with heap:=h'}:=I.kept (t':=s.toks) kp;have k:Inv X ag σ (upd H h'.objs.size (.tup ys)) {s with heap:=h'.push {cls:=.type "tuple",data:=.seq a.toArray}}:=
   g.laid (t':=s.toks) (λb o e=>hP1 _ e) (nR1 _) (show ev X.prog X.w _ _ _ (.tup ys)from⟨i,a,c,IsTup.new _ _⟩)
  exact⟨.ref h'.objs.size,_,k,O,q _ (g.hok.fresh (nR1 _))⟩
 ·obtain⟨a,c,pl,i⟩:=I.tuple d;exact call_tuple_same pl ⟨.ref p,H,I,O,q⟩
def HY(K:Fg1)(T:String)(x:V)(H:Hp):Prop:=match x with
 | .str _=>T="str"
 | .int _=>T="int"
 | .ref p=>(T="list" /\ ∃ xs,lA K H p xs)\/(T="tuple" /\ ∃ o,K.lookup p=some o/\o.cls = .type "tuple"/\o.dict=none) \/
   (T="dict"/\((∃kvs,H p=Z (.dK kvs)) \/ ∃kvs,H p=Z (.dT kvs)))\/(T="set" /\ ∃S n,H p=Z (.set S n))
 |_=>False
theorem Cy{ag:List (cP×Obj)}{σ:St}{H:Hp}{s:cO}{T:String}{x:V}{v:cN}(I:Inv X ag σ H s)(r:dy x v)(ty:HY X.K T x H):
  s.TypeIs v T /\ ∀a,v = .ref a -> ∃g,s.heap.get? a=Z g/\g.dict=Y:=by
 cases x with
 |str z=>
  obtain⟨t,rfl⟩:=r;cases(show T="str" from ty);exact⟨typeIs_str s z t,λ_ e=>nomatch e⟩
 |int i=>
  obtain⟨t,rfl⟩:=r;cases(show T="int" from ty);exact⟨typeIs_int s i t,λ_ e=>nomatch e⟩
 |ref p=>
  cases r;rcases ty with⟨rfl,xs,j⟩|⟨rfl,o,b,hc,f⟩|⟨rfl,b⟩|⟨rfl,S,n,b⟩
  ·obtain⟨h,_,pl,_⟩:=I.list j;refine⟨pl.isList.typeIs,λa e=>?_⟩;cases e;obtain⟨o,n,e,c,f,_⟩:=pl;exact⟨o,e,f⟩
  ·refine⟨⟨o,I.kIn p o b,hc⟩,λa e=>?_⟩;cases e;exact⟨o,I.kIn _ o b,f⟩
  ·have z:∃ o,s.heap.get? p=some o/\o.ExactDict:=by
    rcases b with⟨kvs,b⟩|⟨kvs,b⟩
    ·obtain⟨_,_,_,_,o,_,_,e,ex,_⟩:=I.hok p _ b;exact⟨o,e,ex⟩
    ·obtain⟨_,_,_,_,o,_,_,e,ex,_⟩:=I.hok p _ b;exact⟨o,e,ex⟩
   obtain⟨o,e,ex⟩:=z;refine⟨⟨o,e,ex.1⟩,λa d=>?_⟩;cases d;exact⟨o,e,ex.2.1⟩
  ·obtain⟨o,_,_,_,e,ex,_⟩:=I.hok p _ b;refine⟨⟨o,e,ex.1⟩,λa d=>?_⟩;cases d;exact⟨o,e,ex.2.1⟩
 |_=>exact False.elim ty
def IG(K:Fg1)(T:String)(r:V->List V->Hp->VK->Prop)(to:TE)(t:TA):TE:=fun σ H Q=>to σ H λx H1=>HY K T x H1/\t σ H1 λxs H2=>r x xs H2 Q
variable{o e:Expr}{es:List Expr}{to:TE}{t:TA}{name:Str}{apos cpos:Pos}{T id:String}{r:V->List V->Hp->VK->Prop}
theorem Fx (k:PlainAttrs T)(slot:Slot T name id)(hty:typeOf (.builtin id)=pure (.type "method_descriptor"))(hm:EQ X id r)(ho:PE X o to)(ha:PA X (e::es) t)
  (hbase:attributeBase o name X.env (eval o X.env)=eval o X.env:=by rfl)
  (hfew:((backTo cpos (cU (e::es) X.env)).all (λx=> !x.1)&&(backToKw cpos (keywordEach [] X.env)).all (λx=>x.1.isSome)
   && decide ((e::es).length+([]:List Keyword).length+(if([]:List Keyword).isEmpty then 0 else 1)<30))=M:=by rfl)
  (hline:(apos.endLine == cpos.line)=M:=by rfl) (hs:cU (e::es) X.env=(J,eval e X.env)::cU es X.env:=by rfl) (hplain:(backTo cpos (cU es X.env)).any (·.1)=J:=by rfl):
  PE X (.Call (.Attribute o name apos) (e::es) [] cpos) (IG X.K T r to t):=by
 intro ag s σ H Q I h;refine wpAny_Call_method_late hbase hfew hline O (eJ (ho ag s σ H _ I h) λv i ⟨x,H1,c,b,ty,j⟩=>?_);obtain⟨h1,h2⟩:=Cy c b ty;refine⟨T,id,k,slot,hty,h1,h2,?_⟩;have a:=ha cpos ag i σ H1 _ c j;rw[hs]at a ⊢;refine Calls.callWith_builtin (by show(J||(backTo cpos (cU es X.env)).any (·.1))=J;rw[hplain]<;>rfl) (Calls.evalArgs_plain ?_);exact eJ a λg d ⟨vs,H2,l,r2,f⟩=>hm ag d σ H2 x vs v g Q l b r2 f
end
end L2
namespace L2
open PySem PySem.Spec PyProof.Rows
def Iv(X:Cx)(id:String)(r:V->List V->Hp->VK->Prop):Prop:=
 ∀(ag:List (cP×Obj)) (s:cO) (σ:St) (H:Hp) (x:V) (xs:List V) (v:cN) (us:List cN) (Q:VK),Inv X ag σ H s->dy x v->dG xs us->r x xs H Q ->
  cW (model X.prog X.w) X.A (call (.builtin id) (v::us)) (EP X ag σ Q) X.xe s
theorem dG.one:∀{x:V} {a:List cN},dG [x] a -> ∃u,a=[u]/\dy x u:=by
 intro x a h;cases h with
 |cons r t=>cases t;exact⟨_,O,r⟩
theorem dG.eraseIdx:∀{xs:List V} {a:List cN} (i:Nat),dG xs a->dG (xs.eraseIdx i) (a.eraseIdx i)
 |_,_,_,.nil=>.nil
 |_,_,0,.cons _ t=>t
 |_,_,i+1,.cons r t=>.cons r (dG.eraseIdx i t)
theorem dG.reverse{xs:List V}{a:List cN}(h:dG xs a):dG xs.reverse a.reverse:=by
 induction h with
 |nil=>exact .nil
 |cons r t ih=>rw[aU,aU];exact dG.append ih (.cons r .nil)
theorem dG.rep{xs:List V}{a:List cN}(h:dG xs a):∀k:Nat,dG (aN k xs).flatten (aN k a).flatten
 |0=>.nil
 |k+1=>by
  rw[aV,aV,aW,aW];exact dG.append h (dG.rep h k)
theorem ol{α:Type}:∀(l:List α) (i:Nat),(l.eraseIdx i).length<=l.length
 |[],_=>nR1 _
 |_::_,0=>aX _
 |_::r,i+1=>Nat.succ_le_succ (ol r i)
theorem oA(its:List cN):∀ (k:Nat) (acc:List cN),
  List.foldl (λc b=>c++b) acc.toArray (aN k its.toArray)=(acc++(aN k its).flatten).toArray
 |0,acc=>by simp
 |k+1,acc=>by
  have e:acc.toArray++its.toArray=(acc++its).toArray:=by simp
  have a:(acc++its)++(aN k its).flatten=acc++(aN (k+1) its).flatten:=by
   rw[aV,aW,aY]
  rw[<- a,<- oA its k (acc++its),<- e,aV,aZ]
section
variable{X:Cx}{ag:List (cP×Obj)}{σ:St}{H:Hp}{s:cO}{l b:cP}{xs ys zs:List V}
theorem Inv.lset {its its':List cN}{n:Nat}{f:Array cN->Array cN}{t':Nat}(I:Inv X ag σ H s)(d:H l=some (.lst xs))
  (e:s.heap.get? l=Z {cls:=.type "list",data:=.seq its.toArray n}) (hf:f its.toArray=its'.toArray) (hv:dG ys its') (b:ys.length<=cV):
  Inv X ag σ (upd H l (.lst ys)) {s with heap:=s.heap.update l (Obj.mapSeq f),toks:=t'}:=by
 have q:=PySem.IsL.update e f;rw[hf]at q;refine I.write (x:=l) (e:=l) (by rw[d];exact trivial) (.inl O) (λg u a c=>(Heap.get?_update_other s.heap (Obj.mapSeq f) (Ne.symm a)).trans c) ⟨_,q⟩ ?_;exact⟨b,its',_,hv,q⟩
theorem Inv.lnew{its:List cN}{t':Nat}(I:Inv X ag σ H s)(hv:dG ys its)(a:ys.length<=cV):
  Inv X ag σ (upd H s.heap.objs.size (.lst ys)) {s with heap:=s.heap.push {cls:=.type "list",data:=.seq its.toArray},toks:=t'}:=
 I.laid (λ_ _ q=>hP1 _ q) (nR1 _) ⟨a,its,0,hv,hS1 _ O⟩
theorem Inv.fresh(I:Inv X ag σ H s):H s.heap.objs.size=Y:=I.hok.fresh (nR1 _)
theorem Inv.lstM(I:Inv X ag σ H s)(a:H l=Z (.lst xs)):xs.length<=cV /\ ∃(its:List cN) (n:Nat),dG xs its/\xs.length=its.length/\s.heap.get? l=Z {cls:=.type "list",data:=.seq its.toArray n}:=by
 obtain⟨z,its,n,r,e⟩:=I.hok l _ a;exact⟨z,its,n,r,r.length,e⟩
end
section
variable{X:Cx}
def Ao:V->List V->Hp->VK->Prop:=λx vs H Q=>∃l xs y,x = .ref l/\vs=[y]/\H l=Z (.lst xs)/\xs.length<cV/\Q .non (upd H l (.lst (xs++[y])))
theorem oi:Iv X "list.append" Ao:=by
 intro ag s σ H x vs v g Q I f d h;obtain⟨l,xs,y,rfl,rfl,b,j,q⟩:=h;cases f;obtain⟨u,rfl,c⟩:=d.one;obtain⟨z,a,n,r,i,e⟩:=I.lstM b;refine call_meets F.slot_list_append ⟨_,e,O⟩ F.entry_list_append (F.args_list_append_2 _ _) (PySem.list_append l a.toArray n u (by rw[sT1];lia)) ⟨e,?_⟩;refine⟨.non,_,I.lset (its':=a++[u]) b e (by simp) (r.append (.cons c .nil)) ?_,O,q⟩;rw[lA1,a0];lia
def CP:V->List V->Hp->VK->Prop:=λx vs H Q=>∃l xs i k y,x = .ref l/\vs=[.int i]/\H l=Z (.lst xs) /\ -(2^63)<=i/\i<2^63/\seqIndex? i xs.length=Z k/\xs[k]?=Z y/\Q y (upd H l (.lst (xs.eraseIdx k)))
theorem yu:Iv X "list.pop" CP:=by
 intro ag s σ H x vs v A Q I p g h;obtain⟨l,xs,i,k,y,rfl,rfl,c,h1,h2,o,f,q⟩:=h;cases p;obtain⟨u,rfl,d⟩:=g.one;obtain⟨t,rfl⟩:=d;obtain⟨z,a,n,r,m,e⟩:=I.lstM c;obtain⟨w,j,b⟩:=r.get f;refine call_meets F.slot_list_pop ⟨_,e,O⟩ F.entry_list_pop (F.args_list_pop_2 _ _)
  (MeetsSeq.list_pop_at l a.toArray n i t k w (fitsIndex_both h1 h2) (by rw[sT1,<- m];exact o) (by rw[<- aT1];exact j) (by rw[sT1];lia)) ⟨e,?_⟩
 refine⟨y,_,I.lset (its':=a.eraseIdx k) c e ?_ (r.eraseIdx k) ?_,b,q⟩
 ·show a.toArray.eraseIdxIfInBounds k=(a.eraseIdx k).toArray;rw[List.eraseIdxIfInBounds_toArray]
 ·have:=ol xs k;lia
noncomputable def Hv:R2:=λx y H Q=>∃l b xs zs,x = .ref l/\y = .ref b/\H l=Z (.lst xs)/\H b=Z (.lst zs)/\xs.length+zs.length<=cV /\ ∀p,H p=Y->Q (.ref p) (upd H p (.lst (xs++zs)))
theorem Do:fj X (binaryOp .Add) Hv:=by
 intro ag s σ H x y v u Q I g j h;obtain⟨l,b,xs,zs,rfl,rfl,k,f,w,q⟩:=h;cases g;cases j;obtain⟨z,c,n,r,o,e⟩:=I.lstM k;obtain⟨t,a,p,r2,m,i⟩:=I.lstM f;refine PySem.P.add_list e i ?_ (by rw[sT1,sT1];lia);have d:c.toArray++a.toArray=(c++a).toArray:=by simp
 rw[d];exact⟨.ref _,_,I.lnew (t':=s.toks) (r.append r2) (by rw[lA1];lia),O,q _ I.fresh⟩
theorem uS{α:Type}(xs:List α)(k:Nat):(aN k xs).flatten.length=k*xs.length:=by
 induction k with
 |zero=>simp
 |succ k ih=>rw[aV,aW,lA1,ih,Nat.succ_mul,Nat.add_comm]
end
section
variable{prog:cQ}{w:cS}{A:cR}{E:cN->cO->Prop}{s:cO}
end
section
variable{X:Cx}
end
end L2
namespace Att
open PySem PySem.W PySem.Calls PyProof.Rows
theorem lG{P:Params}{h:cX}:∀(ns:List Int) (vs:List cN),WellAll P h vs (ns.map WData.int)->IntsAre vs ns:=by
 intro ns
 induction ns with
 |nil=>
  intro vs w;rw[bc]at w;cases w;exact .nil
 |cons n ns ih=>
  intro vs w;rw[mP1]at w;cases w with
  |cons a b=>
   cases a;exact .cons _ _ (ih _ b)
theorem vP{l:OpenLaw}{n:Nat}(hn:l.most=some n){P:Params}{h:cX}{args:List WData}{b:List cN}(c:l.row.toRowW.claim.pre args=true)(k:WellAll P h b args):
  ∃a vs ns,b=[Value.ref a]/\args=[WData.list (ns.map WData.int)]/\h.get? a=Z {cls:=.type "list",data:=.seq vs.toArray}/\IntsAre vs ns/\ns.length<=n:=by
 have j:WShape.hasAll [] args [.list .int]=M:=(pre_splitW c).1;have hc:l.pre.holds [] {args:=args}=M:=(pre_splitW c).2;obtain⟨d,r,rfl,h1,h2⟩:=hasAllW_cons j;obtain rfl:=hasAllW_nil h2;obtain⟨xs,rfl,s⟩:=hasW_list h1;obtain⟨ns,rfl⟩:=items_int s;have e:ns.length<=n:=by
  unfold OpenLaw.pre at hc;have i:(WTm.not (.lt (.lit (.int (n:Int))) (.len (.arg 0)))).holds [] {args:=[.list (ns.map .int)]}=M:=by
   have i:=(holds_andW hc).1;rw[hn]at i;exact i
  have g:=condW_of i (w_not (w_lt w_lit (w_len_list (w_arg O))));rw[lM1]at g;refine bd λq=>?_;have p:(n:Int)<((ns.length:Nat):Int):=by omega
  first
   |(rw[ah p]at g;exact absurd g (by decide))
   |(simp at g;omega)
 cases k with
 |cons m o=>
  cases o;cases m with
  |list t f=>exact⟨_,_,ns,O,O,t,lG ns _ f,e⟩
theorem vS(l:OpenLaw)(args:List WData):l.row.toRowW.claim.post args (.bool M) args=M:=
 postW_of (r:=l.row.toRowW) (X:=(M == M))
  (show WShape.has [] (.bool M) .bool=M by first|rfl|decide|simp[WShape.has,WShape.arms,WShape.armsAll])
  (show(WTm.eq .res (.lit (.bool M))).value [] {args:=args,res:=Z (.bool M),after:=args}=Z (.bool (M == M))from w_eq_bool (w_res O) w_lit) O
theorem attach_call {l:OpenLaw}{n:Nat}{q:cQ}{e:List Str}{XP:(Str->Option cN)->cX->Prop}{D:cS->cX->Prop}{d:DefRec}
  (hn:l.most=Z n) (v:d.params.defaults=[])
  (call:∀(w:cS) (c b:cO) (mg t:Str->Option cN) (m:cP) (o:Obj) (x p h:cN) (a:cP) (vs:List cN) (ns:List Int),
   Ground q e [] XP w c mg t b.heap->D w b.heap ->
   b.heap.get? m=Z o->o.data = .func (docDef d.name d.params d.body d.scope x p h)->b.heap.CodeRec p d.name->mg d.name=Z (.ref m) ->
   b.heap.get? a=Z {cls:=.type "list",data:=.seq vs.toArray}->IntsAre vs ns->ns.length<=n->b.gens = #[] ->
   codeAny (model l.prog w) callerA (.call (.ref m) ⟨[.ref a],[]⟩) (λr s'=>r = .ok (.ret (.bool M))/\OldK b.heap s'.heap/\s'.os=b.os/\AllBare s'.gens) b):
  WalkO q e XP D l.row.toRowW d [] (λf vs=>PySem.call f vs):=by
 intro w c b mg t G aq m o x p h N kV ao L u B s am A z as j C E y I;obtain rfl:N = .none:=Dflts.none B v;obtain rfl:kV = .none:=Dflts.noKw B;obtain⟨a,vs,ns,rfl,rfl,i,g,k⟩:=vP hn j y;refine enter_call (codeAny_mono (call w c b mg t m o x p h a vs ns G aq ao (fd_plain L) u s i g k am) λr s' H=>?_);obtain⟨rfl,h2,K,au⟩:=H;exact⟨.inl ⟨.bool M,.bool M,[],O,λ_=>rfl,.bool M,vS l _,λ_=>⟨List.Pairwise.nil,λ_ F=>(nomatch F)⟩⟩,h2,K,au⟩
section
variable{prog:cQ}{w:cS}{A:cR}{E:cN->cO->Prop}{s:cO}{K:Frag}
end
end Att
namespace L2
open PySem PySem.Spec PyProof.Rows
theorem vG:∀{vs:List cN} {ns:List Int},IntsAre vs ns->dG (ns.map V.int) vs:=by
 intro vs ns h
 induction h with
 |nil=>exact .nil
 |cons n t h ih=>exact .cons ⟨t,O⟩ ih
def BW(H:Hp):Prop:=∀b,H b=Y \/ ∃o xs,H b=Z (.frz o (.lst xs))
theorem yO {P:cQ}{w:cS}{K:Fg1}{mg C:Str->Option cN}{CX:wL}{k:Nat}{am a:cP}{fd:cY}{x:Str}{sp:Sp}{s₁:cO}{vs:List cN}{ns:List Int}
  (Q:K.In s₁.heap) (A:s₁.heap.Ns cT mg) (hb:s₁.heap.Ns builtinsNs C) (L:∀x:Str,x≠"__name__"->C x=bootBuiltins x) (j:s₁.heap.NoLimit) (hg:s₁.gens = #[])
  (ha:s₁.heap.get? a=Z {cls:=.type "list",data:=.seq vs.toArray}) (hi:IntsAre vs ns) (au:ns.length<=cV) (hr:fb k callerA)
  (F:∀base:cX,K.In base->base.Ns cT mg->jp P w K mg base CX k am fd [x] sp) (g:∀(s:cO) (u:cN),BindsTo s fd ⟨[u],[]⟩ [(x,u)])
  (D:∀H:Hp,BW H->lA K H a (ns.map V.int)->sp [.ref a] H (λv _=>v = .bl M) λ_ _ _=>False)
  (I:∀H e s',CX [] H s₁ (λ_ _ _=>False) e s'->False):
  codeAny (model P w) callerA (.call (.ref am) ⟨[.ref a],[]⟩) (λr s'=>r = .ok (.ret (.bool M))/\OldK s₁.heap s'.heap/\s'.os=s₁.os/\AllBare s'.gens) s₁:=by
 have S:=vG hi;have l:=hi.length
 -- from an abstract heap in which nothing but the script may be tracked
 have f:∀ H:Hp,BW H->lA K H a (ns.map V.int)->kE P w H s₁.heap->(∀ b,H b≠none->b=a)->(H a≠none->K.lookup a=none) ->
   codeAny (model P w) callerA (.call (.ref am) ⟨[.ref a],[]⟩) (λr s'=>r = .ok (.ret (.bool M))/\OldK s₁.heap s'.heap/\s'.os=s₁.os/\AllBare s'.gens) s₁:=by
  intro H R hS p ao wq;have base_of:∀{b:cP} {o:Obj},s₁.heap.get? b=Z o->H b=Y->(pI s₁.heap H).get? b=Z o:=λe n=>yY e n;have E:∀{b:cP} {o:Obj} {es:Array DictEntry} {ep:Nat},s₁.heap.get? b=Z o->o.data = .dict es ep->H b=Y:=λ{b o es ep} e d=>by
   cases q:H b with
   |none=>rfl
   |some u=>
    have G:b=a:=ao b (by rw[q];simp);subst G;rw[ha]at e;cases e;have d':Data.seq vs.toArray _=Data.dict es ep:=d;cases d'
  have c:∀{b:cP} {m:Str->Option cN},s₁.heap.Ns b m->(pI s₁.heap H).Ns b m:=λ{b m} ⟨o,es,ep,e,d,r⟩=>⟨o,es,ep,base_of e (E e d),d,r⟩;have B:K.In (pI s₁.heap H):=λb o e=>base_of (Q b o e) (by
   cases q:H b with
   |none=>rfl
   |some u=>
    have G:b=a:=ao b (by rw[q];simp);subst G;rw[wq (by rw[q];simp)]at e;cases e)
  have hM:Mod K mg (pI s₁.heap H):=⟨B,c A,⟨C,c hb,L⟩,let ⟨mc,h1,h2⟩:=j;⟨mc,c h1,h2⟩⟩;have e0:BY P w K mg (pI s₁.heap H) callerA [] s₁ H:=⟨O,hM,λb o e=>AU e,Nat.le_of_eq (wh _ _),trivial,λb hb=>absurd (show b∈([]:List cP)from hb) (by simp),p,.of_eq hg⟩;refine codeAny_mono ((F _ B (c A)).run callerA [] s₁ H ⟨[.ref a],[]⟩ [.ref a] [.ref a] _ _ hr e0 (g s₁ (.ref a)) (.cons O .nil) (D H R hS)) λr s' h=>?_;cases r with
  |error e=>exact(I H e s' h).elim
  |ok T=>
   cases T with
   |next=>exact False.elim h
   |brk=>exact False.elim h
   |cont=>exact False.elim h
   |ret u=>
    obtain⟨v,H',os,t,un,i,r',q⟩:=h;have U:v = .bl M:=q;subst U;obtain rfl:u=Value.bool true:=r';refine⟨O,OldK.of_keep λb o e=>?_,os,t⟩;cases q:H b with
    |none=>exact un.keep b o e q (by intro z;exact absurd (show b∈([]:List cP)from z) (by simp)) (by simp)
    |some u=>
     rcases R b with z|⟨X,xs,z⟩
     ·rw[q]at z;cases z
     ·have W:=un.frzs b X _ z;obtain⟨N,_⟩:=p b _ z;obtain⟨aq,_⟩:=i b _ W;rw[e]at N;cases N;exact aq
 cases hk:K.lookup a with
 |some o=>
  -- the script is one of the module's own objects
  have e:=Q a o hk;rw[ha]at e;cases e;refine f (λ_=>Y) (λ_=>.inl O) (.inr ⟨_,vs.toArray,_,hk,O,O,O,by rw[sT1,l];exact au,by simpa using S⟩) (λb u z=>by have y:(Y:Option HO)=Z u:=z;cases y) (λb z=>absurd O z) λz=>absurd O z
 |none=>
  refine f (λb=>if b=a then Z (.frz {cls:=.type "list",data:=.seq vs.toArray} (.lst (ns.map V.int)))else Y) (λb=>?_) (.inl (.inr ⟨{cls:=.type "list",data:=.seq vs.toArray},ak O⟩)) (λb u z=>?_) (λb z=>?_) λ_=>hk
  ·by_cases hb:b=a
   ·exact .inr ⟨_,_,ak hb⟩
   ·exact .inl (aj hb)
  ·by_cases hb:b=a
   ·have y:=(ak hb).symm.trans z;cases y;subst hb;exact⟨ha,by rw[lM1];exact au,vs,_,S,ha⟩
   ·have y:=(aj hb).symm.trans z;cases y
  ·by_cases hb:b=a
   ·exact hb
   ·exact absurd (aj hb) z
end L2
namespace L2
open PySem PySem.Spec PyProof.Rows
theorem z8{l:PySem.W.OpenLaw}{n k:Nat}{q:cQ}{c:List Str}{XP:(Str->Option cN)->cX->Prop}{C:cS->cX->Prop}{d:DefRec}{K:Params->Fg1}{CX:cS->wL}{sp:cS->Sp}{x:Str}(hn:l.most=some n)(r:n<=cV)(y:d.params.defaults=[])(hr:fb k callerA)(L:∀(w:cS) (h:cX),C w h->(K w.params).In h)(F:∀(w:cS) (mg:Str->Option cN) (m:cP) (h:cX),(K w.params).In h->h.Ns cT mg->mg d.name=some (.ref m) ->
   ∃fd:cY,(∀(s:cO) (u:cN),BindsTo s fd ⟨[u],[]⟩ [(x,u)]) /\
    ∀base:cX,(K w.params).In base->base.Ns cT mg->jp l.prog w (K w.params) mg base (CX w) k m fd [x] (sp w))(t:∀(w:cS) (H:Hp) (a:cP) (ns:List Int),ns.length<=n->BW H->lA (K w.params) H a (ns.map V.int)->sp w [.ref a] H (λv _=>v = .bl M) λ_ _ _=>False)(z:∀(w:cS) (H:Hp) (s:cO) (e:cN) (s':cO),CX w [] H s (λ_ _ _=>False) e s'->False):
  PySem.W.WalkO q c XP C l.row.toRowW d [] (λf vs=>PySem.call f vs):=by
 refine Att.attach_call hn y λw A j mg P m o T Q au a vs ns G aq S R E p i g b N=>?_;have B:=L w _ aq;obtain⟨fd,D,I⟩:=F w mg m _ B G.T.g p;exact yO B G.T.g G.T.b G.T.builtins G.T.nolimit N i g (aC b r) hr I D (λH ao am=>t w H a ns b ao am) λH e s'=>z w H j e s'
end L2
namespace L2
open PySem PySem.Spec PyProof.Rows
noncomputable def gY(s:cZ):Arguments:=match s with
 | .FunctionDef _ a _ _ _ _ _ _ _ _=>a
 |_=>{posonlyargs:=[],args:=[],vararg:=Y,kwonlyargs:=[],kw_defaults:=[],kwarg:=Y,defaults:=[]}
noncomputable def eI(s:cZ):List cZ:=match s with
 | .FunctionDef _ _ b _ _ _ _ _ _ _=>b
 |_=>[]
noncomputable def dz(s:cZ):c3:=match s with
 | .FunctionDef _ _ _ _ _ _ sc _ _ _=>sc
 |_=>{kind:=.function,names:=[],isGenerator:=J,isCoroutine:=J}
abbrev sy:wL:=λ_ _ _ _ _ _=>False
abbrev E0:XK:=λ_ _ _=>False
theorem Fz{X:Cx}:uf sy X E0:=λ_ _ _ _ _ _ _ h=>h.elim
structure wT (K:Fg1)(x qual:Str)(st:cZ)(f:cP)(fd:cY):Prop where
 ex:∃(oc:cN) (od:Option cP) (kV doc pm:cN) (an:Option cP) (cdv ct:cN) (osl:Array (Option cN)),
  fd=wF1 x qual (gY st) (eI st) (dz st) .none kV doc pm an cdv ct/\K.lookup f=some ⟨oc,od,.func fd,osl⟩/\wC1 K cdv qual=true
 kp:wK1 K (.ref f)=true
section
variable{P:cQ}{w:cS}{K:Fg1}{mg:Str->Option cN}{base:cX}
theorem wT.ok{x b:Str}{st:cZ}{f:cP}{fd:cY}{N ps:List Str}{k:Nat}{sp:Sp}(F:wT K x b st f fd)(S:fS N ps (dz st))(len:∀ vs H Q E,sp vs H Q E->vs.length=ps.length)(d:∀(c:cN) (A:cR) (a:List Env) (s:cO) (H:Hp) (vs:List V) (Q:VK) (E:XK),fb k (A.deeper (envOfC b (dz st) s.heap.objs.size f c))->sp vs H Q E ->
   ∃t,sD (lI sy P w K mg base N b (dz st) f c A a s H E).nox (eI st) t/\t {nx:=λ_ H'=>Q .non H',rt:=Q} (start N vs) H):jp P w K mg base sy (k+1) f fd ps sp:=by
 obtain⟨o,p,kV,m,n,r,c,ct,l,rfl,j,g⟩:=F.ex;refine Gg j g S len λA a s H vs Q E i e=>?_;obtain⟨t,h,q⟩:=d c A a s H vs Q E i e;exact⟨t,h.nox,q⟩
theorem wT.binds{x a:Str}{st:cZ}{f:cP}{fd:cY}{ps:List Str}(F:wT K x a st f fd)(h:∀(kV c e:cN) (g:Option cP) (b ct:cN) (d:List cN),d.length=ps.length->bindArgs (wF1 x a (gY st) (eI st) (dz st) .none kV c e g b ct) ⟨d,[]⟩=pure (ps.zip d)):kF K fd ps []:=by
 obtain⟨k,m,kV,c,e,g,b,ct,j,rfl,l,i⟩:=F.ex;exact .all (h kV c e g b ct)
theorem zh{x a:Str}{st:cZ}{f:cP}{i:cN}{j h:Option cP}{e:Array (Option cN)}{kV d g b ct:cN}(l:K.lookup f=Z ⟨i,j,.func (wF1 x a (gY st) (eI st) (dz st) .none kV d g h b ct),e⟩)(c:wC1 K b a=M)(k:wK1 K (.ref f)=M):wT K x a st f (wF1 x a (gY st) (eI st) (dz st) .none kV d g h b ct):=⟨⟨i,j,kV,d,g,h,b,ct,e,O,l,c⟩,k⟩
end
section
variable{X:Cx}
end
def sx(H H':Hp):Prop:=∀b o,H b=Z o->H' b=Z o
theorem sx.trans{H H1 H2:Hp}(a:sx H H1)(b:sx H1 H2):sx H H2:=λc o h=>b c o (a c o h)
theorem sx.free{H H':Hp}(e:sx H H'){l:cP}(h:H' l=Option.none):H l=Option.none:=by
 cases q:H l with
 |none=>rfl
 |some o=>
  rw[e l o q]at h;cases h
theorem sx.seq{K:Fg1}{H H':Hp}{a:cP}{xs:List V}(e:sx H H')(h:lA K H a xs):lA K H' a xs:=by
 rcases h with(h|⟨o,h⟩)|h
 ·exact .inl (.inl (e _ _ h))
 ·exact .inl (.inr ⟨o,e _ _ h⟩)
 ·exact .inr h
end L2
namespace L2
open PySem PySem.Spec PyProof.Rows
section
variable{κ:Type} [DecidableEq κ]
noncomputable def il(kvs:List (κ×V))(k:κ):Option V:=(kvs.find? λkv=>decide (kv.1=k)).map (·.2)
noncomputable def ia(kvs:List (κ×V))(k:κ)(v:V):List (κ×V):=
 if(kvs.any λkv=>decide (kv.1=k))=M then kvs.map (λkv=>if kv.1=k then(kv.1,v)else kv)else kvs++[(k,v)]
theorem ma{p:κ×V}{r:List (κ×V)}{k:κ}(e:p.1=k):il (p::r) k=Z p.2:=by simp[il,bf,e]
theorem md{p:κ×V}{r:List (κ×V)}{k:κ}(e:¬ p.1=k):il (p::r) k=il r k:=by simp[il,bf,e]
theorem qi(k:κ):∀kvs:List (κ×V),(kvs.any λa=>decide (a.1=k))=(il kvs k).isSome
 |[]=>rfl
 |p::r=>by
  rw[bg];by_cases e:p.1=k
  ·simp only[ma e,ah e,Bool.true_or,Option.isSome_some]
  ·rw[md e,ai e,Bool.false_or];exact qi k r
theorem iZ(kvs:List (κ×V))(k:κ)(v:V):(ia kvs k v).length<=kvs.length+1:=by
 unfold ia;split
 ·rw[lM1];lia
 ·rw[lA1,lC1,bh];lia
theorem nN.isSome_eq{o:Option V}{u:Option cN}(r:nN o u):o.isSome=u.isSome:=by
 cases o with
 |none=>cases u with
  |none=>rfl
  |some _=>exact(show False from r).elim
 |some _=>cases u with
  |none=>exact(show False from r).elim
  |some _=>rfl
theorem KV.val{kvs:List (κ×V)}{vs:List (κ×cN)}(r:KV kvs vs)(k:κ):nN (il kvs k) (valueAt vs k):=by
 unfold KV at r
 induction r with
 |nil=>exact True.intro
 | @cons p q ps a h t ih=>
  obtain⟨h1,h2⟩:=h;by_cases e:p.1=k
  ·have c:q.1=k:=h1.symm.trans e;have b:valueAt (q::a) k=Z q.2:=by simp[valueAt,bf,c]
   rw[ma e,b];exact h2
  ·have c:¬ q.1=k:=λz=>e (h1.trans z);have b:valueAt (q::a) k=valueAt a k:=by simp[valueAt,bf,c]
   rw[md e,b];exact ih
theorem KV.any{kvs:List (κ×V)}{vs:List (κ×cN)}(r:KV kvs vs)(k:κ):(kvs.any λa=>decide (a.1=k))=vs.any λa=>decide (a.1=k):=by
 unfold KV at r
 induction r with
 |nil=>rfl
 |cons h t ih=>rw[bg,bg,ih,h.1]
theorem KV.repl{kvs:List (κ×V)}{vs:List (κ×cN)}(r:KV kvs vs)(k:κ){y:V}{u:cN}(b:dy y u):
  KV (kvs.map λa=>if a.1=k then(a.1,y)else a) (vs.map λa=>if a.1=k then(a.1,u)else a):=by
 unfold KV at r ⊢
 induction r with
 |nil=>exact .nil
 | @cons p q ps c h t ih=>
  rw[mP1,mP1];refine .cons ?_ ih;obtain⟨h1,h2⟩:=h;by_cases e:p.1=k
  ·rw[ak e,ak (h1.symm.trans e)];exact⟨h1,b⟩
  ·rw[aj e,aj (λz=>e (h1.trans z))];exact⟨h1,h2⟩
theorem KV.put{kvs:List (κ×V)}{vs:List (κ×cN)}(r:KV kvs vs)(k:κ){y:V}{u:cN}(a:dy y u):KV (ia kvs k y) (stored vs k u):=by
 unfold ia stored;rw[r.any k];by_cases e:(vs.any λb=>decide (b.1=k))=M
 ·rw[ak e,ak e];exact r.repl k a
 ·rw[aj e,aj e];exact Paired.snoc r ⟨O,a⟩
theorem KV.length{kvs:List (κ×V)}{vs:List (κ×cN)}(r:KV kvs vs):kvs.length=vs.length:=Paired.length r
end
theorem oo{P:cQ}{w:cS}{k:Key}{u:cN}(r:dy (kV k) u):(ew P w).is k u=M:=by
 cases k with
 |inl i=>obtain⟨t,e⟩:=(show∃t,u=Value.int i t from r);subst e;exact rh P w i t
 |inr x=>obtain⟨t,e⟩:=(show∃t,u=Value.str x t from r);subst e;exact rg P w x t
theorem ot{P:cQ}{w:cS}:∀{ks:List Key} {a:List cN},dG (ks.map kV) a->ItemsAre (ew P w) ks a
 |[],_,r=>by rw[bc]at r;cases r;exact .nil
 |k::ks,_,r=>by
  rw[mP1]at r;cases r with
  |cons h t=>exact .cons (oo h) (ot t)
abbrev KT(H:Hp):List (List Key×V)->List (List Key×cP×cN)->Prop:=Paired λp q=>p.1=q.1/\H q.2.1=Z (.tup (p.1.map kV))/\dy p.2 q.2.2
theorem KT.val{H:Hp}{kvs:List (List Key×V)}{xs:List (List Key×cP×cN)}(r:KT H kvs xs)(k:List Key):nN (il kvs k) ((atKey xs k).map (·.2)):=by
 induction r with
 |nil=>exact True.intro
 | @cons p q ps a h t ih=>
  obtain⟨h1,_,h2⟩:=h;by_cases e:p.1=k
  ·have c:q.1=k:=h1.symm.trans e;have b:atKey (q::a) k=Z q.2:=by simp[atKey,bf,c]
   rw[ma e,b];exact h2
  ·have c:¬ q.1=k:=λz=>e (h1.trans z);have b:atKey (q::a) k=atKey a k:=by simp[atKey,bf,c]
   rw[md e,b];exact ih
theorem KT.repl{H:Hp}{kvs:List (List Key×V)}{xs:List (List Key×cP×cN)}(r:KT H kvs xs)(k:List Key){y:V}{u:cN}(b:dy y u):
  KT H (kvs.map λa=>if a.1=k then(a.1,y)else a) (xs.map (putAt k u)):=by
 induction r with
 |nil=>exact .nil
 | @cons p q ps d h t ih=>
  rw[mP1,mP1];refine .cons ?_ ih;obtain⟨h1,h2,c⟩:=h;unfold putAt;by_cases e:p.1=k
  ·rw[ak e,ak (h1.symm.trans e)];exact⟨h1,h2,b⟩
  ·rw[aj e,aj (λz=>e (h1.trans z))];exact⟨h1,h2,c⟩
theorem KT.put{H:Hp}{kvs:List (List Key×V)}{xs:List (List Key×cP×cN)}(r:KT H kvs xs)(k:List Key){b:cP}{y:V}{u:cN}(hb:H b=some (.tup (k.map kV)))(a:dy y u):
  KT H (ia kvs k y) (storedH xs k b u):=by
 have e:(kvs.any λc=>decide (c.1=k))=(atKey xs k).isSome:=by
  rw[qi,(r.val k).isSome_eq,bi]
 unfold ia storedH;rw[e];by_cases q:(atKey xs k).isSome=M
 ·rw[ak q,ak q];exact r.repl k a
 ·rw[aj q,aj q];exact Paired.snoc r ⟨O,hb,a⟩
theorem KT.keeps{H H':Hp}{kvs:List (List Key×V)}{xs:List (List Key×cP×cN)}(r:KT H kvs xs)(ht:∀b ys,H b=Z (.tup ys)->H' b=Z (.tup ys)):KT H' kvs xs:=
 Paired.mapP r λ_ _ z=>⟨z.1,ht _ _ z.2.1,z.2.2⟩
section
variable{P:cQ}{w:cS}{H:Hp}{h:cX}{a:cP}
theorem B8{u:HO}(ok:kE P w H h)(e:Rd H a u):ev P w H h a u:=e.ok ok
theorem rV{kvs:List (Key×V)}(ok:kE P w H h)(e:Rd H a (.dK kvs)):kvs.length<=cV/\(a == sysModules)=J /\ ∃vs,KV kvs vs/\h.DictOf (ew P w) a vs:=
 show ev P w H h a (.dK kvs)from B8 ok e
theorem zr{kvs:List (Key×V)}(ok:kE P w H h)(e:H a=Z (.dK kvs)):kvs.length<=cV/\(a == sysModules)=J /\ ∃vs,KV kvs vs/\h.DictOf (ew P w) a vs:=rV ok (.inl e)
theorem mY{ks:List Key}(ok:kE P w H h)(e:H a=Z (.tup (ks.map kV))):(tupleKind (ew P w)).is h ks a:=by
 obtain⟨_,b,r,o,h1,h2,n,c⟩:=(show ev P w H h a (.tup (ks.map kV))from ok a _ e);exact⟨o,b.toArray,n,h1,h2,c,by simpa using ot r⟩
theorem rT{kvs:List (List Key×V)}(ok:kE P w H h)(e:Rd H a (.dT kvs)):kvs.length<=cV/\(a == sysModules)=false /\
  ∃xs,KT H kvs xs/\h.DictOfH (tupleKind (ew P w)) a xs:=by
 obtain⟨z,y,xs,r,o,es,ep,h1,h2,g,f,d⟩:=(show ev P w H h a (.dT kvs)from B8 ok e);refine⟨z,y,xs,r,o,es,ep,h1,h2,g,f,λx b=>?_,d⟩;have all:∀{l:List (List Key×V)} {m:List (List Key×cP×cN)},KT H l m -> ∀x∈m,(tupleKind (ew P w)).is h x.1 x.2.1:=by
  intro l m q
  induction q with
  |nil=>intro x b;exact nomatch b
  | @cons p q ps i c t ih=>
   intro x b;rcases aE.mp b with e|b
   ·subst e;exact mY ok (by rw[<- c.1];exact c.2.1)
   ·exact ih x b
 exact all r x b
theorem Go{kvs:List (List Key×V)}(ok:kE P w H h)(e:H a=some (.dT kvs)):kvs.length<=cV/\(a == sysModules)=false /\
  ∃xs,KT H kvs xs/\h.DictOfH (tupleKind (ew P w)) a xs:=rT ok (.inl e)
end
def nP(H:Hp)(a:cP)(y:V)(r:Option V):Prop:=
 (∃kvs k,Rd H a (.dK kvs)/\y=kV k/\r=il kvs k) \/ ∃kvs k b,Rd H a (.dT kvs)/\y = .ref b/\H b=Z (.tup (k.map kV))/\r=il kvs k
def wK(H:Hp)(a:cP)(y v:V)(H':Hp):Prop:=
 (∃kvs k,H a=Z (.dK kvs)/\y=kV k/\kvs.length<cV/\H'=upd H a (.dK (ia kvs k v))) \/
 ∃kvs k b,H a=Z (.dT kvs)/\y = .ref b/\H b=Z (.tup (k.map kV))/\kvs.length<cV/\H'=upd H a (.dT (ia kvs k v))
theorem nP.k{H:Hp}{a:cP}{kvs:List (Key×V)}{k:Key}(e:H a=Z (.dK kvs)):nP H a (kV k) (il kvs k):=.inl ⟨kvs,k,.inl e,O,O⟩
theorem nP.t{H:Hp}{a b:cP}{kvs:List (List Key×V)}{k:List Key}(e:H a=Z (.dT kvs))(c:H b=Z (.tup (k.map kV))):nP H a (.ref b) (il kvs k):=.inr ⟨kvs,k,b,.inl e,O,c,O⟩
theorem wK.k{H:Hp}{a:cP}{kvs:List (Key×V)}{k:Key}{v:V}(e:H a=Z (.dK kvs))(b:kvs.length<cV):wK H a (kV k) v (upd H a (.dK (ia kvs k v))):=.inl ⟨kvs,k,e,O,b,O⟩
theorem wK.t{H:Hp}{a b:cP}{kvs:List (List Key×V)}{k:List Key}{v:V}(e:H a=some (.dT kvs))(c:H b=some (.tup (k.map kV)))(d:kvs.length<cV):
  wK H a (.ref b) v (upd H a (.dT (ia kvs k v))):=.inr ⟨kvs,k,b,e,O,c,d,O⟩
section
variable{X:Cx}{ag:List (cP×Obj)}{σ:St}{H:Hp}{s:cO}{a:cP}{y v:V}{u r:cN}{o:Option V}{A:cR}{E:cN->cO->Prop}
theorem Inv.big(I:Inv X ag σ H s):sysModules<s.heap.objs.size:=by
 have h:cT<s.heap.objs.size:=(I.mod.glob.keeps I.bk).lt;exact bj (by decide) h
theorem wx{Q:cN->cO->Prop}(r:A.units+1<cLine)(I:Inv X ag σ H s)(g:nP H a y (some v))(q:dy y u)(h:∀ f s',Inv X ag σ H s'->dy v f->Q f s'):
  cW (model X.prog X.w) A (getItem (.ref a) u) Q E s:=by
 rcases g with⟨kvs,k,e,n,l⟩|⟨kvs,k,b,e,n,x,l⟩
 ·subst n;obtain⟨z,w,vs,c,m⟩:=rV I.hok e;obtain⟨f,j,d⟩:=nN.some_of (v:=v) (o:=valueAt vs k) (by rw[l];exact c.val k);exact wpAny_getItem_of (oo q) m.mapOf j (h f _ (I.tok _) d)
 ·subst n;cases(show u=Value.ref b from q);obtain⟨z,w,xs,c,m⟩:=rT I.hok e;obtain⟨f,j,d⟩:=nN.some_of (v:=v) (o:=(atKey xs k).map (·.2)) (by rw[l];exact c.val k);obtain⟨p,t,i⟩:=oM1.mp j;refine wpAny_getItem_heap (tupleKind_room_in1 r) (mY I.hok x) m t ?_;rw[i];exact h f _ (I.tok _) d
theorem HI{Q:cN->cO->Prop}(m:A.units+1<cLine)(I:Inv X ag σ H s)(g:nP H a y o)(j:dy y u)(h:∀ s',Inv X ag σ H s'->Q (.bool o.isSome) s'):
  cW (model X.prog X.w) A (compareOp .In u (.ref a)) Q E s:=by
 rcases g with⟨kvs,k,e,f,l⟩|⟨kvs,k,b,e,f,n,l⟩
 ·subst f;obtain⟨z,i,vs,c,d⟩:=rV I.hok e;refine wpAny_in_of (oo j) i d.mapOf ?_;rw[<- (c.val k).isSome_eq,<- l];exact h _ (I.tok _)
 ·subst f;cases(show u=Value.ref b from j);obtain⟨z,i,xs,c,d⟩:=rT I.hok e;refine wpAny_in_heap (tupleKind_room_in1 m) (mY I.hok n) i d ?_;have q:=(c.val k).isSome_eq;rw[bi]at q;rw[<- q,<- l];exact h _ (I.tok _)
theorem BF{Q:cN->cO->Prop}(m:A.units+1<cLine)(I:Inv X ag σ H s)(g:nP H a y o)(j:dy y u)(h:∀ s',Inv X ag σ H s'->Q (.bool (!o.isSome)) s'):
  cW (model X.prog X.w) A (compareOp .NotIn u (.ref a)) Q E s:=by
 rcases g with⟨kvs,k,e,f,l⟩|⟨kvs,k,b,e,f,n,l⟩
 ·subst f;obtain⟨z,i,vs,c,d⟩:=rV I.hok e;refine wpAny_notIn_of (oo j) i d.mapOf ?_;rw[<- (c.val k).isSome_eq,<- l];exact h _ (I.tok _)
 ·subst f;cases(show u=Value.ref b from j);obtain⟨z,i,xs,c,d⟩:=rT I.hok e;refine wpAny_notIn_heap (tupleKind_room_in1 m) (mY I.hok n) i d ?_;have q:=(c.val k).isSome_eq;rw[bi]at q;rw[<- q,<- l];exact h _ (I.tok _)
theorem kq{h':cX}{t':Nat}{c:HO}(I:Inv X ag σ H s)(mu:EF (H a))(hs:Heap.SameBut a s.heap h')(he:∃ q,h'.get? a=some q)(new:ev X.prog X.w (upd H a c) h' a c):
  Inv X ag σ (upd H a c) {s with heap:=h',toks:=t'}:=
 I.write (x:=a) (e:=a) mu (.inl O) (λb q d z=>(hs.2 b d).trans z) he new
theorem zt{P:cQ}{w:cS}{H':Hp}{h':cX}{kvs:List (Key×V)}{vs:List (Key×cN)}(z:kvs.length<=cV)(hd:(a == sysModules)=false)(b:KV kvs vs)(dd:h'.DictOf (ew P w) a vs):
  ev P w H' h' a (.dK kvs):=⟨z,hd,vs,b,dd⟩
theorem ww{H':Hp}{Q:Unit->cO->Prop}(F:A.units+1<cLine)(I:Inv X ag σ H s)(g:wK H a y v H')(C:dy y u)(D:dy v r)(h:∀ s',Inv X ag σ H' s'->Q () s'):
  cW (model X.prog X.w) A (setItem (.ref a) u r) Q E s:=by
 rcases g with⟨kvs,k,e,o,l,n⟩|⟨kvs,k,b,e,o,B,l,n⟩
 ·subst o n;obtain⟨z,w,vs,d,j⟩:=zr I.hok e;have t:vs.length<=cV:=by rw[<- d.length];exact z
  have p:(ia kvs k v).length<=cV:=by have:=iZ kvs k v;lia
  refine wpAny_setItem_pairs (hsz:=t) (oo C) j λh' f m=>h _ ?_;have am:∃q,h'.get? a=Z q:=let ⟨q,_,_,i,_⟩:=f;⟨q,i⟩
  exact kq I (by rw[e];exact True.intro) m am (zt p w (d.put k D) f)
 ·subst o n;cases(show u=Value.ref b from C);obtain⟨z,w,xs,d,j⟩:=Go I.hok e;have t:xs.length<=cV:=by rw[<- Paired.length d];exact z
  have p:(ia kvs k v).length<=cV:=by have:=iZ kvs k v;lia
  refine wpAny_setItem_heap (hsz:=t) (tupleKind_room_in1 F) (mY I.hok B) j λh' f m=>h _ ?_;obtain⟨q,es,ep,i,h2,K,L,_,G⟩:=f;refine kq I (by rw[e];exact True.intro) m ⟨q,i⟩ ⟨p,w,_,(d.put k B D).keeps λc ys x=>?_,q,es,ep,i,h2,K,L,G⟩;rw[dB (FR x e (λz=>nomatch z))];exact x
end
section
variable{X:Cx}{ag:List (cP×Obj)}{σ:St}{H:Hp}{s:cO}{a:cP}{kvs:List (Key×V)}{k:Key}{u:cN}{A:cR}{E:cN->cO->Prop}
end
theorem rX{X:Cx}{ag:List (cP×Obj)}{σ:St}{H:Hp}{s:cO}{a:cP}{y:V}{o:Option V}(I:Inv X ag σ H s)(g:nP H a y o):s.TypeIs (.ref a) "dict":=by
 rcases g with⟨kvs,k,e,_,_⟩|⟨kvs,k,b,e,_,_,_⟩
 ·obtain⟨_,_,vs,_,c⟩:=rV I.hok e;exact c.typeIs
 ·obtain⟨_,_,xs,_,c⟩:=rT I.hok e;exact c.typeIs
section
variable{X:Cx}{o i e value:Expr}{pos pos' tpos:Pos}{td ty tv:TE}
end
theorem rW{P:cQ}{w:cS}{H:Hp}(h:cX)(hb:sysModules<h.objs.size):ev P w H (h.push {cls:=.type "dict",data:=.dict #[]}) h.objs.size (.dK []):=
 ⟨bm _,beq_eq_false_iff_ne.mpr (Ne.symm (nN1 hb)),[],.nil,Heap.DictOf.new h⟩
noncomputable def CC:TE:=λ_ H Q=>∀p,H p=Y->Q (.ref p) (upd H p (.dK []))
section
variable{X:Cx}{pos:Pos}
theorem ya:PE X (.Dict [] [] pos) CC:=λag s σ H Q I h=>
 wpAny_Dict_empty ⟨.ref s.heap.objs.size,_,I.laid (a:=s.heap.objs.size) (o:=.dK []) (t':=s.toks) (λ_ _ q=>hP1 _ q) (nR1 _) (rW s.heap I.big),O,h _ (I.hok.fresh (nR1 _))⟩
end
def oZ:List (TE×TE)->St->Hp->(List (V×V)->Hp->Prop)->Prop
 |[],_,H,Q=>Q [] H
 |(tk,tv)::r,σ,H,Q=>tk σ H λx H1=>tv σ H1 λy H2=>oZ r σ H2 λps H3=>Q ((x,y)::ps) H3
abbrev VV:List (V×V)->List (cN×cN)->Prop:=Paired λp q=>dy p.1 q.1/\dy p.2 q.2
def GC(X:Cx)(pos:Pos)(keys:List (Option Expr))(values:List Expr)(trs:List (TE×TE)):Prop:=
 ∀(ag:List (cP×Obj)) (s:cO) (σ:St) (H:Hp) (Q:List (V×V)->Hp->Prop),Inv X ag σ H s->oZ trs σ H Q ->
  cW (model X.prog X.w) X.A (evalPairs (pairTrees keys values X.env pos)) (λvs s'=>∃ps H',Inv X ag σ H' s'/\VV ps vs/\Q ps H') X.xe s
theorem Az{X:Cx}{pos:Pos}:GC X pos [] [] []:=λag s σ H Q I h=>pairTrees_nil_walk ⟨[],H,I,.nil,h⟩
theorem xT{X:Cx}{pos:Pos}{k v:Expr}{ks:List (Option Expr)}{vs:List Expr}{tk tv:TE}{a:List (TE×TE)}(hk:PE X k tk)(hv:PE X v tv)(hr:GC X pos ks vs a):
  GC X pos (Z k::ks) (v::vs) ((tk,tv)::a):=λag s σ H Q I h=>
 pairTrees_cons_walk (eJ (hk ag s σ H _ I h) λu e ⟨x,H1,j,m,f⟩=>eJ (hv ag e σ H1 _ j f) λq c ⟨y,H2,o,n,d⟩=>
  eJ (hr ag c σ H2 _ o d) λws p ⟨ps,i,l,b,g⟩=>⟨(x,y)::ps,i,l,.cons ⟨m,n⟩ b,g⟩)
noncomputable def iu(kvs more:List (Key×V)):List (Key×V):=more.foldl (λacc kv=>ia acc kv.1 kv.2) kvs
theorem KV.merge:∀{more:List (Key×V)} {rs:List (Key×cN)} {kvs:List (Key×V)} {vs:List (Key×cN)},KV more rs->KV kvs vs->KV (iu kvs more) (merged vs rs):=by
 intro more rs kvs vs r;unfold KV at r
 induction r generalizing kvs vs with
 |nil=>intro q;exact q
 | @cons p q ps b h t ih=>
  intro a;have e:KV (ia kvs p.1 p.2) (stored vs q.1 q.2):=by
   have:=a.put p.1 h.2;rw[<- h.1];exact this
  exact ih e
theorem jA:∀(more kvs:List (Key×V)),(iu kvs more).length<=kvs.length+more.length
 |[],kvs=>by show kvs.length<=kvs.length+0;lia
 |p::r,kvs=>by
  have h1:=jA r (ia kvs p.1 p.2);have h2:=iZ kvs p.1 p.2;show(iu (ia kvs p.1 p.2) r).length<=_;rw[lC1];lia
theorem no{P:cQ}{w:cS}:∀{kvs:List (Key×V)} {ws:List (cN×cN)},VV (kvs.map λd=>(kV d.1,d.2)) ws -> ∃rs,Carries (ew P w) ws rs/\KV kvs rs
 |[],_,r=>by rw[bc]at r;cases r;exact⟨[],True.intro,.nil⟩
 |p::kvs,_,r=>by
  rw[mP1]at r;cases r with
  | @cons a b as bs h t=>
   obtain⟨rs,c,q⟩:=no (P:=P) (w:=w) t;obtain⟨b1,b2⟩:=b;exact⟨(p.1,b2)::rs,⟨oo h.1,O,c⟩,.cons ⟨O,h.2⟩ q⟩
noncomputable def Fb(trs:List (TE×TE)):TE:=fun σ H Q=>∀p,H p=Y->oZ trs σ (upd H p (.dK [])) λps H2=>H2 p=Z (.dK []) /\ ∃kvs:List (Key×V),ps=kvs.map (λkv=>(kV kv.1,kv.2))/\kvs.length<=15/\Q (.ref p) (upd H2 p (.dK (iu [] kvs)))
theorem AH{X:Cx}{pos:Pos}{b:List (Option Expr)}{values:List Expr}{g:List (TE×TE)}(h:GC X pos b values g)(d:b.all (·.isSome)=M)(p:b.length=values.length)(h0:b≠[])(i:b.length<=15):PE X (.Dict b values pos) (Fb g):=by
 intro ag s σ H Q I q;have v:=I.hok.fresh (nR1 s.heap.objs.size);have r:=I.laid (a:=s.heap.objs.size) (o:=.dK []) (h':=s.heap.push {cls:=.type "dict",data:=.dict #[]}) (t':=s.toks) (λ_ _ q=>hP1 _ q) (nR1 _) (rW s.heap I.big);refine wpAny_Dict_walk (knd:=ew X.prog X.w) d p h0 i (eJ (h ag _ σ _ _ r (q _ v)) λws B ⟨ps,H2,k,j,e,kvs,ep,C,u⟩=>?_);subst ep;obtain⟨rs,c,rk⟩:=no (P:=X.prog) (w:=X.w) j;obtain⟨z,A,l,x,m⟩:=zr k.hok e;cases x;refine⟨rs,c,m,λh' f n=>⟨.ref s.heap.objs.size,_,?_,O,u⟩⟩;have y:(iu [] kvs).length<=cV:=by
  have h1:=jA kvs [];rw[bh]at h1;rw[sizeLine_eq];lia
 have t:∃q,h'.get? s.heap.objs.size=Z q:=let ⟨q,_,_,hq,_⟩:=f;⟨q,hq⟩
 exact kq k (by rw[e];exact True.intro) n t (zt y A (rk.merge .nil) f)
structure M2 (X:Cx)(o:Expr)(m:Str)(apos:Pos)(e f:Expr)(cpos:Pos):Prop where
 base:attributeBase o m X.env (eval o X.env)=eval o X.env
 few:((backTo cpos (cU [e,f] X.env)).all (λx=> !x.1)&&(backToKw cpos (keywordEach [] X.env)).all (λx=>x.1.isSome)
  && decide (([e,f]:List Expr).length+([]:List Keyword).length+(if([]:List Keyword).isEmpty then 0 else 1)<30))=true
 line:(apos.endLine == cpos.line)=true
 trees:backTo cpos (cU [e,f] X.env)=[(false,eval e X.env),(false,eval f X.env)]
section
variable{X:Cx}{ag:List (cP×Obj)}{σ:St}{H:Hp}{s:cO}{a:cP}{y d:V}{u r:cN}{o:Option V}{A:cR}{E:cN->cO->Prop}
end
section
variable{X:Cx}{o e f:Expr}{apos cpos:Pos}{td ty tx:TE}
end
section
variable{X:Cx}{ag:List (cP×Obj)}{σ:St}{H:Hp}{s:cO}{a:cP}{kvs:List (Key×V)}{A:cR}{E:cN->cO->Prop}
end
section
variable{X:Cx}{ag:List (cP×Obj)}{σ:St}{H:Hp}{s:cO}{a:cP}{y:V}{u:cN}{A:cR}{E:cN->cO->Prop}
end
end L2
namespace Mi
open PySem PySem.Spec PyProof.Rows L2
inductive TK where
 |non|int (i:Int)|tup (xs:List TK)
instance:DecidableEq TK:=λ_ _=>Classical.propDecidable _
mutual
noncomputable def TK.hash:TK->Int
 | .non=>0xFCA86420
 | .int i=>hashInt i
 | .tup xs=>reduceHash (Builtin.Tuple.tupleHashOf (TK.hashes xs))
noncomputable def TK.hashes:List TK->List Int
 |[]=>[]
 |x::xs=>TK.hash x::TK.hashes xs
end
mutual
noncomputable def TK.draws:TK->Nat
 | .non=>1
 | .int _=>1
 | .tup xs=>TK.drawsAll xs+1
noncomputable def TK.drawsAll:List TK->Nat
 |[]=>0
 |x::xs=>TK.draws x+TK.drawsAll xs
end
mutual
noncomputable def TK.dep:TK->Nat
 | .non=>0
 | .int _=>0
 | .tup xs=>TK.depAll xs+1
noncomputable def TK.depAll:List TK->Nat
 |[]=>0
 |x::xs=>max (TK.dep x) (TK.depAll xs)
end
theorem TK.dep_mem:∀{xs:List TK} {x:TK},x∈xs->x.dep<=TK.depAll xs
 |y::ys,x,h=>by
  rw[TK.depAll];rcases aE.mp h with e|e
  ·rw[e];exact Nat.le_max_left _ _
  ·exact aC (TK.dep_mem e) (Nat.le_max_right _ _)
theorem TK.hashes_app:∀a b:List TK,TK.hashes (a++b)=TK.hashes a++TK.hashes b
 |[],_=>rfl
 |x::xs,b=>by rw[bn,TK.hashes,TK.hashes,TK.hashes_app xs b];rfl
theorem TK.draws_app:∀a b:List TK,TK.drawsAll (a++b)=TK.drawsAll a+TK.drawsAll b
 |[],_=>by simp[TK.drawsAll]
 |x::xs,b=>by rw[bn,TK.drawsAll,TK.drawsAll,TK.draws_app xs b,bo]
def ue(xs:Array Nat):Prop:=xs.toList.Pairwise (· < ·)
noncomputable def B7(m:Nat):Nat->Nat->Nat->List Nat
 |0,_,_=>[]
 |n+1,i,b=>List.range' i (SetTable.runEnd m i-i+1)++B7 m n (SetTable.leap m i b).1 (SetTable.leap m i b).2
def IH(m:Nat):Prop:=m=7\/m=31\/m=127
noncomputable def Hk(m:Nat)(h:Int):List Nat:=B7 m (SetTable.turns m) (SetTable.bits h%(m+1)) (SetTable.bits h)
def Hm(m:Nat)(occ:List Nat)(h:Int)(j:Nat):Prop:=∃pre post,Hk m h=pre++j::post /\ ∀y∈pre,y∈occ
structure Hl (es:Array (Int×cN))(t:SetTable):Prop where
 mks:IH t.mask
 up:ue t.place
 du:t.dummies = #[]
 sz:t.place.size=es.size
 le:∀j∈t.place.toList,j<=t.mask
 fl:es.size<=t.mask
 rc:∀z∈t.place.toList.zip es.toList,Hm t.mask t.place.toList z.2.1 z.1
noncomputable def stO(es:Array (Int×cN))(ep:Nat)(t:SetTable):Obj:={cls:=.type "set",dict:=Y,data:=.set es ep t,slots:= #[]}
def GB(a:cP)(xs:List (TK×cP×cN))(h:cX):Prop:=(xs.map (·.1)).Nodup /\ ∃es ep t,h.get? a=Z (stO es ep t)/\Hl es t/\t.tooFull=J/\(∀e∈es.toList,∃z∈xs,e=(z.1.hash,.ref z.2.1))/\(∀z∈xs,(z.1.hash,Value.ref z.2.1)∈es.toList)/\es.size=xs.length
inductive D where
 |non|bl (b:Bool)|int (i:Int)|str (x:Str)|tup (xs:List D)|rol (xs:List D)|ref (n:Nat)|fn (x:Str)
inductive Ob where
 |lst (xs:List D)|dct (kvs:List (Key×D))|dcT (kvs:List (TK×D))|iset (xs:List Int)|dcF (kvs:List (TK×D))|tst (ks:List TK)
abbrev c6:=List Ob
abbrev Ev:=List (Option D)
abbrev FE:=Ev->c6->Option (D×c6)
abbrev FT:=Ev->c6->Option (Bool×c6)
abbrev FA:=Ev->c6->Option (List D×c6)
abbrev FN:=List D->c6->Option (D×c6)
inductive Fl where
 |nx|rt (d:D)|bk|ct
abbrev FS:=Ev->c6->Option (Fl×Ev×c6)
def RoL(K:Fg1)(H:Hp)(a:cP)(xs:List V):Prop:=(∃o,H a=Z (.frz o (.lst xs))) \/
 ∃(o:Obj) (its:Array cN) (n:Nat),K.lookup a=Z o/\o.cls = .type "list"/\o.dict=Y/\o.data = .seq its n/\its.size<=cV/\dG xs its.toList
theorem RoL.sq{K:Fg1}{H:Hp}{a:cP}{xs:List V}(h:RoL K H a xs):lA K H a xs:=h.elim (λ⟨o,q⟩=>.inl (.inr ⟨o,q⟩)) .inr
mutual
inductive d3 (K:Fg1)(H:Hp)(mu:List cP):D->V->Prop
 |non:d3 K H mu .non .non
 |bl (b:Bool):d3 K H mu (.bl b) (.bl b)
 |int (i:Int):d3 K H mu (.int i) (.int i)
 |str (x:Str):d3 K H mu (.str x) (.str x)
 |tup {ds:List D} {vs:List V} {a:cP} (h:iI K H a vs) (r:df K H mu ds vs):d3 K H mu (.tup ds) (.ref a)
 |rol {ds:List D} {vs:List V} {a:cP} (h:RoL K H a vs) (r:df K H mu ds vs):d3 K H mu (.rol ds) (.ref a)
 |ref {n:Nat} {a:cP} (h:mu[n]?=some a):d3 K H mu (.ref n) (.ref a)
 |fn {x:Str} {a:cP} (h:wN1 K cT x=some (some (.ref a))):d3 K H mu (.fn x) (.ref a)
inductive df (K:Fg1)(H:Hp)(mu:List cP):List D->List V->Prop
 |nil:df K H mu [] []
 |cons {d:D} {v:V} {ds:List D} {vs:List V} (r:d3 K H mu d v) (t:df K H mu ds vs):df K H mu (d::ds) (v::vs)
end
structure Ext (mu mu':List cP)(H H':Hp):Prop where
 pre:mu <+: mu'
 old:∀a o,H a=some o->a∉mu->H' a=some o
 tup:∀a xs,Rd H a (.tup xs)->Rd H' a (.tup xs)
 frz:∀a o u,H a=some (.frz o u)->H' a=some (.frz o u)
 new:∀a∈mu',a∈mu\/H a=none
theorem Ext.refl(mu:List cP)(H:Hp):Ext mu mu H H:=⟨bp,λ_ _ h _=>h,λ_ _ h=>h,λ_ _ _ h=>h,λ_ h=>.inl h⟩
theorem Ext.trans{mu m1 m2:List cP}{H H1 H2:Hp}(a:Ext mu m1 H H1)(b:Ext m1 m2 H1 H2):Ext mu m2 H H2 where
 pre:=a.pre.trans b.pre
 old:=λc o h n=>b.old c o (a.old c o h n) λz=>by
  rcases a.new c z with q|q
  ·exact n q
  ·rw[h]at q;cases q
 tup:=λc xs h=>b.tup c xs (a.tup c xs h)
 frz:=λc o u h=>b.frz c o u (a.frz c o u h)
 new:=λc h=>by
  rcases b.new c h with q|q
  ·exact a.new c q
  ·by_cases z:c∈mu
   ·exact .inl z
   ·right;cases e:H c with
    |none=>rfl
    |some o=>rw[a.old c o e z]at q;cases q
theorem Ext.at{mu mu':List cP}{H H':Hp}(e:Ext mu mu' H H'){n:Nat}{a:cP}(h:mu[n]?=Z a):mu'[n]?=Z a:=by
 obtain⟨t,rfl⟩:=e.pre;have b:n<mu.length:=(gE1.mp h).1;rw[gL1 b];exact h
theorem Ext.back{mu mu':List cP}{H H':Hp}(e:Ext mu mu' H H'):Ext mu mu H H':=⟨bp,e.old,e.tup,e.frz,λ_ h=>.inl h⟩
structure qg (mu mu':List cP)(H H':Hp):Prop where
 pre:mu <+: mu'
 tup:∀a xs,Rd H a (.tup xs)->Rd H' a (.tup xs)
 frz:∀a o u,H a=some (.frz o u)->H' a=some (.frz o u)
theorem Ext.w{mu mu':List cP}{H H':Hp}(e:Ext mu mu' H H'):qg mu mu' H H':=⟨e.pre,e.tup,e.frz⟩
theorem qg.trans{mu m1 m2:List cP}{H H1 H2:Hp}(a:qg mu m1 H H1)(b:qg m1 m2 H1 H2):qg mu m2 H H2:=⟨a.pre.trans b.pre,λc xs h=>b.tup c xs (a.tup c xs h),λc o u h=>b.frz c o u (a.frz c o u h)⟩
theorem qg.at{mu mu':List cP}{H H':Hp}(e:qg mu mu' H H'){n:Nat}{a:cP}(h:mu[n]?=Z a):mu'[n]?=Z a:=by
 obtain⟨t,rfl⟩:=e.pre;have b:n<mu.length:=(gE1.mp h).1;rw[gL1 b];exact h
structure Cn (mu mu':List cP)(H H':Hp):Prop where
 pre:mu <+: mu'
 tup:∀a xs,Rd H a (.tup xs)->Rd H' a (.tup xs)
 frl:∀a o xs,H a=some (.frz o (.lst xs))->H' a=some (.frz o (.lst xs))
theorem qg.v{mu mu':List cP}{H H':Hp}(e:qg mu mu' H H'):Cn mu mu' H H':=⟨e.pre,e.tup,λa o xs h=>e.frz a o _ h⟩
theorem Ext.v{mu mu':List cP}{H H':Hp}(e:Ext mu mu' H H'):Cn mu mu' H H':=e.w.v
theorem Cn.at{mu mu':List cP}{H H':Hp}(e:Cn mu mu' H H'){n:Nat}{a:cP}(h:mu[n]?=Z a):mu'[n]?=Z a:=by
 obtain⟨t,rfl⟩:=e.pre;have b:n<mu.length:=(gE1.mp h).1;rw[gL1 b];exact h
theorem iI.exv{K:Fg1}{mu mu':List cP}{H H':Hp}{a:cP}{vs:List V}(e:Cn mu mu' H H')(h:iI K H a vs):iI K H' a vs:=by
 rcases h with h|h
 ·exact .inl (e.tup a vs h)
 ·exact .inr h
theorem RoL.exv{K:Fg1}{mu mu':List cP}{H H':Hp}{a:cP}{vs:List V}(e:Cn mu mu' H H')(h:RoL K H a vs):RoL K H' a vs:=by
 rcases h with⟨o,h⟩|h
 ·exact .inl ⟨o,e.frl a o _ h⟩
 ·exact .inr h
theorem d3.exv{K:Fg1}{mu mu':List cP}{H H':Hp}(e:Cn mu mu' H H'):∀ {d:D} {v:V},d3 K H mu d v->d3 K H' mu' d v:=fun h=>h.rec (motive_1:=fun d v _=>d3 K H' mu' d v) (motive_2:=fun ds vs _=>df K H' mu' ds vs)
  .non .bl .int .str (λh _ ih=>.tup (iI.exv e h) ih) (λh _ ih=>.rol (RoL.exv e h) ih) (λh=>.ref (e.at h)) (λh=>.fn h) .nil (λ_ _ a b=>.cons a b)
theorem df.ind{K:Fg1}{mu:List cP}{H:Hp}{P:(ds:List D)->(vs:List V)->df K H mu ds vs->Prop}(hn:P [] [] .nil)(hc:∀{d v ds vs} (r:d3 K H mu d v) (t:df K H mu ds vs),P ds vs t->P (d::ds) (v::vs) (.cons r t)){ds:List D}{vs:List V}(h:df K H mu ds vs):P ds vs h:=
 h.rec (motive_1:=λ_ _ _=>True) (motive_2:=P) trivial (λ_=>trivial) (λ_=>trivial) (λ_=>trivial) (λ_ _ _=>trivial) (λ_ _ _=>trivial) (λ_=>trivial) (λ_=>trivial) hn (λr t _ ih=>hc r t ih)
theorem df.exv{K:Fg1}{mu mu':List cP}{H H':Hp}(e:Cn mu mu' H H'):∀{ds:List D} {vs:List V},df K H mu ds vs->df K H' mu' ds vs:=λh=>h.ind (P:=λds vs _=>df K H' mu' ds vs) .nil λr _ ih=>.cons (d3.exv e r) ih
section
variable{K:Fg1}{mu mu':List cP}{H H':Hp}{a:cP}{vs:List V}
theorem d3.exw(e:qg mu mu' H H'){d:D}{v:V}(h:d3 K H mu d v):d3 K H' mu' d v:=h.exv e.v
theorem df.exw(e:qg mu mu' H H'){ds:List D}(h:df K H mu ds vs):df K H' mu' ds vs:=h.exv e.v
theorem d3.ext(e:Ext mu mu' H H'){d:D}{v:V}(h:d3 K H mu d v):d3 K H' mu' d v:=h.exv e.v
theorem df.ext(e:Ext mu mu' H H'){ds:List D}(h:df K H mu ds vs):df K H' mu' ds vs:=h.exv e.v
end
section
variable{K:Fg1}{H:Hp}{mu:List cP}
theorem df.length:∀{ds:List D} {vs:List V},df K H mu ds vs->ds.length=vs.length:=λh=>h.ind (P:=λds vs _=>ds.length=vs.length) O λ_ _ ih=>congrArg (· + 1) ih
theorem df.get:∀{ds:List D} {vs:List V} {i:Nat} {d:D},df K H mu ds vs->ds[i]?=Z d -> ∃v,vs[i]?=Z v/\d3 K H mu d v:=by
 intro ds vs i d h e
 induction h using df.ind generalizing i with
 |hn=>cases e
 |hc r t ih=>cases i with
  |zero=>cases e;exact⟨_,O,r⟩
  |succ i=>exact ih (i:=i) e
theorem df.getV:∀{ds:List D} {vs:List V} {i:Nat} {v:V},df K H mu ds vs->vs[i]?=Z v -> ∃d,ds[i]?=Z d/\d3 K H mu d v:=by
 intro ds vs i d h e
 induction h using df.ind generalizing i with
 |hn=>cases e
 |hc r t ih=>cases i with
  |zero=>cases e;exact⟨_,O,r⟩
  |succ i=>exact ih (i:=i) e
theorem df.append:∀{ds es:List D} {vs ws:List V},df K H mu ds vs->df K H mu es ws->df K H mu (ds++es) (vs++ws):=λh s=>h.ind (P:=λds vs _=>df K H mu (ds++_) (vs++_)) s λr _ ih=>.cons r ih
theorem df.take:∀{ds:List D} {vs:List V} (n:Nat),df K H mu ds vs->df K H mu (ds.take n) (vs.take n):=by
 intro ds vs n h
 induction h using df.ind generalizing n with
 |hn=>rw[av,av];exact .nil
 |hc r t ih=>cases n with
  |zero=>exact .nil
  |succ n=>exact .cons r (ih n)
theorem df.drop:∀{ds:List D} {vs:List V} (n:Nat),df K H mu ds vs->df K H mu (ds.drop n) (vs.drop n):=by
 intro ds vs n h
 induction h using df.ind generalizing n with
 |hn=>rw[aw,aw];exact .nil
 |hc r t ih=>cases n with
  |zero=>exact .cons r t
  |succ n=>exact ih n
theorem df.set{d:D}{v:V}(r:d3 K H mu d v):∀{ds:List D} {vs:List V} (i:Nat),df K H mu ds vs->df K H mu (ds.set i d) (vs.set i v):=by
 intro ds vs i h
 induction h using df.ind generalizing i with
 |hn=>exact .nil
 |hc q t ih=>cases i with
  |zero=>exact .cons r t
  |succ i=>exact .cons q (ih i)
theorem df.eraseIdx:∀{ds:List D} {vs:List V} (i:Nat),df K H mu ds vs->df K H mu (ds.eraseIdx i) (vs.eraseIdx i):=by
 intro ds vs i h
 induction h using df.ind generalizing i with
 |hn=>exact .nil
 |hc q t ih=>cases i with
  |zero=>exact t
  |succ i=>exact .cons q (ih i)
theorem df.reverse:∀{ds:List D} {vs:List V},df K H mu ds vs->df K H mu ds.reverse vs.reverse:=by
 intro ds vs h
 induction h using df.ind with
 |hn=>exact .nil
 |hc r t ih=>rw[aU,aU];exact df.append ih (.cons r .nil)
end
def KR{κ:Type}(K:Fg1)(H:Hp)(mu:List cP):List (κ×D)->List (κ×V)->Prop:=Paired λp q=>p.1=q.1/\d3 K H mu p.2 q.2
mutual
noncomputable def tkD:TK->D
 | .non=>.non
 | .int i=>.int i
 | .tup xs=>.tup (iM xs)
noncomputable def iM:List TK->List D
 |[]=>[]
 |x::xs=>tkD x::iM xs
end
def hR(a:cP)(xs:List (TK×cP×cN))(h:cX):Prop:=(a == sysModules)=J/\(xs.map (·.1)).Nodup /\ ∃o es ep,h.get? a=Z o/\o.ExactDict/\o.data = .dict es ep/\es.toList=xs.map λx=>(⟨x.1.hash,.ref x.2.1,x.2.2⟩:DictEntry)
def Co(a:cP)(xs:List (TK×cP×cN))(o:Obj):Prop:=(a == sysModules)=J/\(xs.map (·.1)).Nodup/\o.ExactDict /\ ∃es ep,o.data = .dict es ep/\es.toList=xs.map λx=>(⟨x.1.hash,.ref x.2.1,x.2.2⟩:DictEntry)
def KT(K:Fg1)(H:Hp)(mu:List cP):List (TK×D)->List (TK×cP×cN)->Prop:=Paired λp q=>p.1=q.1/\p.1.dep<=8/\d3 K H mu (tkD p.1) (.ref q.2.1) /\ ∃v,dy v q.2.2/\d3 K H mu p.2 v
def lB(K:Fg1)(H:Hp)(mu:List cP)(a:cP):Ob->Prop
 | .lst ds=>∃vs,H a=Z (.lst vs)/\df K H mu ds vs
 | .dct kvs=>∃ws,H a=Z (.dK ws)/\KR K H mu kvs ws
 | .dcT kvs=>∃xs,H a=Z (.ext (hR a xs))/\KT K H mu kvs xs/\xs.length<=cV
 | .iset xs=>H a=Z (.set (λk=>xs.contains k) xs.length)/\xs.Nodup
 | .dcF kvs=>∃xs,(∃o u,H a=Z (.frz o u)/\Co a xs o)/\KT K H mu kvs xs/\xs.length<=cV
 | .tst ks=>∃xs,H a=Z (.ext (GB a xs))/\KT K H mu (ks.map λk=>(k,D.non)) xs
structure eF (K:Fg1)(H:Hp)(mu:List cP)(S:c6):Prop where
 len:mu.length=S.length
 nd:mu.Nodup
 ob:∀(n:Nat) (o:Ob) (a:cP),S[n]?=some o->mu[n]?=some a->lB K H mu a o
structure fc (K:Fg1)(H:Hp)(mu:List cP)(r:Ev)(σ:L2.St):Prop where
 len:r.length=σ.length
 val:∀(i:Nat) (d:D),r[i]?=some (some d) -> ∃v,σ[i]?=some (some v)/\d3 K H mu d v
theorem fc.ext{K:Fg1}{mu mu':List cP}{H H':Hp}{r:Ev}{σ:L2.St}(e:Ext mu mu' H H')(h:fc K H mu r σ):fc K H' mu' r σ:=⟨h.len,λi d q=>by
 obtain⟨v,a,b⟩:=h.val i d q;exact⟨v,a,b.ext e⟩⟩
theorem KR.ext{κ:Type}{K:Fg1}{mu mu':List cP}{H H':Hp}{ks:List (κ×D)}{ws:List (κ×V)}(e:Ext mu mu' H H')(h:KR K H mu ks ws):KR K H' mu' ks ws:=
 Paired.mapP h λ_ _ z=>⟨z.1,z.2.ext e⟩
theorem KT.ext{K:Fg1}{mu mu':List cP}{H H':Hp}{ks:List (TK×D)}{ws:List (TK×cP×cN)}(e:Ext mu mu' H H')(h:KT K H mu ks ws):KT K H' mu' ks ws:=
 Paired.mapP h λ_ _ ⟨z,d,k,v,a,r⟩=>⟨z,d,k.ext e,v,a,r.ext e⟩
theorem eF.nil{K:Fg1}{H:Hp}:eF K H [] []:=⟨O,bq,λn o a h=>by simp at h⟩
theorem eF.here{K:Fg1}{H:Hp}{mu:List cP}{S:c6}(s:eF K H mu S){a:cP}(h:a∈mu):∃o,H a=Z o:=by
 obtain⟨n,b⟩:=br h;have c:n<S.length:=by rw[<- s.len];exact(gE1.mp b).1
 have q:=s.ob n _ a (gG1 c) b;cases e:S[n]with
 |lst ds=>rw[e]at q;obtain⟨vs,z,_⟩:=q;exact⟨_,z⟩
 |dct ks=>rw[e]at q;obtain⟨vs,z,_⟩:=q;exact⟨_,z⟩
 |dcT ks=>rw[e]at q;obtain⟨vs,z,_⟩:=q;exact⟨_,z⟩
 |iset xs=>rw[e]at q;exact⟨_,q.1⟩
 |dcF ks=>rw[e]at q;obtain⟨vs,⟨_,_,z,_⟩,_⟩:=q;exact⟨_,z⟩
 |tst ks=>rw[e]at q;obtain⟨vs,z,_⟩:=q;exact⟨_,z⟩
def p0(K:Fg1)(mu:List cP)(H:Hp)(d:D)(S':c6)(Q:VK):Prop:=∀v H' mu',Ext mu mu' H H'->d3 K H' mu' d v->eF K H' mu' S'->Q v H'
inductive tM (K:Fg1)(m:FE)(σ:L2.St)(H:Hp)(Q:VK):Prop
 |mk (r:Ev) (mu:List cP) (S:c6) (d:D) (S':c6) (he:fc K H mu r σ) (hs:eF K H mu S) (hm:m r S=some (d,S')) (hc:p0 K mu H d S' Q)
inductive Ad (K:Fg1)(m:FT)(σ:L2.St)(H:Hp)(Q:Bool->Hp->Prop):Prop
 |mk (r:Ev) (mu:List cP) (S:c6) (b:Bool) (S':c6) (he:fc K H mu r σ) (hs:eF K H mu S) (hm:m r S=some (b,S')) (hc:∀H' mu',Ext mu mu' H H'->eF K H' mu' S'->Q b H')
inductive H0 (K:Fg1)(m:FA)(σ:L2.St)(H:Hp)(Q:List V->Hp->Prop):Prop
 |mk (r:Ev) (mu:List cP) (S:c6) (ds:List D) (S':c6) (he:fc K H mu r σ) (hs:eF K H mu S) (hm:m r S=some (ds,S')) (hc:∀vs H' mu',Ext mu mu' H H'->df K H' mu' ds vs->eF K H' mu' S'->Q vs H')
def Hb(K:Fg1)(mu:List cP)(H:Hp)(r':Ev)(S':c6)(E:jr)(f:Fl):Prop:=match f with
 | .nx=>∀ σ' H' mu',Ext mu mu' H H'->fc K H' mu' r' σ'->eF K H' mu' S'->E.nx σ' H'
 | .bk=>∀ σ' H' mu',Ext mu mu' H H'->fc K H' mu' r' σ'->eF K H' mu' S'->E.bk σ' H'
 | .ct=>∀ σ' H' mu',Ext mu mu' H H'->fc K H' mu' r' σ'->eF K H' mu' S'->E.ct σ' H'
 | .rt d=>p0 K mu H d S' E.rt
inductive wN (K:Fg1)(m:FS)(E:jr)(σ:L2.St)(H:Hp):Prop
 |mk (r:Ev) (mu:List cP) (S:c6) (f:Fl) (r':Ev) (S':c6) (he:fc K H mu r σ) (hs:eF K H mu S) (hm:m r S=some (f,r',S')) (hc:Hb K mu H r' S' E f)
inductive rN (K:Fg1)(f:FN)(vs:List V)(H:Hp)(Q:VK):Prop
 |mk (mu:List cP) (S:c6) (ds:List D) (d:D) (S':c6) (hr:df K H mu ds vs) (hs:eF K H mu S) (hm:f ds S=some (d,S')) (hc:p0 K mu H d S' Q)
abbrev ME(X:Cx)(e:Expr)(m:FE):Prop:=PE X e (tM X.K m)
abbrev MT(X:Cx)(e:Expr)(m:FT):Prop:=PT X e (Ad X.K m)
abbrev MW(X:Cx)(e:Expr)(m:FT):Prop:=PW X e (Ad X.K m)
abbrev MA(X:Cx)(es:List Expr)(m:FA):Prop:=PA X es (H0 X.K m)
abbrev MS(X:Cx)(st:cZ)(m:FS):Prop:=PS X st (wN X.K m)
abbrev zN(X:Cx)(st:List cZ)(m:FS):Prop:=sD X st (wN X.K m)
section
variable{X:Cx}{e:Expr}{es:List Expr}{st:cZ}{sts:List cZ}
theorem em{t t':TE}(h:PE X e t)(i:∀ σ H Q,t' σ H Q->t σ H Q):PE X e t':=λag s σ H Q I q=>h ag s σ H Q I (i σ H Q q)
theorem CW{t t':TT}(h:PT X e t)(i:∀ σ H Q,t' σ H Q->t σ H Q):PT X e t':=λag s σ H Q I q=>h ag s σ H Q I (i σ H Q q)
theorem xO{t t':TT}(h:PW X e t)(i:∀ σ H Q,t' σ H Q->t σ H Q):PW X e t':=λa ag s σ H Q I q=>h a ag s σ H Q I (i σ H Q q)
theorem yc{t t':TA}(h:PA X es t)(i:∀ σ H Q,t' σ H Q->t σ H Q):PA X es t':=λpos ag s σ H Q I q=>h pos ag s σ H Q I (i σ H Q q)
theorem g9{t t':TS}(h:PS X st t)(i:∀E σ H,t' E σ H->t E σ H):PS X st t':=λag s σ H E I q=>h ag s σ H E I (i E σ H q)
theorem uG{t t':TS}(h:sD X sts t)(i:∀E σ H,t' E σ H->t E σ H):sD X sts t':=λag s σ H E I q=>h ag s σ H E I (i E σ H q)
end
noncomputable def mV (i:Nat):FE:=λr S=>match r[i]? with
 |some (some d)=>some (d,S)
 |_=>none
noncomputable def mC (d:D):FE:=λ_ S=>some (d,S)
section
variable{X:Cx}{pos:Pos}
theorem DP (i:Nat){x:Str}(hN:X.N[i]?=Z x)(hv:Vis X.env.scope x)(hd:(x == ("__debug__":Str))=J:=by decide)(hcd:(x == ("__classdict__":Str))=J:=by decide):ME X (.Name x pos) (mV i):=
 em (Da hN hv hd hcd) <| by
  rintro σ H Q ⟨r,mu,S,d,h,b,g,a,hc⟩;unfold mV at a;split at a
  ·rename_i j e;cases a;obtain⟨v,f,c⟩:=b.val i _ e;exact⟨v,f,hc v H mu (.refl _ _) c g⟩
  ·cases a
theorem yD{e:Expr}{v:V}(d:D)(h:PE X e (tC v))(hr:∀H mu,d3 X.K H mu d v):ME X e (mC d):=
 em h <| by
  rintro σ H Q ⟨r,mu,S,g,f,c,b,a,hc⟩;cases a;exact hc v H mu (.refl _ _) (hr H mu) b
theorem DV{i:Int}{j}:ME X (.Constant (.int i) j pos) (mC (.int i)):=yD _ Df λ_ _=>.int i
theorem F1{b:Bool}{j}:ME X (.Constant (.bool b) j pos) (mC (.bl b)):=yD _ Fy λ_ _=>.bl b
theorem DT{j}:ME X (.Constant .none j pos) (mC .non):=yD _ Dd λ_ _=>.non
theorem DR{x:Str}{j}:ME X (.Constant (.str x) j pos) (mC (.str x)):=yD _ Dc λ_ _=>.str x
end
noncomputable def c5:FA:=λ_ S=>Z ([],S)
noncomputable def c4 (m:FE)(n:FA):FA:=λr S=>(m r S).bind λp=>(n r p.2).bind λq=>some (p.1::q.1,q.2)
section
variable{X:Cx}{pos:Pos}{e:Expr}{es:List Expr}{m:FE}{n:FA}
theorem DX:MA X [] c5:=yc mM <| by
 rintro σ H Q ⟨r,mu,S,ds,c,d,a,b,hc⟩;cases b;exact hc [] H mu (.refl _ _) .nil a
theorem Be(h:ME X e m)(ht:MA X es n)(hs:cU (e::es) X.env=(J,eval e X.env)::cU es X.env:=by rfl):MA X (e::es) (c4 m n):=
 yc (j7 h ht hs) <| by
  rintro σ H Q ⟨r,mu,S,ds,t,f,hs,a,hc⟩;unfold c4 at a;obtain⟨⟨d,j⟩,p,a⟩:=oB1.mp a;obtain⟨⟨b,s⟩,q,a⟩:=oB1.mp a;cases a;refine⟨r,mu,S,d,j,f,hs,p,λv H1 mu1 i l o=>?_⟩;refine⟨r,mu1,j,b,_,f.ext i,o,q,λvs H2 c g r2 k=>?_⟩;exact hc _ H2 c (i.trans g) (.cons (l.ext g) r2) k
end
noncomputable def m2 (f:FN)(a b:FE):FE:=λr S=>(a r S).bind λp=>(b r p.2).bind λq=>f [p.1,q.1] q.2
noncomputable def m1 (f:FN)(a:FE):FE:=λr S=>(a r S).bind λp=>f [p.1] p.2
noncomputable def mN (f:FN)(a:FA):FE:=λr S=>(a r S).bind λp=>f p.1 p.2
abbrev r2(K:Fg1)(f:FN):R2:=λx y H Q=>rN K f [x,y] H Q
section
variable{X:Cx}{K:Fg1}{f:FN}{a b:FE}{σ:L2.St}{H:Hp}{Q:VK}
theorem uQ(h:tM K (m2 f a b) σ H Q):E6 (r2 K f) (tM K a) (tM K b) σ H Q:=by
 obtain⟨r,mu,S,d,C,l,s,c,hc⟩:=h;obtain⟨⟨i,k⟩,x,c⟩:=oB1.mp c;obtain⟨⟨j,o⟩,y,c⟩:=oB1.mp c;refine⟨r,mu,S,i,k,l,s,x,λv H1 mu1 n t A=>?_⟩;refine⟨r,mu1,k,j,o,l.ext n,A,y,λu H2 g m r2 p=>?_⟩;exact⟨g,o,[i,j],d,C,.cons (t.ext m) (.cons r2 .nil),p,c,λv B e w z q=>hc v B e ((n.trans m).trans w) z q⟩
theorem F5(h:tM K (m1 f a) σ H Q):HZ (λx H Q=>rN K f [x] H Q) (tM K a) σ H Q:=by
 obtain⟨r,mu,S,d,p,j,s,c,hc⟩:=h;obtain⟨⟨e,g⟩,n,c⟩:=oB1.mp c;refine⟨r,mu,S,e,g,j,s,n,λv H1 mu1 q i o=>?_⟩;exact⟨mu1,g,[e],d,p,.cons i .nil,o,c,λv t b k l m=>hc v t b (q.trans k) l m⟩
theorem yG{a:FA}(h:tM K (mN f a) σ H Q):H0 K a σ H λvs H1=>rN K f vs H1 Q:=by
 obtain⟨r,mu,S,d,p,j,s,c,hc⟩:=h;obtain⟨⟨e,g⟩,n,c⟩:=oB1.mp c;refine⟨r,mu,S,e,g,j,s,n,λv H1 mu1 q i o=>?_⟩;exact⟨mu1,g,e,d,p,i,o,c,λv t b k l m=>hc v t b (q.trans k) l m⟩
theorem FY{op:Operator}{x y:Expr}{pos:Pos}(ho:fj X (binaryOp op) (r2 X.K f))(hx:ME X x a)(hy:ME X y b):ME X (.BinOp x op y pos) (m2 f a b):=em (Fv ho hx hy) λ_ _ _=>uQ
theorem FX{op:UnaryOp}{x:Expr}{pos:Pos}(ho:EO X (unaryOp op) (λx H Q=>rN X.K f [x] H Q))(hx:ME X x a):ME X (.UnaryOp op x pos) (m1 f a):=em (Fu ho hx) λ_ _ _=>F5
theorem DW{op:CmpOp}{x y:Expr}{pos:Pos}(ho:fj X (compareOp op) (r2 X.K f))(hx:ME X x a)(hy:ME X y b)(hm:behindInMarks op y=J):ME X (.Compare x [op] [y] pos) (m2 f a b):=em (AJ ho hx hy hm) λ_ _ _=>uQ
theorem FZ{x y:Expr}{pos:Pos}(ho:Cm X (r2 X.K f))(hx:ME X x a)(hy:ME X y b)(hs:l5 y):ME X (.Subscript x y pos) (m2 f a b):=em (Fw ho hx hy hs) λ_ _ _=>uQ
theorem yC {x:Str}{p pos:Pos}{e:Expr}{es:List Expr}{id:String}{a:FA}(hc:eG X (.builtin id) (rN X.K f))(hg:Gl X x)(hm:X.mg x=none)(hv:bootBuiltins x=some (.builtin id))(ha:MA X (e::es) a)(hn:x≠"__name__":=by decide)(hdb:(x == ("__debug__":Str))=false:=by decide)
  (he:cU (e::es) X.env=(J,eval e X.env)::cU es X.env:=by rfl) (hpl:(backTo pos (cU es X.env)).any (·.1)=J:=by rfl):ME X (.Call (.Name x p) (e::es) [] pos) (mN f a):=
 em (qz hc hg hm hv ha hn hdb he hpl) λ_ _ _=>yG
theorem v6 {x:Str}{p pos:Pos}{e:Expr}{es:List Expr}{T:String}{a:FA}(hc:eG X (.type T) (rN X.K f))(hg:Gl X x)(hm:X.mg x=none)(hv:bootBuiltins x=some (.type T))(ha:MA X (e::es) a)(hn:x≠"__name__":=by decide)(hdb:(x == ("__debug__":Str))=false:=by decide)
  (he:cU (e::es) X.env=(J,eval e X.env)::cU es X.env:=by rfl) (hpl:(backTo pos (cU es X.env)).any (·.1)=J:=by rfl):ME X (.Call (.Name x p) (e::es) [] pos) (mN f a):=
 em (jh hc hg hm hv ha hn hdb he hpl) λ_ _ _=>yG
end
noncomputable def mB (m:FE):FT:=λr S=>(m r S).bind λp=>match p.1 with
 | .bl b=>some (b,p.2)
 |_=>none
theorem F4{K:Fg1}{m:FE}{σ:L2.St}{H:Hp}{Q:Bool->Hp->Prop}(h:Ad K (mB m) σ H Q):tB (tM K m) σ H Q:=by
 obtain⟨r,mu,S,b,l,d,j,a,hc⟩:=h;obtain⟨⟨e,n⟩,f,a⟩:=oB1.mp a;cases e with
 |bl k=>
  cases a;refine⟨r,mu,S,_,_,d,j,f,λv H1 mu1 i c g=>?_⟩;cases c;exact⟨_,O,hc H1 mu1 i g⟩
 |_=>cases a
noncomputable def rn(a b:FT):FT:=λr S=>(a r S).bind λp=>if p.1=M then b r p.2 else Z (J,p.2)
noncomputable def F3(a b:FT):FT:=λr S=>(a r S).bind λp=>if p.1=M then Z (M,p.2)else b r p.2
noncomputable def I0(a:FT):FT:=λr S=>(a r S).bind λp=>Z (!p.1,p.2)
noncomputable def Ie(a b:FE):FE:=λr S=>(a r S).bind λp=>match p.1 with
 | .bl c=>if c=M then b r p.2 else Z (.bl J,p.2)
 |_=>Y
noncomputable def IZ(a b:FE):FE:=λr S=>(a r S).bind λp=>match p.1 with
 | .bl c=>if c=M then Z (.bl M,p.2)else b r p.2
 |_=>Y
noncomputable def Ic(a:FE):FE:=λr S=>(a r S).bind λp=>match p.1 with
 | .bl c=>Z (.bl (!c),p.2)
 |_=>Y
noncomputable def rj(c:FT)(a b:FE):FE:=λr S=>(c r S).bind λp=>if p.1=M then a r p.2 else b r p.2
section
variable{X:Cx}{x y c:Expr}{rest:List Expr}{pos:Pos}{a b:FT}{f g:FE}
theorem DA{op:CmpOp}{f:FN}{a b:FE}(ho:fj X (compareOp op) (r2 X.K f))(hx:ME X x a)(hy:ME X y b)(hm:behindInMarks op y=J):MT X (.Compare x [op] [y] pos) (mB (m2 f a b)):=
 CW (As ho hx hy hm) fun σ H Q h=>by
  obtain⟨r,mu,S,d,i,c,k,hm,hc⟩:=F4 h;exact uQ ⟨r,mu,S,d,i,c,k,hm,λv H' mu' j e g=>hc v H' mu' j e g⟩
theorem AY(ha:MT X x a):MW X (.BoolOp .And [x] pos) a:=Ap ha
theorem Dy(ha:MT X x a):MW X (.BoolOp .Or [x] pos) a:=CS ha
theorem Dz(ha:MT X x a)(hb:MW X (.BoolOp .And (y::rest) pos) b):MW X (.BoolOp .And (x::y::rest) pos) (rn a b):=
 xO (CT ha hb) <| by
  rintro σ H Q ⟨r,mu,S,k,m,f,n,c,hc⟩;obtain⟨⟨b1,h⟩,j,c⟩:=oB1.mp c;refine⟨r,mu,S,b1,h,f,n,j,λH1 mu1 d g=>?_⟩;cases b1 with
  |true=>exact⟨r,mu1,h,k,m,f.ext d,g,c,λH2 e l i=>hc H2 e (d.trans l) i⟩
  |false=>cases c;exact hc H1 mu1 d g
theorem FU(ha:MT X x a)(hb:MW X (.BoolOp .Or (y::rest) pos) b):MW X (.BoolOp .Or (x::y::rest) pos) (F3 a b):=
 xO (Fq ha hb) <| by
  rintro σ H Q ⟨r,mu,S,k,m,f,n,c,hc⟩;obtain⟨⟨b1,h⟩,j,c⟩:=oB1.mp c;refine⟨r,mu,S,b1,h,f,n,j,λH1 mu1 d g=>?_⟩;cases b1 with
  |false=>exact⟨r,mu1,h,k,m,f.ext d,g,c,λH2 e l i=>hc H2 e (d.trans l) i⟩
  |true=>cases c;exact hc H1 mu1 d g
theorem Hx(h:MW X x a):MT X x a:=PW.pt h
theorem F0(hc:MT X c a)(hx:ME X x f)(hy:ME X y g):ME X (.IfExp c x y pos) (rj a f g):=
 em (x9 hc hx hy) <| by
  rintro σ H Q ⟨r,mu,S,k,o,j,q,d,hc⟩;obtain⟨⟨b1,m⟩,p,d⟩:=oB1.mp d;refine⟨r,mu,S,b1,m,j,q,p,λH1 mu1 e n=>?_⟩;cases b1 with
  |true=>exact⟨r,mu1,m,k,o,j.ext e,n,d,λh H2 b l r2 i=>hc h H2 b (e.trans l) r2 i⟩
  |false=>exact⟨r,mu1,m,k,o,j.ext e,n,d,λh H2 b l r2 i=>hc h H2 b (e.trans l) r2 i⟩
end
section
variable{X:Cx}{x y z:Expr}{pos:Pos}{f g:FN}{a b c:FE}{op op':CmpOp}
end
mutual
noncomputable def D.und(n:Nat):D->Bool
 | .tup xs=>D.unds n xs
 | .rol xs=>D.unds n xs
 | .ref k=>decide (k<n)
 | .non=>M
 | .bl _=>M
 | .int _=>M
 | .str _=>M
 | .fn _=>M
noncomputable def D.unds(n:Nat):List D->Bool
 |[]=>M
 |d::ds=>D.und n d&&D.unds n ds
end
mutual
noncomputable def D.same:D->D->Bool
 | .non,.non=>M
 | .bl a,.bl b=>a == b
 | .int a,.int b=>decide (a=b)
 | .str a,.str b=>decide (a=b)
 | .tup xs,.tup ys=>D.sames xs ys
 | .rol xs,.rol ys=>D.sames xs ys
 | .ref a,.ref b=>decide (a=b)
 | .fn a,.fn b=>decide (a=b)
 |_,_=>J
noncomputable def D.sames:List D->List D->Bool
 |[],[]=>M
 |x::xs,y::ys=>D.same x y&&D.sames xs ys
 |_,_=>J
end
mutual
theorem D.same_eq:∀{a b:D},D.same a b=M->a=b
 | .non,.non,_=>rfl
 | .non,.bl _,h=>by simp[D.same]at h
 | .non,.int _,h=>by simp[D.same]at h
 | .non,.str _,h=>by simp[D.same]at h
 | .non,.tup _,h=>by simp[D.same]at h
 | .non,.rol _,h=>by simp[D.same]at h
 | .non,.ref _,h=>by simp[D.same]at h
 | .non,.fn _,h=>by simp[D.same]at h
 | .bl _,.non,h=>by simp[D.same]at h
 | .bl x,.bl y,h=>by simp[D.same]at h;rw[h]
 | .bl _,.int _,h=>by simp[D.same]at h
 | .bl _,.str _,h=>by simp[D.same]at h
 | .bl _,.tup _,h=>by simp[D.same]at h
 | .bl _,.rol _,h=>by simp[D.same]at h
 | .bl _,.ref _,h=>by simp[D.same]at h
 | .bl _,.fn _,h=>by simp[D.same]at h
 | .int _,.non,h=>by simp[D.same]at h
 | .int _,.bl _,h=>by simp[D.same]at h
 | .int x,.int y,h=>by simp[D.same]at h;rw[h]
 | .int _,.str _,h=>by simp[D.same]at h
 | .int _,.tup _,h=>by simp[D.same]at h
 | .int _,.rol _,h=>by simp[D.same]at h
 | .int _,.ref _,h=>by simp[D.same]at h
 | .int _,.fn _,h=>by simp[D.same]at h
 | .str _,.non,h=>by simp[D.same]at h
 | .str _,.bl _,h=>by simp[D.same]at h
 | .str _,.int _,h=>by simp[D.same]at h
 | .str x,.str y,h=>by simp[D.same]at h;rw[h]
 | .str _,.tup _,h=>by simp[D.same]at h
 | .str _,.rol _,h=>by simp[D.same]at h
 | .str _,.ref _,h=>by simp[D.same]at h
 | .str _,.fn _,h=>by simp[D.same]at h
 | .tup _,.non,h=>by simp[D.same]at h
 | .tup _,.bl _,h=>by simp[D.same]at h
 | .tup _,.int _,h=>by simp[D.same]at h
 | .tup _,.str _,h=>by simp[D.same]at h
 | .tup x,.tup y,h=>by rw[D.same]at h;rw[D.sames_eq h]
 | .tup _,.rol _,h=>by simp[D.same]at h
 | .tup _,.ref _,h=>by simp[D.same]at h
 | .tup _,.fn _,h=>by simp[D.same]at h
 | .rol _,.non,h=>by simp[D.same]at h
 | .rol _,.bl _,h=>by simp[D.same]at h
 | .rol _,.int _,h=>by simp[D.same]at h
 | .rol _,.str _,h=>by simp[D.same]at h
 | .rol _,.tup _,h=>by simp[D.same]at h
 | .rol x,.rol y,h=>by rw[D.same]at h;rw[D.sames_eq h]
 | .rol _,.ref _,h=>by simp[D.same]at h
 | .rol _,.fn _,h=>by simp[D.same]at h
 | .ref _,.non,h=>by simp[D.same]at h
 | .ref _,.bl _,h=>by simp[D.same]at h
 | .ref _,.int _,h=>by simp[D.same]at h
 | .ref _,.str _,h=>by simp[D.same]at h
 | .ref _,.tup _,h=>by simp[D.same]at h
 | .ref _,.rol _,h=>by simp[D.same]at h
 | .ref x,.ref y,h=>by simp[D.same]at h;rw[h]
 | .ref _,.fn _,h=>by simp[D.same]at h
 | .fn _,.non,h=>by simp[D.same]at h
 | .fn _,.bl _,h=>by simp[D.same]at h
 | .fn _,.int _,h=>by simp[D.same]at h
 | .fn _,.str _,h=>by simp[D.same]at h
 | .fn _,.tup _,h=>by simp[D.same]at h
 | .fn _,.rol _,h=>by simp[D.same]at h
 | .fn _,.ref _,h=>by simp[D.same]at h
 | .fn x,.fn y,h=>by simp[D.same]at h;rw[h]
theorem D.sames_eq:∀{a b:List D},D.sames a b=M->a=b
 |[],[],_=>rfl
 |x::xs,y::ys,h=>by
  rw[D.sames,bA1]at h;rw[D.same_eq h.1,D.sames_eq h.2]
 |[],_::_,h=>by simp[D.sames]at h
 |_::_,[],h=>by simp[D.sames]at h
end
mutual
theorem D.same_refl:∀a:D,D.same a a=M
 | .non=>rfl
 | .bl a=>by simp[D.same]
 | .int a=>by simp[D.same]
 | .str a=>by simp[D.same]
 | .tup xs=>by rw[D.same];exact D.sames_refl xs
 | .rol xs=>by rw[D.same];exact D.sames_refl xs
 | .ref a=>by simp[D.same]
 | .fn a=>by simp[D.same]
theorem D.sames_refl:∀a:List D,D.sames a a=M
 |[]=>rfl
 |x::xs=>by rw[D.sames,D.same_refl x,D.sames_refl xs];rfl
end
section
variable{K:Fg1}{H:Hp}{mu mu':List cP}
theorem d3.cut{n:Nat}(h:∀ k,k<n->mu[k]? = mu'[k]?):∀ {d:D} {v:V},d3 K H mu d v->d.und n=true->d3 K H mu' d v:=fun c=>c.rec (motive_1:=fun d v _=>d.und n=true->d3 K H mu' d v) (motive_2:=fun ds vs _=>D.unds n ds=true->df K H mu' ds vs)
  (λ_=>.non) (λb _=>.bl b) (λi _=>.int i) (λx _=>.str x) (λq _ ih e=>.tup q (ih (by rw[D.und]at e;exact e))) (λq _ ih e=>.rol q (ih (by rw[D.und]at e;exact e)))
  (λq e=>.ref (by rw[D.und]at e;rw[<- h _ (of_decide_eq_true e)];exact q)) (λq _=>.fn q) (λ_=>.nil) (λ_ _ a b e=>by rw[D.unds,bA1]at e;exact .cons (a e.1) (b e.2))
theorem df.cut{n:Nat}(h:∀k,k<n->mu[k]?=mu'[k]?):∀{ds:List D} {vs:List V},df K H mu ds vs->D.unds n ds=M->df K H mu' ds vs:=λa=>a.ind (P:=λds vs _=>D.unds n ds=M->df K H mu' ds vs) (λ_=>.nil) λr _ b e=>by rw[D.unds,bA1]at e;exact .cons (d3.cut h r e.1) (b e.2)
end
noncomputable def Ob.und(n:Nat):Ob->Bool
 | .lst xs=>D.unds n xs
 | .dct kvs=>D.unds n (kvs.map (·.2))
 | .dcT kvs=>D.unds n (kvs.map (·.2))
 | .iset _=>M
 | .dcF kvs=>D.unds n (kvs.map (·.2))
 | .tst _=>M
theorem KR.cut{κ:Type}{K:Fg1}{H:Hp}{mu mu':List cP}{n:Nat}(h:∀k,k<n->mu[k]?=mu'[k]?):∀{ks:List (κ×D)} {ws:List (κ×V)},KR K H mu ks ws->D.unds n (ks.map (·.2))=M->KR K H mu' ks ws:=by
 intro ks ws a e
 induction a with
 |nil=>exact .nil
 |cons r t ih=>
  rw[mP1,D.unds,bA1]at e;exact .cons ⟨r.1,r.2.cut h e.1⟩ (ih e.2)
mutual
theorem xn(n:Nat):∀k:TK,(tkD k).und n=M
 | .non=>rfl
 | .int _=>rfl
 | .tup xs=>by rw[tkD,D.und];exact uu n xs
theorem uu(n:Nat):∀ks:List TK,D.unds n (iM ks)=M
 |[]=>rfl
 |x::xs=>by rw[iM,D.unds,xn n x,uu n xs];rfl
end
theorem KT.cut{K:Fg1}{H:Hp}{mu mu':List cP}{n:Nat}(h:∀k,k<n->mu[k]?=mu'[k]?):∀{ks:List (TK×D)} {ws:List (TK×cP×cN)},KT K H mu ks ws->D.unds n (ks.map (·.2))=M->KT K H mu' ks ws:=by
 intro ks ws b e
 induction b with
 |nil=>exact .nil
 |cons r t ih=>
  rw[mP1,D.unds,bA1]at e;obtain⟨z,d,k,v,a,r⟩:=r;exact .cons ⟨z,d,k.cut h (xn n _),v,a,r.cut h e.1⟩ (ih e.2)
theorem uM(n:Nat):∀ks:List TK,D.unds n ((ks.map λk=>(k,D.non)).map (·.2))=M
 |[]=>rfl
 |_::ks=>by rw[mP1,mP1,D.unds,uM n ks];rfl
theorem lB.cut{K:Fg1}{H:Hp}{mu mu':List cP}{n:Nat}{a:cP}(h:∀k,k<n->mu[k]?=mu'[k]?):∀{o:Ob},lB K H mu a o->o.und n=M->lB K H mu' a o
 | .lst _,⟨vs,e,r⟩,b=>⟨vs,e,r.cut h b⟩
 | .dct _,⟨ws,e,r⟩,b=>⟨ws,e,KR.cut h r b⟩
 | .dcT _,⟨ws,e,r,l⟩,b=>⟨ws,e,KT.cut h r b,l⟩
 | .iset _,q,_=>q
 | .dcF _,⟨ws,e,r,l⟩,b=>⟨ws,e,KT.cut h r b,l⟩
 | .tst ks,⟨ws,e,r⟩,_=>⟨ws,e,KT.cut h r (uM n ks)⟩
noncomputable def gc(n:Nat)(p:D×c6):D×c6:=if p.1.und n&&(p.2.take n).all (Ob.und n)then(p.1,p.2.take n)else p
mutual
noncomputable def D.sh(n:Nat):D->D
 | .tup xs=>.tup (D.shs n xs)
 | .rol xs=>.rol (D.shs n xs)
 | .ref k=>.ref (n+k)
 | .fn x=>.fn x
 | .non=>.non
 | .bl b=>.bl b
 | .int i=>.int i
 | .str x=>.str x
noncomputable def D.shs(n:Nat):List D->List D
 |[]=>[]
 |d::ds=>D.sh n d::D.shs n ds
end
noncomputable def Ob.sh(n:Nat):Ob->Ob
 | .lst xs=>.lst (D.shs n xs)
 | .dct kvs=>.dct (kvs.map λp=>(p.1,p.2.sh n))
 | .dcT kvs=>.dcT (kvs.map λp=>(p.1,p.2.sh n))
 | .iset xs=>.iset xs
 | .dcF kvs=>.dcF (kvs.map λp=>(p.1,p.2.sh n))
 | .tst ks=>.tst ks
theorem d3.sh{K:Fg1}{H:Hp}{mu mu':List cP}:∀ {d:D} {v:V},d3 K H mu' d v->d3 K H (mu++mu') (d.sh mu.length) v:=fun c=>c.rec (motive_1:=fun d v _=>d3 K H (mu++mu') (d.sh mu.length) v) (motive_2:=fun ds vs _=>df K H (mu++mu') (D.shs mu.length ds) vs)
  .non .bl .int .str (λh _ ih=>.tup h ih) (λh _ ih=>.rol h ih) (λh=>.ref (by rw[gR1 (bt _ _),Nat.add_sub_cancel_left];exact h)) (λh=>.fn h) .nil (λ_ _ a b=>.cons a b)
theorem df.sh{K:Fg1}{H:Hp}{mu mu':List cP}:∀{ds:List D} {vs:List V},df K H mu' ds vs->df K H (mu++mu') (D.shs mu.length ds) vs:=λh=>h.ind (P:=λds vs _=>df K H (mu++mu') (D.shs mu.length ds) vs) .nil λr _ ih=>.cons (d3.sh r) ih
theorem KR.sh{κ:Type}{K:Fg1}{H:Hp}{mu mu':List cP}:∀{ks:List (κ×D)} {ws:List (κ×V)},KR K H mu' ks ws->KR K H (mu++mu') (ks.map λp=>(p.1,p.2.sh mu.length)) ws:=by
 intro ks ws h
 induction h with
 |nil=>exact .nil
 |cons r t ih=>exact .cons ⟨r.1,r.2.sh⟩ ih
mutual
theorem B4(n:Nat):∀k:TK,(tkD k).sh n=tkD k
 | .non=>rfl
 | .int _=>rfl
 | .tup xs=>by rw[tkD,D.sh,xk n xs]
theorem xk(n:Nat):∀ks:List TK,D.shs n (iM ks)=iM ks
 |[]=>rfl
 |x::xs=>by rw[iM,D.shs,B4 n x,xk n xs]
end
theorem KT.sh{K:Fg1}{H:Hp}{mu mu':List cP}:∀{ks:List (TK×D)} {ws:List (TK×cP×cN)},KT K H mu' ks ws->KT K H (mu++mu') (ks.map λp=>(p.1,p.2.sh mu.length)) ws:=by
 intro ks ws h
 induction h with
 |nil=>exact .nil
 |cons r t ih=>
  obtain⟨z,d,k,v,a,r⟩:=r;exact .cons ⟨z,d,by have:=k.sh (mu:=mu);rw[B4]at this;exact this,v,a,r.sh⟩ ih
theorem lB.sh{K:Fg1}{H:Hp}{mu mu':List cP}{a:cP}:∀{o:Ob},lB K H mu' a o->lB K H (mu++mu') a (o.sh mu.length)
 | .lst _,⟨vs,e,r⟩=>⟨vs,e,r.sh⟩
 | .dct _,⟨ws,e,r⟩=>⟨ws,e,KR.sh r⟩
 | .dcT _,⟨ws,e,r,l⟩=>⟨ws,e,KT.sh r,l⟩
 | .iset _,q=>q
 | .dcF _,⟨ws,e,r,l⟩=>⟨ws,e,KT.sh r,l⟩
 | .tst ks,⟨ws,e,r⟩=>⟨ws,e,by have:=KT.sh (mu:=mu) r;rw[bu]at this;exact this⟩
theorem d3.mor{K:Fg1}{H:Hp}{mu:List cP}(mu':List cP):∀{d:D} {v:V},d3 K H mu d v->d3 K H (mu++mu') d v:=λh=>h.exv ⟨bv _ _,λ_ _ h=>h,λ_ _ _ h=>h⟩
theorem df.mor{K:Fg1}{H:Hp}{mu:List cP}(mu':List cP):∀{ds:List D} {vs:List V},df K H mu ds vs->df K H (mu++mu') ds vs:=λh=>h.exv ⟨bv _ _,λ_ _ h=>h,λ_ _ _ h=>h⟩
theorem KR.mor{κ:Type}{K:Fg1}{H:Hp}{mu:List cP}(mu':List cP){ks:List (κ×D)}{ws:List (κ×V)}(h:KR K H mu ks ws):KR K H (mu++mu') ks ws:=Paired.mapP h λ_ _ z=>⟨z.1,z.2.mor mu'⟩
theorem lB.mor{K:Fg1}{H:Hp}{mu:List cP}{a:cP}(mu':List cP):∀{o:Ob},lB K H mu a o->lB K H (mu++mu') a o
 | .lst _,⟨vs,e,r⟩=>⟨vs,e,r.mor mu'⟩
 | .dct _,⟨ws,e,r⟩=>⟨ws,e,KR.mor mu' r⟩
 | .dcT _,⟨ws,e,r,l⟩=>⟨ws,e,Paired.mapP r λ_ _ ⟨z,d,k,v,b,r⟩=>⟨z,d,k.mor mu',v,b,r.mor mu'⟩,l⟩
 | .iset _,q=>q
 | .dcF _,⟨ws,e,r,l⟩=>⟨ws,e,Paired.mapP r λ_ _ ⟨z,d,k,v,b,r⟩=>⟨z,d,k.mor mu',v,b,r.mor mu'⟩,l⟩
 | .tst _,⟨ws,e,r⟩=>⟨ws,e,Paired.mapP r λ_ _ ⟨z,d,k,v,b,r⟩=>⟨z,d,k.mor mu',v,b,r.mor mu'⟩⟩
noncomputable def lp(f:FN):FN:=λds S=>if D.unds 0 ds=M then(f ds []).map λp=>if p.1.und 0=M then(p.1,S)else(p.1.sh S.length,S++p.2.map (Ob.sh S.length))else(f ds S).map (gc S.length)
theorem lB.keep{K:Fg1}{H H':Hp}{mu:List cP}{a:cP}(e:Ext mu mu H H')(h:∀o,H a=Z o->H' a=Z o):∀{o:Ob},lB K H mu a o->lB K H' mu a o
 | .lst _,⟨vs,q,r⟩=>⟨vs,h _ q,r.ext e⟩
 | .dct _,⟨ws,q,r⟩=>⟨ws,h _ q,KR.ext e r⟩
 | .dcT _,⟨ws,q,r,l⟩=>⟨ws,h _ q,KT.ext e r,l⟩
 | .iset _,q=>⟨h _ q.1,q.2⟩
 | .dcF _,⟨ws,⟨o,u,b,c⟩,r,l⟩=>⟨ws,⟨o,u,h _ b,c⟩,KT.ext e r,l⟩
 | .tst _,⟨ws,q,r⟩=>⟨ws,h _ q,KT.ext e r⟩
theorem si{K:Fg1}{f:FN}{vs:List V}{H:Hp}{Q:VK}(h:rN K (lp f) vs H Q):rN K f vs H Q:=by
 obtain⟨mu,S,ds,d,ao,C,c,g,hc⟩:=h;unfold lp at g;split at g
 ·rename_i j;obtain⟨⟨u,p⟩,A,g⟩:=oM1.mp g;refine⟨[],[],ds,u,p,C.cut (n:=0) (λk i=>absurd i (bw _)) j,.nil,A,λv H' mu' x r s=>?_⟩;have B:Ext mu mu H H':=⟨bp,λa o e _=>x.old a o e (by simp),x.tup,x.frz,λ_ z=>.inl z⟩;dsimp only at g;split at g
  ·rename_i I;cases g;refine hc v H' mu B (r.cut (n:=0) (λk i=>absurd i (bw _)) I) ⟨c.len,c.nd,λn o a h1 h2=>?_⟩;exact(c.ob n o a h1 h2).keep B λo e=>x.old a o e (by simp)
  ·cases g;have E:∀ a∈mu',H a=none:=fun a y=>(x.new a y).resolve_left (by simp);have G:Ext mu (mu++mu') H H':=⟨bv _ _,fun a o e _=>x.old a o e (by simp),x.tup,x.frz,fun a z=>by
    rcases aF.mp z with z|z
    ·exact .inl z
    ·exact .inr (E a z)⟩
   refine hc v H' (mu++mu') G (by rw[<- c.len];exact r.sh) ⟨by rw[lA1,lA1,lM1,c.len,s.len],?_,λn o a h1 h2=>?_⟩
   ·refine bx.mpr ⟨c.nd,s.nd,λa y b j z=>?_⟩;subst z;obtain⟨o,e⟩:=c.here y;rw[E a j]at e;cases e
   ·by_cases l:n<S.length
    ·rw[gL1 l]at h1;rw[gL1 (by rw[c.len];exact l)]at h2;exact((c.ob n o a h1 h2).keep B λo e=>x.old a o e (by simp)).mor mu'
    ·have m:=bd l;rw[gR1 m]at h1;rw[gR1 (by rw[c.len];exact m)]at h2;rw[gP1]at h1;obtain⟨L,am,F⟩:=oM1.mp h1;subst F;have q:=s.ob (n-S.length) L a am (by rw[c.len]at h2;exact h2);rw[<- c.len];exact q.sh
 ·obtain⟨⟨u,p⟩,A,g⟩:=oM1.mp g;refine⟨mu,S,ds,u,p,C,c,A,λv H' mu' x r s=>?_⟩;unfold gc at g;split at g
  ·rename_i j;cases g;rw [bA1] at j;have i:∀ k,k<S.length->mu'[k]? = mu[k]?:=fun k i=>by
    obtain⟨t,rfl⟩:=x.pre;rw[gL1 (by rw[c.len];exact i)]
   refine hc v H' mu x.back (r.cut i j.1) ⟨?_,c.nd,λn o a h1 h2=>?_⟩
   ·have:=s.len;have D:=x.pre.length_le;rw[aP,<- s.len];rw[c.len]at D ⊢;exact(bA D).symm
   ·have l:n<S.length:=by rw[<- c.len];exact(gE1.mp h2).1
    have w:p[n]?=Z o:=by rw[aR l]at h1;exact h1
    refine(s.ob n o a w ((i n l).trans h2)).cut i ?_;exact bB.mp j.2 o (gM1 h1)
  ·cases g;exact hc v H' mu' x r s
noncomputable def zP(K:Fg1)(n:Nat)(f:FN):Sp:=λvs H Q _=>vs.length=n/\rN K f vs H Q
section
variable{X:Cx}{k n:Nat}{f:cP}{fd:cY}{ps:List Str}{x:Str}{p pos:Pos}{e:Expr}{es:List Expr}{m:FN}{a:FA}
noncomputable def c7 (n:Nat)(f:FN):FN:=λds S=>if ds.length=n then lp f ds S else none
theorem Bd (F:jp X.prog X.w X.K X.mg X.base sy k f fd ps (zP X.K n m))(hr:fb k X.A)(hg:Gl X x)(hm:X.mg x=some (.ref f))(hk:wK1 X.K (.ref f)=true)(hb:kF X.K fd ps [])
  (ha:MA X (e::es) a) (hdb:(x == ("__debug__":Str))=J:=by decide) (he:cU (e::es) X.env=(J,eval e X.env)::cU es X.env:=by rfl) (hpl:(backTo pos (cU es X.env)).any (·.1)=J:=by rfl):
  ME X (.Call (.Name x p) (e::es) [] pos) (mN (c7 n m) a):=
 em (AK (E:=E0) F hr hg hm hk hb .nil Fz ha hdb he hpl) fun σ H Q h=>by
  obtain⟨r,mu,S,ds,t,he,w,hm,hc⟩:=yG h;refine⟨r,mu,S,ds,t,he,w,hm,λvs H' mu' v j l=>?_⟩;have q:=hc vs H' mu' v j l;show zP X.K n m (vs++[]) H' Q E0;rw[aL];obtain⟨d,s,c,g,i,h1,h2,b,o⟩:=q;unfold c7 at b;split at b
  ·rename_i u;exact⟨by rw[<- h1.length];exact u,si ⟨d,s,c,g,i,h1,h2,b,o⟩⟩
  ·cases b
end
noncomputable def nz:FS:=λr S=>Z (.nx,r,S)
noncomputable def di (a b:FS):FS:=λr S=>(a r S).bind λp=>match p.1 with
 | .nx=>b p.2.1 p.2.2
 |f=>some (f,p.2.1,p.2.2)
noncomputable def d7 (m:FE):FS:=λr S=>(m r S).bind λp=>some (.rt p.1,r,p.2)
noncomputable def Ib:FS:=λr S=>Z (.rt .non,r,S)
noncomputable def eE (m:FE):FS:=λr S=>(m r S).bind λp=>some (.nx,r,p.2)
noncomputable def gg (c:FT)(a b:FS):FS:=λr S=>(c r S).bind λp=>if p.1=true then a r p.2 else b r p.2
section
variable{X:Cx}{pos:Pos}{e c:Expr}{st:cZ}{rest as bs:List cZ}{a b:FS}{m:FE}{t:FT}
theorem A1:zN X [] nz:=uG Av <| by
 rintro E σ H ⟨r,mu,S,f,d,e,a,c,b,hc⟩;cases b;exact hc σ H mu (.refl _ _) a c
theorem yv(h1:MS X st a)(h2:zN X rest b):zN X (st::rest) (di a b):=uG (xQ h1 h2) <| by
 rintro E σ H ⟨r,mu,S,f,p,s,o,t,h,hc⟩;obtain⟨⟨m,l,n⟩,q,h⟩:=oB1.mp h;refine⟨r,mu,S,m,l,n,o,t,q,?_⟩;cases m with
 |nx=>
  intro u H1 mu1 i k j;refine⟨l,mu1,n,f,p,s,k,j,h,?_⟩;cases f with
  |nx=>exact λe H2 c g=>hc e H2 c (i.trans g)
  |bk=>exact λe H2 c g=>hc e H2 c (i.trans g)
  |ct=>exact λe H2 c g=>hc e H2 c (i.trans g)
  |rt d=>exact λv H2 c g=>hc v H2 c (i.trans g)
 |bk=>cases h;exact hc
 |ct=>cases h;exact hc
 |rt d=>cases h;exact hc
theorem A0(h1:MS X st a):zN X [st] a:=Au h1
theorem A4(h:ME X e m)(hs:swapsWith e Y pos.line X.env=pure J:=by rfl):MS X (.Expr e pos) (eE m):=g9 (Aw h hs) <| by
 rintro E σ H ⟨r,mu,S,f,j,k,b,hs,a,hc⟩;obtain⟨⟨d,l⟩,g,a⟩:=oB1.mp a;cases a;exact⟨r,mu,S,d,_,b,hs,g,λv H' mu' x i c=>hc σ H' mu' x (b.ext x) c⟩
theorem DC(h:ME X e m):MS X (.Return (Z e) pos) (d7 m):=g9 (C0 h) <| by
 rintro E σ H ⟨r,mu,S,f,i,j,b,g,a,hc⟩;obtain⟨⟨d,k⟩,c,a⟩:=oB1.mp a;cases a;exact⟨r,mu,S,d,_,b,g,c,hc⟩
theorem FW(hc:MT X c t)(ha:zN X as a)(hb:zN X bs b):MS X (.If c as bs pos) (gg t a b):=g9 (Fs hc ha hb) <| by
 rintro E σ H ⟨r,mu,S,f,o,p,m,u,i,hc⟩;obtain⟨⟨k,l⟩,s,i⟩:=oB1.mp i;refine⟨r,mu,S,k,l,m,u,s,λH1 mu1 j q=>?_⟩;have n:∀c:FS,c r l=Z (f,o,p)->wN X.K c E σ H1:=λc i=>by
  refine⟨r,mu1,l,f,o,p,m.ext j,q,i,?_⟩;cases f with
  |nx=>exact λg H2 e h=>hc g H2 e (j.trans h)
  |bk=>exact λg H2 e h=>hc g H2 e (j.trans h)
  |ct=>exact λg H2 e h=>hc g H2 e (j.trans h)
  |rt d=>exact λv H2 e h=>hc v H2 e (j.trans h)
 cases k with
 |true=>exact n a i
 |false=>exact n b i
end
abbrev FG:=D->Ev->c6->Option (Ev×c6)
abbrev zO:=List D->Ev->c6->Option (Ev×c6)
inductive E8 (K:Fg1)(g:FG)(v:V)(σ:L2.St)(H:Hp)(Q:L2.St->Hp->Prop):Prop
 |mk (r:Ev) (mu:List cP) (S:c6) (d:D) (r':Ev) (S':c6) (he:fc K H mu r σ) (hs:eF K H mu S) (hr:d3 K H mu d v) (hm:g d r S=some (r',S')) (hc:∀ σ' H' mu',Ext mu mu' H H'->fc K H' mu' r' σ'->eF K H' mu' S'->Q σ' H')
inductive Hd (K:Fg1)(g:zO)(vs:List V)(σ:L2.St)(H:Hp)(Q:L2.St->Hp->Prop):Prop
 |mk (r:Ev) (mu:List cP) (S:c6) (ds:List D) (r':Ev) (S':c6) (he:fc K H mu r σ) (hs:eF K H mu S) (hr:df K H mu ds vs) (hm:g ds r S=some (r',S')) (hc:∀ σ' H' mu',Ext mu mu' H H'->fc K H' mu' r' σ'->eF K H' mu' S'->Q σ' H')
abbrev MG(X:Cx)(e:Expr)(g:FG):Prop:=PG X e (E8 X.K g)
abbrev GE(X:Cx)(es:List Expr)(g:zO):Prop:=EE X es (Hd X.K g)
noncomputable def gN (i:Nat):FG:=λd r S=>some (r.set i (some d),S)
noncomputable def gNl:zO:=λds r S=>match ds with
 |[]=>Z (r,S)
 |_=>Y
noncomputable def gCs (g:FG)(gs:zO):zO:=λds r S=>match ds with
 |d::ds=>(g d r S).bind λp=>gs ds p.1 p.2
 |[]=>none
noncomputable def gT (n:Nat)(gs:zO):FG:=λd r S=>match d with
 | .tup ds=>if ds.length=n then gs ds r S else none
 |_=>none
theorem fc.set{K:Fg1}{H:Hp}{mu:List cP}{r:Ev}{σ:L2.St}{i:Nat}{d:D}{v:V}(h:fc K H mu r σ)(q:d3 K H mu d v):fc K H mu (r.set i (Z d)) (σ.set i (Z v)):=by
 refine⟨by rw[aT,aT];exact h.len,λj g e=>?_⟩;by_cases a:i=j
 ·subst a;have b:i<r.length:=by
   have:=(gE1.mp e).1
   rwa [aT]at this
  rw[aH b]at e;cases e;exact⟨v,aH (by rw[<- h.len];exact b),q⟩
 ·rw[gS1 a]at e;obtain⟨k,f,c⟩:=h.val j g e;exact⟨k,by rw[gS1 a];exact f,c⟩
section
variable{X:Cx}{pos:Pos}
theorem tf{e:Expr}{t t':TG}(h:PG X e t)(i:∀v σ H Q,t' v σ H Q->t v σ H Q):PG X e t':=λag s σ H v u Q I r q=>h ag s σ H v u Q I r (i v σ H Q q)
theorem uH{e:List Expr}{t t':Cj}(h:EE X e t)(i:∀v σ H Q,t' v σ H Q->t v σ H Q):EE X e t':=λag s σ H v u Q I r q=>h ag s σ H v u Q I r (i v σ H Q q)
theorem Bb(i:Nat){x:Str}(hN:X.N.Nodup)(hi:X.N[i]?=Z x)(hx:uh X.env.scope x)(hf:X.fn x=M\/X.env.scope.names.lookup x=Z .local:=by first|exact .inl rfl|exact .inr rfl|assumption):MG X (.Name x pos) (gN i):=
 tf (uI hN hi hx hf) <| by
  rintro v σ H Q ⟨r,mu,S,d,f,g,a,c,e,b,hc⟩;cases b;exact hc _ H mu (.refl _ _) (a.set e) c
theorem Ba:GE X [] gNl:=uH AF <| by
 rintro vs σ H Q ⟨r,mu,S,ds,e,f,b,c,d,a,hc⟩;unfold gNl at a;split at a
 ·cases a;cases d;exact⟨O,hc σ H mu (.refl _ _) b c⟩
 ·cases a
theorem yx{e:Expr}{es:List Expr}{g:FG}{h:zO}(h1:MG X e g)(h2:GE X es h)(hs:(assignEach (e::es) X.env).map (·.2)=assign e X.env::(assignEach es X.env).map (·.2):=by rfl):GE X (e::es) (gCs g h):=
 uH (xY h1 h2 hs) <| by
  rintro vs σ H Q ⟨r,mu,S,ds,l,p,k,hs,s,a,hc⟩;unfold gCs at a;split at a
  ·obtain⟨⟨f,j⟩,n,a⟩:=oB1.mp a;cases s with
   |cons q t=>
    exact⟨_,_,O,r,mu,S,_,f,j,k,hs,q,n,λu H1 mu1 i d m=>⟨f,mu1,j,_,l,p,d,m,t.ext i,a,λb H2 c o=>hc b H2 c (i.trans o)⟩⟩
  ·cases a
theorem DM{es:List Expr}{k:Nat}{b:zO}{n:Nat}(hc:X.calm=M)(h:GE X es b)(hn:(assignEach es X.env).length=n:=by rfl)(hst:(assignEach es X.env).findIdx? (·.1)=Y:=by rfl):MG X (.Tuple es k pos) (gT n b):=
 tf (C8 hc h hn hst) <| by
  rintro v σ H Q ⟨r,mu,S,d,e,f,c,i,j,a,hc⟩;cases d with
  |tup ds=>
   rw[gT]at a;split at a
   ·rename_i g;cases j with
    |tup q t=>exact⟨_,_,O,q,by rw[<- t.length];exact g,r,mu,S,ds,e,f,c,i,t,a,hc⟩
   ·cases a
  |_=>cases a
inductive rU (K:Fg1)(f:FN)(o i v:V)(H:Hp)(Q:Hp->Prop):Prop
 |mk (mu:List cP) (S:c6) (ds:List D) (d:D) (S':c6) (hr:df K H mu ds [o,i,v]) (hs:eF K H mu S) (hm:f ds S=some (d,S')) (hc:∀H' mu',Ext mu mu' H H'->eF K H' mu' S'->Q H')
noncomputable def gS(f:FN)(a b:FE):FG:=λd r S=>(a r S).bind λp=>(b r p.2).bind λq=>(f [p.1,q.1,d] q.2).bind λt=>Z (r,t.2)
theorem DN{o i:Expr}{a b:FE}{f:FN}(ho:ME X o a)(hi:ME X i b)(hs:ug X (rU X.K f))(ha:∀v,assign (.Subscript o i pos) X.env v=(do
   let ov<-holding [v] (eval o X.env)
   let iv<-holding [v,ov] (eval i X.env)
   standAt pos
   holding [v,ov,iv] (setItem ov iv v)
   release [v,ov,iv] []):=by intro _;rfl):MG X (.Subscript o i pos) (gS f a b):=
 tf (C9 ho hi hs ha) <| by
  rintro v σ H Q ⟨r,mu,S,d,G,I,j,hs,y,c,hc⟩;obtain⟨⟨l,p⟩,x,c⟩:=oB1.mp c;obtain⟨⟨m,q⟩,A,c⟩:=oB1.mp c;obtain⟨⟨t,F⟩,z,c⟩:=oB1.mp c;cases c;refine⟨r,mu,S,l,p,j,hs,x,λD H1 mu1 g w B=>?_⟩;refine⟨r,mu1,p,m,q,j.ext g,B,A,λE H2 k e r2 s=>?_⟩;exact⟨k,q,[l,m,d],t,_,.cons (w.ext e) (.cons r2 (.cons ((y.ext g).ext e) .nil)),s,z,λC h n u=>hc σ C h ((g.trans e).trans n) (((j.ext g).ext e).ext n) u⟩
noncomputable def dk (m:FE)(g:FG):FS:=λr S=>(m r S).bind λp=>(g p.1 r p.2).bind λq=>some (.nx,q.1,q.2)
theorem pB{K:Fg1}{m:FE}{g:FG}{E:jr}{σ:L2.St}{H:Hp}(h:wN K (dk m g) E σ H):xt (tM K m) (E8 K g) E σ H:=by
 obtain⟨r,mu,S,f,s,u,d,p,a,hc⟩:=h;obtain⟨⟨e,j⟩,l,a⟩:=oB1.mp a;obtain⟨⟨r2,t⟩,q,a⟩:=oB1.mp a;cases a;refine⟨r,mu,S,e,j,d,p,l,λv H1 mu1 i k n=>?_⟩;exact⟨r,mu1,j,e,_,_,d.ext i,n,k,q,λb H2 c o=>hc b H2 c (i.trans o)⟩
theorem DF{tg e:Expr}{m:FE}{g:FG}(he:ME X e m)(hg:MG X tg g)(hs:swapsWithSole [tg] e pos.line X.env=pure J:=by rfl)(hw:swappedStores [tg] e X.env=pure Y:=by rfl)(h1:(assignEach [tg] X.env).map (·.2)=[assign tg X.env]:=by rfl):MS X (.Assign [tg] e pos) (dk m g):=g9 (C4 he hg hs hw h1) λ_ _ _=>pB
theorem DB(i:Nat){x:Str}{e:Expr}{m:FE}{pos':Pos}(hN:X.N.Nodup)(hi:X.N[i]? = some x)(hx:uh X.env.scope x)(he:ME X e m)(hs:swapsWith e (some (.Name x pos')) pos.line X.env=pure false:=by rfl)(hf:X.fn x=true\/X.env.scope.names.lookup x=some .local:=by first | exact .inl rfl | exact .inr rfl | assumption):
  MS X (.Assign [.Name x pos'] e pos) (dk m (gN i)):=g9 (CZ hN hi hx he hs hf) λE σ H h=>by
 obtain⟨r,mu,S,d,k,h1,h2,p,j⟩:=pB h;refine⟨r,mu,S,d,k,h1,h2,p,λv H' mu' l b g=>?_⟩;obtain⟨r2,a,u,s,t,w,n,c,o,q,f⟩:=j v H' mu' l b g;cases q;exact f _ H' a (.refl _ _) (n.set o) c
noncomputable def Bg(i:Nat)(f:FN)(m:FE):FS:=λr S=>match r[i]? with
 |some (Z d)=>(m r S).bind λp=>(f [d,p.1] p.2).bind λq=>Z (.nx,r.set i (Z q.1),q.2)
 |_=>Y
theorem DE(i:Nat){x:Str}{e:Expr}{m:FE}{op:Operator}{f:FN}{pos':Pos}(hN:X.N.Nodup)(hi:X.N[i]? = some x)(hx:uh X.env.scope x)(he:ME X e m)(ho:GY X op (r2 X.K f))(hf:X.fn x=true\/X.env.scope.names.lookup x=some .local:=by first | exact .inl rfl | exact .inr rfl | assumption):
  MS X (.AugAssign (.Name x pos') op e pos) (Bg i f m):=g9 (C3 hN hi hx he ho hf) <| by
 rintro E σ H ⟨r,mu,S,A,B,D,he,l,a,hc⟩;unfold Bg at a;split at a
 ·rename_i d e;obtain⟨⟨g,j⟩,p,a⟩:=oB1.mp a;obtain⟨⟨n,C⟩,q,a⟩:=oB1.mp a;cases a;obtain⟨v,y,w⟩:=he.val i d e;refine⟨v,y,r,mu,S,g,j,he,l,p,λz H1 mu1 c o t=>?_⟩;exact⟨mu1,j,[d,g],n,_,.cons (w.ext c) (.cons o .nil),t,q,λF u b h s k=>hc _ u b (c.trans h) (((he.ext c).ext h).set s) k⟩
 ·cases a
end
noncomputable def qa (c:FT)(b:FS):Nat->FS
 |0=>λ_ _=>none
 | n+1=>fun r S=>(c r S).bind fun p=>if p.1=true then (b r p.2).bind fun q=>match q.1 with
   | .nx=>qa c b n q.2.1 q.2.2
   | .ct=>qa c b n q.2.1 q.2.2
   | .bk=>some (.nx,q.2.1,q.2.2)
   | .rt d=>some (.rt d,q.2.1,q.2.2)
  else some (.nx,r,p.2)
theorem Cs{K:Fg1}{c:FT}{b:FS}{n:Nat}{E:jr}{σ:L2.St}{H:Hp}(h:wN K (qa c b n) E σ H):xp (Ad K c) (wN K b) E σ H:=by
 refine⟨λm a H'=>wN K (qa c b m) E a H',⟨n,h⟩,λm u H1 q=>?_⟩;obtain⟨r,mu,S,f,C,D,t,F,i,hc⟩:=q;cases m with
 |zero=>cases i
 |succ m=>
  obtain⟨⟨k,A⟩,G,i⟩:=oB1.mp i;refine⟨r,mu,S,k,A,t,F,G,λH2 e o w=>?_⟩;cases k with
  |false=>
   cases i;exact hc u H2 e o (t.ext o) w
  |true=>
   obtain⟨⟨z,p,s⟩,I,i⟩:=oB1.mp i;have B:∀{a H' mu'},Ext e mu' H2 H'->fc K H' mu' p a->eF K H' mu' s->qa c b m p s=Z (f,C,D)->wN K (qa c b m) E a H':=λ{a H' mu'} x g l i=>by
    refine⟨p,mu',s,f,C,D,g,l,i,?_⟩;cases f with
    |nx=>exact λj H2 e y=>hc j H2 e ((o.trans x).trans y)
    |bk=>exact λj H2 e y=>hc j H2 e ((o.trans x).trans y)
    |ct=>exact λj H2 e y=>hc j H2 e ((o.trans x).trans y)
    |rt d=>exact λv H2 e y=>hc v H2 e ((o.trans x).trans y)
   refine⟨λa H'=>wN K (qa c b m) E a H',λa H' q=>⟨m,bC _,q⟩,r,e,A,z,p,s,t.ext o,w,I,?_⟩;cases z with
   |nx=>exact λa H' mu' x g l=>B x g l i
   |ct=>exact λa H' mu' x g l=>B x g l i
   |bk=>cases i;exact λa H' mu' x g l=>hc a H' mu' (o.trans x) g l
   |rt d=>cases i;exact λv H' mu' x p l=>hc v H' mu' (o.trans x) p l
theorem yw{X:Cx}{pos:Pos}(n:Nat){c:Expr}{a:List cZ}{t:FT}{b:FS}(hp:PassesOwn (model X.prog X.w) X.A X.env X.xe)(hc:MT X c t)(hb:zN X a b):MS X (.While c a [] pos) (qa t b n):=
 g9 (xR hp hc hb) λ_ _ _=>Cs
structure wS where
 items:List D
 chk:List (Nat×List D)
noncomputable def n9 (S:c6):List (Nat×List D)->Bool
 |[]=>true
 | (n,xs)::c=>(match S[n]? with
   |some (.lst ys)=>D.sames ys xs
   |_=>false)&&n9 S c
def HX(K:Fg1)(j:It)(am:wS)(mu:List cP)(H:Hp):Prop:=∀i H1 mu1 S1,qg mu mu1 H H1->eF K H1 mu1 S1->n9 S1 am.chk=M ->
 (∀d,am.items[i]?=Z d->j.go i H1 /\ ∀x H2,j.yld i H1 x H2->Ext mu1 mu1 H1 H2/\eF K H2 mu1 S1/\d3 K H2 mu1 d x)/\(am.items.length<=i->j.stop i H1)
abbrev FI:=Ev->c6->Option (wS×c6)
inductive Hc (K:Fg1)(m:FI)(σ:L2.St)(H:Hp)(R:It->Hp->Prop):Prop
 |mk (r:Ev) (mu:List cP) (S:c6) (am:wS) (S':c6) (he:fc K H mu r σ) (hs:eF K H mu S) (hm:m r S=some (am,S')) (hc:∀j H' mu',Ext mu mu' H H'->HX K j am mu' H'->eF K H' mu' S'->R j H')
abbrev MI(X:Cx)(tg iter:Expr)(m:FI):Prop:=PI X tg iter (Hc X.K m)
theorem mJ{X:Cx}{tg e:Expr}{t t':TI}(h:PI X tg e t)(i:∀ σ H R,t' σ H R->t σ H R):PI X tg e t':=λag s σ H R I q=>h ag s σ H R I (i σ H R q)
theorem Ft{X:Cx}{tg e:Expr}{t t':TI}(h:PI X tg e t)(h':PI X tg e t'):PI X tg e (fun σ H R=>t σ H R\/t' σ H R):=λag s σ H R I q=>q.elim (h ag s σ H R I) (h' ag s σ H R I)
noncomputable def kg (c:List (Nat×List D))(g:FG)(b:FS):List D->FS
 |[]=>λr S=>if n9 S c=true then some (.nx,r,S)else none
 | d::ds=>fun r S=>if n9 S c=true then (g d r S).bind fun p=>(b p.1 p.2).bind fun q=>match q.1 with
   | .nx=>kg c g b ds q.2.1 q.2.2
   | .ct=>kg c g b ds q.2.1 q.2.2
   | .bk=>some (.nx,q.2.1,q.2.2)
   | .rt v=>some (.rt v,q.2.1,q.2.2)
  else none
noncomputable def fO (m:FI)(g:FG)(b:FS):FS:=λr S=>(m r S).bind λp=>kg p.1.chk g b p.1.items r p.2
theorem ll{α:Type}{l:List α}{i:Nat}{d:α}{ds:List α}(h:l.drop i=d::ds):l[i]?=Z d/\l.drop (i+1)=ds:=by
 have h1:l[i]?=Z d:=by
  have:=congrArg (·[0]?) h;simpa using this
 refine⟨h1,?_⟩;rw[<- List.drop_drop,h];rfl
inductive HU (K:Fg1)(mu1:List cP)(H1:Hp)(c:List (Nat×List D))(g:FG)(b:FS)(f:Fl)(r':Ev)(S':c6)(L:List D)(σ':L2.St)(H':Hp):Prop
 |mk (r2:Ev) (mu2:List cP) (S2:c6):Ext mu1 mu2 H1 H'->fc K H' mu2 r2 σ'->eF K H' mu2 S2->kg c g b L r2 S2=some (f,r',S')->HU K mu1 H1 c g b f r' S' L σ' H'
theorem Bf{K:Fg1}{m:FI}{g:FG}{b:FS}{E:jr}{σ:L2.St}{H:Hp}(h:wN K (fO m g b) E σ H):E9 (Hc K m) (E8 K g) (wN K b) E σ H:=by
 obtain⟨r,mu,S,f,U,V,P,X,F,hc⟩:=h;obtain⟨⟨am,au⟩,wq,F⟩:=oB1.mp F;refine⟨r,mu,S,am,au,P,X,wq,λj H1 mu1 z ao s1=>?_⟩;refine⟨λi k t H'=>k=(am.items.drop i).length/\HU K mu1 H1 am.chk g b f U V (am.items.drop i) t H',⟨_,O,r,mu1,au,.refl _ _,P.ext z,s1,F⟩,?_⟩;rintro i k C H2 ⟨rfl,r2,l,S2,n,w,B,a⟩;cases hl:am.items.drop i with
 |nil=>
  left;rw[hl]at a;rw[kg]at a;dsimp only at a;split at a
  ·rename_i ok;cases a;refine⟨(ao i H2 l _ n.w B ok).2 (List.drop_eq_nil_iff.mp hl),?_⟩;exact hc C H2 l (z.trans n) w B
  ·cases a
 |cons d ds=>
  right;rw[hl]at a;obtain⟨hi,R⟩:=ll hl;rw[kg]at a;dsimp only at a;split at a
  ·rename_i ok;obtain⟨⟨Q,N⟩,e3,a⟩:=oB1.mp a;obtain⟨⟨T,D,G⟩,e4,a⟩:=oB1.mp a;obtain⟨go,yl⟩:=(ao i H2 l _ n.w B ok).1 d hi;refine⟨go,HU K mu1 H1 am.chk g b f U V ds,?_,λx H3 y=>?_⟩
   ·intro t H' h5;exact⟨ds.length,bC _,(congrArg List.length R).symm,R.symm ▸ h5⟩
   ·obtain⟨s,W,q3⟩:=yl x H3 y;refine⟨r2,l,S2,d,Q,N,w.ext s,W,q3,e3,fun σ4 H4 L A I s4=>?_⟩;refine⟨Q,L,N,T,D,G,I,s4,e4,?_⟩;cases T with
    |nx=>exact λp u c o e q=>⟨D,c,G,(n.trans s).trans (A.trans o),e,q,a⟩
    |ct=>exact λp u c o e q=>⟨D,c,G,(n.trans s).trans (A.trans o),e,q,a⟩
    |bk=>cases a;exact λp u c o e q=>hc p u c ((z.trans n).trans (s.trans (A.trans o))) e q
    |rt v=>cases a;exact λv5 u c o aq q=>hc v5 u c ((z.trans n).trans (s.trans (A.trans o))) aq q
  ·cases a
theorem DD{X:Cx}{pos:Pos}{tg iter:Expr}{a:List cZ}{m:FI}{g:FG}{b:FS}(hp:PassesOwn (model X.prog X.w) X.A X.env X.xe)(hc:X.calm=M)(hi:MI X tg iter m)(hg:MG X tg g)(hb:zN X a b)(hs:∀x,foldedSetIterable iter X.env x=pure x:=by intro _;rfl):MS X (.For tg iter a [] pos) (fO m g b):=g9 (C2 hp hc hi hg hb hs) λ_ _ _=>Bf
noncomputable def gD(n:Nat)(ds:List D):Ev:=ds.map Z++aN (n-ds.length) Y
noncomputable def gL (n:Nat)(b:FS):FN:=λds S=>(b (gD n ds) S).bind λp=>match p.1 with
 | .rt d=>some (d,p.2.2)
 | .nx=>some (.non,p.2.2)
 |_=>none
theorem vN{K:Fg1}{H:Hp}{mu:List cP}{ds:List D}{vs:List V}(N:List Str)(h:df K H mu ds vs):fc K H mu (gD N.length ds) (L2.start N vs):=by
 refine⟨?_,λi d e=>?_⟩
 ·unfold gD L2.start;rw[lA1,lA1,lM1,lM1,lR1,lR1,h.length]
 ·unfold gD at e;unfold L2.start;by_cases hi:i<ds.length
  ·rw[gL1 (by rw[lM1];exact hi),gP1]at e;obtain⟨f,a,c⟩:=oM1.mp e;cases c;obtain⟨v,b,r⟩:=h.get a;refine⟨v,?_,r⟩;rw[gL1 (by rw[lM1,<- h.length];exact hi),gP1,b];rfl
  ·rw[gR1 (by rw[lM1];lia)]at e;have:=gM1 e;rw[List.mem_replicate]at this;cases this.2
theorem Gh{P:cQ}{w:cS}{K:Fg1}{mg:Str->Option cN}{base:cX}{x c:Str}{st:cZ}{f:cP}{fd:cY}{N ps:List Str}{k:Nat}{b:FS}(F:wT K x c st f fd)(S:fS N ps (dz st))(g:∀(e:cN) (A:cR) (a:List Env) (s:cO) (H:Hp) (E:XK),fb k (A.deeper (envOfC c (dz st) s.heap.objs.size f e)) ->
   zN (lI sy P w K mg base N c (dz st) f e A a s H E).nox (eI st) b):jp P w K mg base sy (k+1) f fd ps (zP K ps.length (gL N.length b)):=by
 refine wT.ok F S (λvs H Q E h=>h.1) λe A a s H vs Q E p j=>⟨_,g e A a s H E p,?_⟩;obtain⟨_,mu,St,ds,d,u,h1,h2,i,l⟩:=j;unfold gL at i;obtain⟨⟨m,n,r⟩,o,i⟩:=oB1.mp i;refine⟨_,mu,St,m,n,r,vN N h1,h2,o,?_⟩;cases m with
 |nx=>cases i;exact λq H' mu' x t s=>l .non H' mu' x .non s
 |rt d=>cases i;exact l
 |bk=>cases i
 |ct=>cases i
noncomputable def jn(cells:List (Str×cP)):List (Str×NameKind)->List (Str×cP)->Option (List (Str×cP))
 |[],acc=>Z acc
 |(n,k)::r,acc=>if k == .free then(cells.lookup n).bind λc=>jn cells r ((n,c)::acc)else jn cells r acc
theorem tZ{env:Env}(f:Str×NameKind->List (Str×cP)->Sem (ForInStep (List (Str×cP))))(hf:∀n k d,f (n,k) d=if k == .free then(do let c<-cellOf env n;pure (.yield ((n,c)::d)))else pure (.yield d)):
  ∀(a:List (Str×NameKind)) (acc b:List (Str×cP)),jn env.cells a acc=Z b->forIn a acc f=(pure b:Sem (List (Str×cP)))
 |[],acc,b,h=>by cases h;rfl
 |(n,k)::r,acc,b,h=>by
  rw[List.forIn_cons,hf];unfold jn at h;split at h
  ·rename_i g;rw[ak g];obtain⟨c,e,h⟩:=oB1.mp h;have:cellOf env n=pure c:=by unfold cellOf;rw[e]
   rw[this,pure_bind,pure_bind];exact tZ f hf r _ b h
  ·rename_i g;rw[aj g,pure_bind];exact tZ f hf r _ b h
theorem zu{scope:c3}{env:Env}{cl:List (Str×cP)}(h:jn env.cells scope.names []=Z cl):closureFor scope env=pure cl:=by
 simp only[closureFor];rw[tZ (env:=env) _ (λn k a=>by cases hk:k == NameKind.free<;>simp[hk]) scope.names [] cl h];rfl
theorem tY{a:List (Str×cP)}:∀{b:List (Str×NameKind)} {acc d:List (Str×cP)},jn a b acc=Z d->(∀x c,acc.lookup x=Z c->a.lookup x=Z c) -> ∀x c,d.lookup x=Z c->a.lookup x=Z c
 |[],acc,d,h,ha=>by cases h;exact ha
 |(n,k)::r,acc,d,h,ha=>by
  unfold jn at h;split at h
  ·obtain⟨c,e,h⟩:=oB1.mp h;refine tY h λx c' q=>?_;rw[bD]at q;split at q
   ·rename_i f;cases q;rw[beq_iff_eq.mp f];exact e
   ·exact ha x c' q
  ·exact tY h ha
theorem lY{b:List (Str×cP)}{x:Str}:∀{a:List (Str×NameKind)} {acc d:List (Str×cP)},jn b a acc=Z d->(a.lookup x=Z .free\/(acc.lookup x).isSome=M)->(d.lookup x).isSome=M
 |[],acc,d,h,ha=>by
  cases h;rcases ha with q|q
  ·cases q
  ·exact q
 |(n,k)::r,acc,d,h,ha=>by
  unfold jn at h;split at h
  ·obtain⟨c,e,h⟩:=oB1.mp h;refine lY h ?_;rcases ha with q|q
   ·rw[bD]at q;split at q
    ·rename_i f;right;rw[bD,f];rfl
    ·exact .inl q
   ·right;rw[bD];split
    ·rfl
    ·exact q
  ·rename_i g;refine lY h ?_;rcases ha with q|q
   ·rw[bD]at q;split at q
    ·cases q;exact absurd O g
    ·exact .inl q
   ·exact .inr q
theorem fR{x:Str}{c:cP}:∀{a:List (Str×NameKind)} {n:Nat} {acc:List (Str×cP)},(cellsFrom n a acc).lookup x=Z c->(n<=c/\(x,c)∈cellsFrom n a [])\/acc.lookup x=Z c
 |[],_,_,h=>.inr h
 |(y,k)::r,n,acc,h=>by
  unfold cellsFrom at h ⊢;split at h
  ·rename_i b;rw [if_pos b];have app:∀ (a:List (Str×NameKind)) (m:Nat) (acc:List (Str×cP)),cellsFrom m a acc=cellsFrom m a []++acc:=by
    intro a
    induction a with
    |nil=>intro m acc;rfl
    |cons p r ih=>
     obtain⟨z,q⟩:=p;intro m acc;unfold cellsFrom;split
     ·rw[ih _ ((z,m)::acc),ih _ [(z,m)],aY];rfl
     ·exact ih m acc
   rcases fR h with⟨h1,h2⟩|h1
   ·refine .inl ⟨by lia,?_⟩;rw[app];exact aG _ h2
   ·rw[bD]at h1;split at h1
    ·rename_i d;cases h1;refine .inl ⟨nR1 _,?_⟩;rw[app,beq_iff_eq.mp d];exact mA1 _ mS1
    ·exact .inr h1
  ·rename_i b;rw[aj b];exact fR h
theorem nI{x:Str}{c:cP}{n:Nat}{acc:List (Str×cP)}{a:List (Str×NameKind)}(hx:a.lookup x=Z .cell)(h:(cellsFrom n a acc).lookup x=Z c):n<=c:=by
 have app:∀(a:List (Str×NameKind)) (m:Nat) (acc:List (Str×cP)),cellsFrom m a acc=cellsFrom m a []++acc:=by
  intro a
  induction a with
  |nil=>intro m acc;rfl
  |cons p r ih=>
   obtain⟨z,q⟩:=p;intro m acc;unfold cellsFrom;split
   ·rw[ih _ ((z,m)::acc),ih _ [(z,m)],aY];rfl
   ·exact ih m acc
 rw[app,List.lookup_append]at h;have q:=PySem.W.cellsFrom_some a n [] (.inl hx);obtain⟨c',e⟩:=aO.mp q;rw[e]at h;cases h;rcases fR e with⟨h1,_⟩|h1
 ·exact h1
 ·cases h1
theorem jz {ao:Model}{A:cR}{E:cN->cO->Prop}{s:cO}{scope:c3}{globals:cP}{c:List (Str×cP)}{qual:Str}{func:Option cP}{code:cN}{env:Env}{b:cP}{Q:Env->cO->Prop}
  (d:Q {scope,locals:=s.heap.objs.size,globals,cells:=cellsFrom (s.heap.objs.size+1) scope.names c,qual,func,code:=env.code,frame:=env.frame,builtins:=env.builtins}
   {s with heap:=pushCells (s.heap.push {cls:=.type "dict",data:=.dict #[]}) scope.names}):
  cW ao A (newFunctionEnv scope globals c [] qual func code (Z env) b) Q E s:=by
 simp only[newFunctionEnv,Option.isSome_some,if_true];refine wB1 (wpAny_alloc ?_);refine wB1 (wpAny_layCells _ (λname a cells=>by cases hkc:a == NameKind.cell<;>simp[hkc]) _ _ _ _ ?_);rw[show({s with heap:=s.heap.push {cls:=.type "dict",data:=.dict #[]}}:cO).heap.objs.size=s.heap.objs.size+1 from hZ1 ..];refine wB1 ?_;rw[List.forIn_nil];exact wP1 (wP1 d)
noncomputable def cxC(X:Cx)(scope:c3)(cl:List (Str×cP))(T:List Str)(keep:List Nat)(s:cO)(H:Hp)(fp:List cP):Cx where
 prog:=X.prog
 w:=X.w
 K:=X.K
 mg:=X.mg
 base:=X.base
 A:=X.A
 N:=T++keep.map λi=>X.N.getD i (Str.ofString "")
 s₀:=s
 H₀:=H
 env:=compEnvC scope (cellsFrom (s.heap.objs.size+1) scope.names cl) s.heap.objs.size X.env
 outer:=X.stack
 stack:=X.stack
 ex:=fp
 fn:=λx=>scope.names.lookup x == Z .cell
 calm:=X.calm
 pn:=[]
 xe:=λ_ _=>False
noncomputable def pG(k:Nat)(keep:List Nat)(σ:L2.St):L2.St:=aN k Y++keep.map λi=>(σ[i]?).join
theorem iY{env:Env}{x:Str}:∀ {a:List (Str×NameKind)},
  (a.map λ(n,k)=>if(k == NameKind.free&&env.scope.kind == .function&&env.kindOf n == Z .cell)then(n,NameKind.cell)else(n,k)).lookup x =
   (a.lookup x).map λk=>if(k == NameKind.free&&env.scope.kind == .function&&env.kindOf x == Z .cell)then NameKind.cell else k
 |[]=>rfl
 |(n,k)::r=>by
  show List.lookup x ((if(k == NameKind.free&&env.scope.kind == .function&&env.kindOf n == Z .cell)=M then(n,NameKind.cell)else(n,k))::_)=_;cases hx:x == n with
  |true=>
   have e:=beq_iff_eq.mp hx;subst e;by_cases hc:(k == NameKind.free&&env.scope.kind == .function&&env.kindOf x == Z .cell)=M
   ·rw[ak hc,bD,hx,bD,hx];simp only[oP1,ak hc]
   ·rw[aj hc,bD,hx,bD,hx];simp only[oP1,aj hc]
  |false=>
   have ih:=@iY env x r;by_cases hc:(k == NameKind.free&&env.scope.kind == .function&&env.kindOf n == Z .cell)=M
   ·rw[ak hc,bD,hx,bD,hx];exact ih
   ·rw[aj hc,bD,hx,bD,hx];exact ih
structure GH (X:Cx)(scope:c3)(T:List Str)(keep:List Nat):Prop where
 kind:scope.kind = .function
 names:∀x∈scope.names,x.2 = .local->scope.names.lookup x.1=some .local
 free:∀i∈keep,∃x,X.N[i]?=some x/\scope.names.lookup x=some .free/\(X.env.kindOf x=some .cell\/X.env.kindOf x=some .free)/\(x,NameKind.cell)∉scope.names
theorem rA{X:Cx}{ag:List (cP×Obj)}{σ:L2.St}{H:Hp}{s:cO}{scope:c3}{w:List (Str×cP)}{T:List Str}{keep:List Nat}{D:List cP}(I:Inv X ag σ H s)(C:GH X scope T keep)(B:jn X.env.cells scope.names []=some w)(hf:∀b∈D,jo X ag H b)(K:∀b∈D,∃o,s.heap.get? b=some o):
  Inv (cxC X scope w T keep s H D) [] (pG T.length keep σ) H {s with heap:=pushCells (s.heap.push {cls:=.type "dict",data:=.dict #[]}) scope.names}:=by
 have kept:∀b o,s.heap.get? b=Z o->(pushCells (s.heap.push {cls:=.type "dict",data:=.dict #[]}) scope.names).get? b=Z o:=λb o e=>pushCells_keeps _ _ b o (hP1 _ e);have A:=cellsFrom_ok scope.names (s.heap.push {cls:=.type "dict",data:=.dict #[]}) (s.heap.objs.size+1) [] ⟨λ_ _ U=>(nomatch U),List.Pairwise.nil⟩ (by rw[hZ1];exact nR1 _);rw[hZ1]at A;have am:=tY B (λx c q=>by cases q)
 -- a cell of the block: its own or an elder one
 have d:∀x c,(cellsFrom (s.heap.objs.size+1) scope.names w).lookup x=Z c->(s.heap.objs.size+1<=c/\(x,c)∈cellsFrom (s.heap.objs.size+1) scope.names [])\/X.env.cells.lookup x=Z c:=λx c h=>by
  rcases fR h with h1|h1
  ·exact .inl h1
  ·exact .inr (am x c h1)
 have g:∀x c,X.env.cells.lookup x=Z c->c<s.heap.objs.size:=λx c e=>by
  obtain⟨v,z⟩:=I.cell x c e;exact z.lt
 have t:∀b∈D,b<s.heap.objs.size:=λb l=>by
  obtain⟨o,e⟩:=K b l;exact hL1 e
 have fst:∀b∈D,b∉frs X.stack:=λb l z=>by
  rcases aE.mp (I.stkSub b z)with q|q
  ·exact(hf b l).2.1 q
  ·exact(hf b l).2.2.1 q
 have kindOf:∀x,(cxC X scope w T keep s H D).env.kindOf x=(scope.names.lookup x).map λk=>if(k == NameKind.free&&X.env.scope.kind == .function&&X.env.kindOf x == Z .cell)then NameKind.cell else k:=λx=>iY
 refine⟨⟨I.ok.mod,C.kind,I.ok.glob,I.ok.blt,nR1 _,λx y c h1 h2=>?_,λx E=>?_,λx c h1 h2=>?_,I.ok.hd,I.ok.frames,.inl O,λb l=>⟨nN1 (t b l),λx c h z=>?_⟩,λb o e=>I.bs b o e,aC I.ok.bsz I.sz,λb o e l=>?_,fst,I.stack,I.stkFree⟩,
  rfl,I.bare,Un.kept kept,⟨λ_=>Y,(Heap.Ns.new s.heap (.type "dict")).keeps (pushCells_keeps _ _),λi x v h1 h2 h3=>?_⟩,λx c h=>?_,I.hok.fresh (nR1 _),λx c h=>?_,λp hp=>absurd (show p∈([]:List (cP×Obj))from hp) (by simp),I.hok.kept kept,?_⟩
 ·rcases d x c h1 with⟨a1,a2⟩|a1<;>rcases d y c h2 with⟨b1,b2⟩|b1
  ·exact name_of_addr A.apart a2 b2
  ·exact absurd (bE (bF a1) (g y c b1)) (az _)
  ·exact absurd (bE (bF b1) (g x c a1)) (az _)
  ·exact I.ok.inj x y c a1 b1
 ·have G:scope.names.lookup x=some .cell\/scope.names.lookup x=some .free:=by
   rw[kindOf x]at E;cases e:scope.names.lookup x with
   |none=>rw[e]at E;rcases E with z|z<;>cases z
   |some k=>
    rw[e]at E;simp only[oP1]at E;cases k<;>simp_all
  have:((cellsFrom (s.heap.objs.size+1) scope.names w).lookup x).isSome=M:=by
   rcases G with z|z
   ·exact PySem.W.cellsFrom_some _ _ _ (.inl z)
   ·exact PySem.W.cellsFrom_some _ _ _ (.inr (lY B (.inl z)))
  exact aO.mp this
 ·have f:scope.names.lookup x=Z .cell:=by simpa[cxC]using h1
  have:=nI f h2;exact aC (aX _) this
 ·subst z;rcases d x c h with⟨a1,_⟩|a1
  ·exact absurd (bE (bF a1) (t c l)) (az _)
  ·exact(hf c l).2.2.2.2.1 x c a1 O
 ·rcases(hf b l).2.2.2.1 with z|z
  ·exact I.ok.noex b o e z
  ·exact absurd (nL1 (hL1 e) (aC I.ok.bsz z)) (az _)
 ·-- a name of the block that has a value:one of the outer text's
  have hi:T.length<=i:=by
   refine bd λhi=>?_;unfold pG at h2;rw[gL1 (by rw[lR1];exact hi),aQ]at h2;split at h2<;>cases h2
  unfold pG at h2;rw[gR1 (by rw[lR1];exact hi),lR1,gP1]at h2;obtain⟨j,Q,h2⟩:=oM1.mp h2;have f:X.N.getD j (Str.ofString "")=x:=by
   have f:(T++keep.map λi=>X.N.getD i (Str.ofString ""))[i]?=Z x:=h1;rw[gR1 hi,gP1,Q]at f;exact Option.some.inj f
  obtain⟨y,N,au,ky,R⟩:=C.free j (gM1 Q);have F:y=x:=by rw[<- f,bG,N];rfl
  subst F;have L:σ[j]?=Z (Z v):=by
   cases e:σ[j]? with
   |none=>rw[e]at h2;cases h2
   |some o=>rw[e]at h2;cases h2;rfl
  obtain⟨m,hn,V⟩:=I.loc;obtain⟨u,ru,aq⟩:=V j y v N L (by
   rcases ky with z|z
   ·exact .inr (.inl z)
   ·exact .inr (.inr z))
  refine⟨u,ru,?_⟩;rcases aq with⟨z,_⟩|⟨_,c,S,zc⟩
  ·rcases ky with q|q<;>(rw[z]at q;cases q)
  ·right;refine⟨?_,c,?_,zc.keeps kept⟩
   ·rw[kindOf,au];simp only[oP1];split
    ·exact .inl O
    ·exact .inr O
   ·obtain⟨c',wq⟩:=aO.mp (PySem.W.cellsFrom_some scope.names (s.heap.objs.size+1) w (.inr (lY B (.inl au))):((cellsFrom (s.heap.objs.size+1) scope.names w).lookup y).isSome=M);have P:(cellsFrom (s.heap.objs.size+1) scope.names w).lookup y=Z c':=wq;rcases d y c' P with⟨a1,a2⟩|a1
    ·-- an own cell of that name:its kind would be cell
     exfalso;have:∀(names:List (Str×NameKind)) (n:Nat),(y,c')∈cellsFrom n names []->(y,NameKind.cell)∈names:=by
      have app:∀(names:List (Str×NameKind)) (m:Nat) (acc:List (Str×cP)),cellsFrom m names acc=cellsFrom m names []++acc:=by
       intro names
       induction names with
       |nil=>intro m acc;rfl
       |cons p r ih=>
        obtain⟨z,q⟩:=p;intro m acc;unfold cellsFrom;split
        ·rw[ih _ ((z,m)::acc),ih _ [(z,m)],aY];rfl
        ·exact ih m acc
      intro names
      induction names with
      |nil=>intro n h;cases h
      |cons p r ih=>
       obtain⟨z,q⟩:=p;intro n h;unfold cellsFrom at h;split at h
       ·rename_i W;rw[app]at h;rcases aF.mp h with h|h
        ·exact mC1 _ (ih _ h)
        ·have:(y,c')=(z,n):=by simpa using h
         cases this;have ao:q=NameKind.cell:=by simpa using W
         subst ao;exact mS1
       ·exact mC1 _ (ih _ h)
     exact R (this _ _ a2)
    ·rw[S]at a1;cases a1;exact P
 ·rcases d x c h with⟨a1,a2⟩|a1
  ·exact⟨_,(A.empty x c a2).1⟩
  ·obtain⟨v,z⟩:=I.cell x c a1;exact⟨v,z.keeps kept⟩
 ·rcases d x c h with⟨a1,a2⟩|a1
  ·exact I.hok.fresh (bF a1)
  ·exact I.freeC x c a1
 ·show(pG T.length keep σ).length=(T++keep.map λi=>X.N.getD i (Str.ofString "")).length;unfold pG;rw[lA1,lA1,lR1,lM1,lM1]
noncomputable def qk(p:Pos)(tg:Expr)(ifs:List Expr)(it:cN)(env:Env)(emit:Sem Unit)(c:Code):Sem PySem.Fin:=do
 standAt p
 match<-pyNext it with
 |none=>pure (.done .next)
 |some v=>
  letOwnedTupleGo tg it v
  assign tg env v
  let mut ok:=M
  for c in ifs do
   if ok then ok<-isTrue c env (eval c env)
  if ok then emit
  again c
noncomputable def rS(elt:Expr)(acc:cN)(env:Env):Sem Unit:=do let _<-call (.builtin "list.append") [acc,<- eval elt env]
theorem xc(elt tg iter:Expr)(ifs:List Expr)(scope:c3)(pos:Pos)(it acc:cN)(env:Env):
  compTurn (.ListComp elt [⟨tg,iter,ifs,0⟩] scope pos) 0 it acc env=qk iter.pos tg ifs it env (rS elt acc env) (.compLoop (.ListComp elt [⟨tg,iter,ifs,0⟩] scope pos) 0 it acc env):=by rfl
def nO(X:Cx)(ifs:List Expr)(t:TT):Prop:=
 ∀(ag:List (cP×Obj)) (s:cO) (σ:L2.St) (H:Hp) (Q:Bool->Hp->Prop),Inv X ag σ H s->t σ H Q ->
  cW (model X.prog X.w) X.A (forIn ifs M λc r=>if r=M then do let ok<-isTrue c X.env (eval c X.env);pure (ForInStep.yield ok)else pure (ForInStep.yield r)) (TP X ag σ Q) X.xe s
theorem xV{X:Cx}:nO X [] (fun σ H Q=>Q M H):=λag s σ H Q I h=>wpAny_tests_nil ⟨H,I,h⟩
theorem xU{X:Cx}{c:Expr}{t:TT}(h:PT X c t):nO X [c] t:=λag s σ H Q I q=>wpAny_tests_one (h ag s σ H Q I q)
def PU(X:Cx)(m:Sem Unit)(t:TS):Prop:=
 ∀(ag:List (cP×Obj)) (s:cO) (σ:L2.St) (H:Hp) (E:jr),Inv X ag σ H s->t E σ H->cW (model X.prog X.w) X.A m (λ_ s'=>∃ σ' H',Inv X ag σ' H' s'/\E.nx σ' H') X.xe s
theorem oG{X:Cx}(hx:X.xe=fun _ _=>False)(hc:X.calm=true){elt:Expr}{c:List Comprehension}{scope:c3}{pos p:Pos}{d:Nat}{tg:Expr}{ifs:List Expr}{acc:cN}{emit:Sem Unit}{am:It}{t:List cP}{it:cP}{au:Nat->cX->Prop}{g:TG}{aq:TT}{tb:TS}(eq:compTurn (.ListComp elt c scope pos) d (.ref it) acc X.env=qk p tg ifs (.ref it) X.env emit (.compLoop (.ListComp elt c scope pos) d (.ref it) acc X.env))(T:ud X.prog X.w X.K tg am t it au)(hg:PG X tg g)(hi:nO X ifs aq)(he:PU X emit tb){ag:List (cP×Obj)}{s:cO}{σ:L2.St}{H:Hp}{D:jr}(I:Inv X ag σ H s)(st:au 0 s.heap)(wq:∀b∈t,jo X ag H b)(h:∃W:Nat->Nat->L2.St->Hp->Prop,(∃m,W 0 m σ H) /\ ∀i m σ H,W i m σ H ->
   (am.stop i H/\D.nx σ H)\/(am.go i H /\ ∃N:L2.St->Hp->Prop,(∀a H',N a H' -> ∃P,P<m/\W (i+1) P a H') /\ ∀x H',am.yld i H x H'->g x σ H' λw H2=>aq w H2 λb z=>if b=M then tb {D with nx:=N} w z else N w z)):
  codeAny (model X.prog X.w) X.A (.compLoop (.ListComp elt c scope pos) d (.ref it) acc X.env) (λr s'=>match r with | .ok _=>∃a H',Inv X ag a H' s'/\D.nx a H' | .error _=>False) s:=by
 obtain⟨W,⟨m0,w0⟩,ao⟩:=h;have f:∀{H':Hp},(∀b∈t,H' b=Y) -> ∀b∈t,jo X ag H' b:=λhn b l=>⟨hn b l,(wq b l).2⟩;refine codeAny_loop O (λn s'=>∃i a H',Inv X ag a H' s'/\au i s'.heap/\(∀b∈t,H' b=Y)/\W i n a H') ?_ m0 ⟨0,σ,H,I,st,λb l=>(wq b l).1,w0⟩;rintro n R ⟨i,k,z,I3,G,L,w3⟩;show cW _ _ ((compTurn (.ListComp elt c scope pos) d (.ref it) acc X.env).onRaise (λx=>do noteFrame x X.env;theTreesLotGoes x)) _ _ R;refine wpAny_noted ?_;rw[eq];have A:∀{α:Type} {m:Sem α} {Q:α->cO->Prop} {s:cO} {E:cN->cO->Prop},cW (model X.prog X.w) X.A m Q X.xe s->cW (model X.prog X.w) X.A m Q E s:=λh=>by
  rw[hx]at h;exact wpAny_mono h (λ_ _ q=>q) λ_ _ q=>q.elim
 unfold qk;refine wB1 (wpAny_standAt (wB1 ?_));rcases ao i n k z w3 with⟨K,qn⟩|⟨go,N,hN,step⟩
 ·refine A (eJ (T.done X O O O hc i ag R k z X.xe I3 (f L) G K) λr s4 ⟨S,I4⟩=>?_);subst S;exact wP1 ⟨k,z,I4,qn⟩
 ·refine A (eJ (T.item X rfl rfl rfl hc i ag R k z X.xe I3 (f L) G go) fun r s4 ⟨u,S,h4⟩=>?_);subst S;refine wB1 (A (eJ h4 fun _ s5 ⟨x,H5,I5,r5,y5,y,V⟩=>?_));have U:=I5.pinned (f V) (T.obj _ _ y);refine wB1 (A (eJ (hg _ s5 k H5 x u _ U r5 (step x H5 y5)) fun _ s6 ⟨F,H6,I6,q6⟩=>?_));refine wB1 (A (eJ (hi _ s6 F H6 _ I6 q6) fun ok B ⟨v,C,q7⟩=>?_));have again':∀ {j:L2.St} {v:Hp} {B:cO},Inv X (ag++mI t s5.heap) j v B->N j v -> ∃ m,m<n /\ ∃ i a H',Inv X ag a H' B/\au i B.heap/\(∀ b∈t,H' b=none)/\W i m a H':=fun {j v B} C n7=>by
   obtain⟨P,hm,w7⟩:=hN j v n7;refine⟨P,hm,i+1,j,v,C.unpinned,T.keep _ _ _ y λb l o e=>(C.pin (b,o) (mA1 _ (mA1 _ (iw l e)))).1,λb l=>?_,w7⟩;obtain⟨o,e,d⟩:=T.obj _ _ y b l;exact(C.pin (b,o) (mA1 _ (mA1 _ (iw l e)))).2.1
  cases ok with
  |false=>exact wP1 ⟨O,again' C q7⟩
  |true=>exact wB1 (A (eJ (he _ B F v _ C q7) λ_ s8 ⟨σ8,H8,I8,q8⟩=>wP1 ⟨O,again' I8 q8⟩))
noncomputable def uy(p:cP)(te:TE):TS:=λD σ H=>te σ H λx H1=>∃xs,H1 p=Z (.lst xs)/\xs.length<cV/\D.nx σ (upd H1 p (.lst (xs++[x])))
theorem uF{X:Cx}{elt:Expr}{te:TE}(h:PE X elt te)(p:cP):PU X (rS elt (.ref p) X.env) (uy p te):=by
 intro ag s σ H E I q;unfold rS;refine wB1 (eJ (h ag s σ H _ I q) λu c ⟨x,H1,g,a,xs,d,e,f⟩=>?_);refine wB1 (eJ (oi ag c σ H1 (.ref p) [x] (.ref p) [u] (λ_ H'=>E.nx σ H') g O (.cons a .nil) ⟨p,xs,x,O,O,d,e,f⟩) λ_ j ⟨_,H2,i,_,b⟩=>?_);exact wP1 ⟨σ,H2,i,b⟩
noncomputable def B6(am:It)(g:TG)(ti:TT)(tb:TS):TS:=λD σ H=>∃W:Nat->Nat->L2.St->Hp->Prop,(∃m,W 0 m σ H) /\ ∀i m σ H,W i m σ H ->
 (am.stop i H/\D.nx σ H)\/(am.go i H /\ ∃N:L2.St->Hp->Prop,(∀ σ' H',N σ' H' -> ∃m',m'<m/\W (i+1) m' σ' H') /\ ∀x H',am.yld i H x H'->g x σ H' fun σ2 H2=>ti σ2 H2 λb H3=>if b=M then tb {D with nx:=N} σ2 H3 else N σ2 H3)
theorem Un.sameBut{fs ex:List cP}{H H':Hp}{h h1 h2:cX}{c:cP}(u:Un fs ex H H' h h1)(hs:Heap.SameBut c h1 h2)(hc:h.get? c=Y):Un fs ex H H' h h2:=by
 have ne:∀{b o},h.get? b=Z o->b≠c:=λe z=>by rw[z,hc]at e;cases e
 refine⟨λb o e n d a=>(hs.2 b (ne e)).trans (u.keep b o e n d a),λb o e n d a=>?_,u.free,λb o e a=>?_,u.tups,u.frzs,u.tbls⟩
 ·obtain⟨f,q⟩:=u.slot b o e n d a;exact⟨f,(hs.2 b (ne e)).trans q⟩
 ·obtain⟨o',q⟩:=u.there b o e a;exact⟨o',(hs.2 b (ne e)).trans q⟩
noncomputable def xr(k:Nat)(keep:List Nat)(wi:TI)(g:TG)(ti:TT)(tb:cP->TS):TE:=fun σ H Q=>wi σ H λam H1=>∀p,H1 p=Y ->
 B6 am g ti (tb p) {nx:=λ_ H'=>Q (.ref p) H',rt:=λ_ _=>False} (pG k keep σ) (upd H1 p (.lst []))
theorem AI{X:Cx}(hc:X.calm=true){elt tg iter:Expr}{ifs:List Expr}{rest:List Comprehension}{scope:c3}{pos:Pos}{T:List Str}{keep:List Nat}{l:List (Str×cP)}{E:TI}{g:TG}{F:TT}{tb:cP->TS}{emit:cN->Env->Sem Unit}(eq:∀it k i,compTurn (.ListComp elt (⟨tg,iter,ifs,0⟩::rest) scope pos) 0 it k i=qk iter.pos tg ifs it i (emit k i) (.compLoop (.ListComp elt (⟨tg,iter,ifs,0⟩::rest) scope pos) 0 it k i))(C:GH X scope T keep)(y:jn X.env.cells scope.names []=some l)(hi:PI X tg iter E)(hb:∀s H d p,PG (cxC X scope l T keep s H d) tg g/\nO (cxC X scope l T keep s H d) ifs F/\PU (cxC X scope l T keep s H d) (emit (.ref p) (cxC X scope l T keep s H d).env) (tb p))(hs:∀x,foldedSetIterable iter X.env x=pure x:=by intro _;rfl):
  PE X (.ListComp elt (⟨tg,iter,ifs,0⟩::rest) scope pos) (xr T.length keep E g F tb):=by
 intro ag s σ H Q I h;rw[eval_ListComp];refine wpAny_comprehension_free (use:=Y) O hs (zu y) C.kind C.names ?_;refine eJ (hi ag s σ H _ I h) λv s1 h1=>eJ h1 λR a h2=>?_;obtain⟨it,d,au,am,H2,rfl,G,TT,u,K,wq⟩:=h2;refine wO1 ?_;have ao:Inv X ag σ (upd H2 a.heap.objs.size (.lst [])) {a with heap:=a.heap.push {cls:=.type "list",data:=.seq ([]:List cN).toArray}}:=G.lnew (t':=a.toks) .nil (bm _);have old:∀b∈d,∃o,a.heap.get? b=Z o:=λb hb=>by
  obtain⟨o,e,_⟩:=TT.obj 0 a.heap u b hb;exact⟨o,e⟩
 have D:∀b∈d,b≠a.heap.objs.size:=λb hb z=>by
  obtain⟨o,e⟩:=old b hb;have:=hL1 e;rw[z]at this;exact az _ this
 have B:∀b∈d,jo X ag (upd H2 a.heap.objs.size (.lst [])) b:=λb hb=>⟨by rw[dB (D b hb)];exact(K b hb).1,(K b hb).2⟩;have S:∀b∈d,∃o,({a with heap:=a.heap.push {cls:=.type "list",data:=.seq ([]:List cN).toArray}}:cO).heap.get? b=Z o:=λb hb=>by
  obtain⟨o,e⟩:=old b hb;exact⟨o,hP1 _ e⟩
 have A:=rA ao C y B S;obtain⟨hg,P,aq⟩:=hb {a with heap:=a.heap.push {cls:=.type "list",data:=.seq ([]:List cN).toArray}} (upd H2 a.heap.objs.size (.lst [])) d a.heap.objs.size;refine jz ?_;have f4:∀b∈d,jo (cxC X scope l T keep {a with heap:=a.heap.push {cls:=.type "list",data:=.seq ([]:List cN).toArray}} (upd H2 a.heap.objs.size (.lst [])) d) [] (upd H2 a.heap.objs.size (.lst [])) b:=λb hb=>
  ⟨(B b hb).1,(A.ok.exf b hb).1,A.ok.exfs b hb,.inl hb,(A.ok.exf b hb).2,λp hp=>absurd (show p∈([]:List (cP×Obj))from hp) (by simp)⟩
 have t:au 0 (pushCells ((a.heap.push {cls:=.type "list",data:=.seq ([]:List cN).toArray}).push {cls:=.type "dict",data:=.dict #[]}) scope.names):=
  TT.keep 0 a.heap _ u λb hb o e=>pushCells_keeps scope.names _ b o (hP1 _ (hP1 _ e))
 have j:=oG (X:=cxC X scope l T keep {a with heap:=a.heap.push {cls:=.type "list",data:=.seq ([]:List cN).toArray}} (upd H2 a.heap.objs.size (.lst [])) d) O hc (eq (.ref it) (.ref a.heap.objs.size) _) TT hg P aq A t f4
  (wq a.heap.objs.size (G.hok.fresh (nR1 _)))
 refine codeAny_mono (codeAny_compStart_list j (TT.self X.A 0 _ _ _ t j)) λr s' L=>?_;cases r with
 |error e=>exact L.elim
 |ok f=>
  obtain⟨V,H',n,U⟩:=L;obtain⟨m,hn,_⟩:=id n.loc;refine⟨m,hn,λh' w=>⟨.ref a.heap.objs.size,H',?_,O,U⟩⟩;refine ao.call' (s':={s' with heap:=h'}) (ch:=d) n.os (Un.sameBut n.base w (Heap.get?_none_of_le (nR1 _))) (λb W e=>?_) n.bare λb hb=>(B b hb).2.2.2 |> λz=>⟨z.1,(B b hb).2.1,z.2.1,z.2.2⟩
  refine(n.hok b W e).stay (λc w' hc q=>(w.2 c ?_).trans q) (λ_ q=>q) λ_ _ q=>q;rintro rfl;have N:=n.free;rcases hc with rfl|hc
  ·exact nomatch N.symm.trans e
  ·exact nomatch N.symm.trans hc
section
variable{K:Fg1}{H:Hp}{mu:List cP}{S:c6}{p:cP}{u:HO}{o:Ob}{n:Nat}
theorem Rd.ne{a:cP}{x:HO}(h:H p=Y)(q:Rd H a x):a≠p:=by
 rintro rfl;rcases q with q|⟨_,q⟩<;>(rw[h]at q;cases q)
theorem Ext.fresh(hp:H p=Y):Ext mu mu H (upd H p u) where
 pre:=bp
 old:=λa o h _=>by rw[dB (dP h hp)];exact h
 tup:=λa xs h=>by
  have ne:=Rd.ne hp h;rcases h with h|⟨b,h⟩
  ·exact .inl (by rw[dB ne];exact h)
  ·exact .inr ⟨b,by rw[dB ne];exact h⟩
 frz:=λa o x h=>by rw[dB (dP h hp)];exact h
 new:=λ_ h=>.inl h
theorem Ext.new_(hp:H p=Y):Ext mu (mu++[p]) H (upd H p u) where
 pre:=bv _ _
 old:=(Ext.fresh (mu:=mu) hp).old
 tup:=(Ext.fresh (mu:=mu) hp).tup
 frz:=(Ext.fresh (mu:=mu) hp).frz
 new:=λa h=>by
  rcases aF.mp h with h|h
  ·exact .inl h
  ·have:a=p:=by simpa using h
   subst this;exact .inr hp
theorem eF.fresh(s:eF K H mu S)(hp:H p=Y):eF K (upd H p u) mu S:=
 ⟨s.len,s.nd,λk o a h1 h2=>(s.ob k o a h1 h2).keep (Ext.fresh hp) λb e=>by rw[dB (dP e hp)];exact e⟩
theorem eF.notin(s:eF K H mu S)(hp:H p=Y):p∉mu:=λh=>by
 obtain⟨o,e⟩:=s.here h;rw[hp]at e;cases e
theorem lB.more{a:cP}{mu':List cP}{H':Hp}(e:Ext mu mu' H H')(h:∀o,H a=Z o->H' a=Z o):∀{o:Ob},lB K H mu a o->lB K H' mu' a o
 | .lst _,⟨vs,q,r⟩=>⟨vs,h _ q,r.ext e⟩
 | .dct _,⟨ws,q,r⟩=>⟨ws,h _ q,KR.ext e r⟩
 | .dcT _,⟨ws,q,r,l⟩=>⟨ws,h _ q,KT.ext e r,l⟩
 | .iset _,q=>⟨h _ q.1,q.2⟩
 | .dcF _,⟨ws,⟨o,u,b,c⟩,r,l⟩=>⟨ws,⟨o,u,h _ b,c⟩,KT.ext e r,l⟩
 | .tst _,⟨ws,q,r⟩=>⟨ws,h _ q,KT.ext e r⟩
theorem eF.new(s:eF K H mu S)(hp:H p=Y)(ho:lB K (upd H p u) (mu++[p]) p o):eF K (upd H p u) (mu++[p]) (S++[o]):=by
 refine⟨by rw[lA1,lA1,s.len];rfl,?_,λk o' a h1 h2=>?_⟩
 ·rw[bx];refine⟨s.nd,by simp,λa g b f e=>?_⟩;have:b=p:=by simpa using f
  subst this;subst e;exact s.notin hp g
 ·by_cases d:k<S.length
  ·rw[gL1 d]at h1;rw[gL1 (by rw[s.len];exact d)]at h2;exact(s.ob k o' a h1 h2).more (Ext.new_ hp) λh e=>by rw[dB (dP e hp)];exact e
  ·have c:k=S.length:=by
    have:=(gE1.mp h1).1;rw[lA1]at this;simp at this;lia
   subst c;rw[gR1 (nR1 _)]at h1;rw[<- s.len,gR1 (nR1 _)]at h2;simp at h1 h2;subst h1;subst h2;exact ho
theorem Ext.put{x:HO}(hp:H p=Z x)(hm:EF (Z x))(b:p∈mu):Ext mu mu H (upd H p u) where
 pre:=bp
 old:=λa o h n=>by rw[dB (λe=>n (by rw[e];exact b))];exact h
 tup:=λa xs h=>by
  have ne:a≠p:=by
   rintro rfl;rcases h with h|⟨_,h⟩<;>(rw[hp]at h;cases h;exact hm)
  rcases h with h|⟨c,h⟩
  ·exact .inl (by rw[dB ne];exact h)
  ·exact .inr ⟨c,by rw[dB ne];exact h⟩
 frz:=λa o y h=>by
  rw[dB (λe=>?_)]
  ·exact h
  ·subst e;rw[hp]at h;cases h;exact hm
 new:=λ_ h=>.inl h
theorem eF.put(s:eF K H mu S){x:HO}(hn:mu[n]?=Z p)(hp:H p=Z x)(hm:EF (Z x))(ho:lB K (upd H p u) mu p o):eF K (upd H p u) mu (S.set n o):=by
 refine⟨by rw[aT];exact s.len,s.nd,λk o' a h1 h2=>?_⟩;by_cases b:n=k
 ·subst b;have d:n<S.length:=by
   have:=(gE1.mp h1).1
   rwa [aT]at this
  rw[aH d]at h1;cases h1;rw[hn]at h2;cases h2;exact ho
 ·rw [gS1 b] at h1;have ne:a≠p:=fun e=>by
   subst e;obtain⟨g,c⟩:=gE1.mp hn;obtain⟨h,f⟩:=gE1.mp h2;exact b ((List.getElem_inj s.nd).mp (c.trans f.symm))
  exact(s.ob k o' a h1 h2).keep (Ext.put hp hm (gM1 hn)) λi e=>by rw[dB ne];exact e
theorem eF.lst(s:eF K H mu S){ds:List D}{a:cP}(h:S[n]?=Z (.lst ds))(hn:mu[n]?=Z a):∃vs,H a=Z (.lst vs)/\df K H mu ds vs:=s.ob n _ a h hn
theorem eF.dcT(s:eF K H mu S){ks:List (TK×D)}{a:cP}(h:S[n]?=Z (.dcT ks))(hn:mu[n]?=Z a):∃ws,H a=Z (.ext (hR a ws))/\KT K H mu ks ws/\ws.length<=cV:=s.ob n _ a h hn
theorem eF.dct(s:eF K H mu S){ks:List (Key×D)}{a:cP}(h:S[n]?=Z (.dct ks))(hn:mu[n]?=Z a):∃ws,H a=Z (.dK ws)/\KR K H mu ks ws:=s.ob n _ a h hn
theorem eF.newL(s:eF K H mu S){ds:List D}{vs:List V}(r:df K H mu ds vs)(hp:H p=Y):eF K (upd H p (.lst vs)) (mu++[p]) (S++[.lst ds]):=s.new hp ⟨vs,dD,r.ext (Ext.new_ hp)⟩
theorem eF.putL(s:eF K H mu S){ds:List D}{vs ws:List V}(r:df K H mu ds vs)(hn:mu[n]?=Z p)(hp:H p=Z (.lst ws)):eF K (upd H p (.lst vs)) mu (S.set n (.lst ds)):=
 s.put hn hp trivial ⟨vs,dD,r.ext (Ext.put hp trivial (gM1 hn))⟩
end
theorem gf{mu:List cP}{S:c6}(h:mu.length=S.length)(p:cP):(mu++[p])[S.length]?=Z p:=by
 rw[<- h,gR1 (nR1 _)];simp
noncomputable def dS (a:FA):FE:=λr S=>(a r S).bind λp=>if p.1.length<=cV then some (.tup p.1,p.2)else none
noncomputable def eW (a:FA):FE:=λr S=>(a r S).bind λp=>if p.1.length<=cV then some (.ref p.2.length,p.2++[.lst p.1])else none
section
variable{X:Cx}{es:List Expr}{pos:Pos}{a:FA}
theorem DQ{x1}(h:MA X es a):ME X (.Tuple es x1 pos) (dS a):=em (Db h) <| by
 rintro σ H Q ⟨r,mu,S,d,l,f,k,b,hc⟩;obtain⟨⟨ds,m⟩,i,b⟩:=oB1.mp b;dsimp only at b;split at b
 ·rename_i j;cases b;refine⟨r,mu,S,ds,_,f,k,i,λvs H1 mu1 x1 e g=>⟨by rw[<- e.length];exact j,λp c=>?_⟩⟩;exact hc _ _ mu1 (x1.trans (Ext.fresh c)) (.tup (iI.of dD) (e.ext (Ext.fresh c))) (g.fresh c)
 ·cases b
theorem DU(h:MA X es a):ME X (.List es pos) (eW a):=em (De h) <| by
 rintro σ H Q ⟨r,mu,S,d,m,g,l,b,hc⟩;obtain⟨⟨ds,n⟩,i,b⟩:=oB1.mp b;dsimp only at b;split at b
 ·rename_i j;cases b;refine⟨r,mu,S,ds,_,g,l,i,λvs H1 mu1 k e f=>⟨by rw[<- e.length];exact j,λp c=>?_⟩⟩;exact hc _ _ (mu1++[p]) (k.trans (Ext.new_ c)) (.ref (gf f.len p)) (f.newL e c)
 ·cases b
end
noncomputable def rB(k:Nat)(keep:List Nat)(r:Ev):Ev:=aN k Y++keep.map λi=>(r[i]?).join
noncomputable def eP:FT:=λ_ S=>Z (M,S)
theorem F9{K:Fg1}{H:Hp}{mu:List cP}{r:Ev}{σ:L2.St}(k:Nat)(keep:List Nat)(h:fc K H mu r σ):fc K H mu (rB k keep r) (pG k keep σ):=by
 refine⟨by unfold rB pG;rw[lA1,lA1,lM1,lM1,lR1,lR1],λi d e=>?_⟩;unfold rB at e;unfold pG;by_cases hi:i<k
 ·rw[gL1 (by rw[lR1];exact hi),aQ]at e;split at e<;>cases e
 ·rw [gR1 (by rw [lR1];lia),lR1,gP1] at e;rw [gR1 (by rw [lR1];lia),lR1,gP1];obtain ⟨j,f,e⟩:=oM1.mp e;rw [f];have c:r[j]? = some (some d):=by
   cases q:r[j]? with
   |none=>rw[q]at e;cases e
   |some o=>rw[q]at e;cases e;rfl
  obtain⟨v,b,a⟩:=h.val j d c;exact⟨v,by rw[oP1,b];rfl,a⟩
section
variable{X:Cx}
theorem xW{ifs:List Expr}{t t':L2.TT}(h:nO X ifs t)(i:∀ σ H Q,t' σ H Q->t σ H Q):nO X ifs t':=λag s σ H Q I q=>h ag s σ H Q I (i σ H Q q)
theorem A8:nO X [] (Ad X.K eP):=xW xV fun σ H Q ⟨r,mu,S,b,d,e,a,c,hc⟩=>by cases c;exact hc H mu (.refl _ _) a
theorem A7{c:Expr}{t:FT}(h:MT X c t):nO X [c] (Ad X.K t):=xU h
end
open PySem.AutoSeq1 (wpAny_loadPart')
def SIt(b:Bool)(h:cX)(it a:cP)(i:Nat):Prop:=match b with
 |true=>h.IsListIter it a i
 |false=>h.IsTupleIter it a i
def SCo(b:Bool)(h:cX)(a:cP)(xs:Array cN):Prop:=match b with
 |true=>h.IsList a xs
 |false=>h.IsTuple a xs
theorem SIt.to{b:Bool}{h h':cX}{it a:cP}{i:Nat}(x:SIt b h it a i)(k:∀o,h.get? it=Z o->h'.get? it=Z o):SIt b h' it a i:=by
 cases b<;>(obtain⟨o,e,r⟩:=x;exact⟨o,k o e,r⟩)
theorem SIt.rec_{b:Bool}{h:cX}{it a:cP}{i:Nat}(x:SIt b h it a i):∃o,h.get? it=Z o /\ ∀v,o.data ≠ .cell v:=by
 cases b<;>(obtain⟨o,e,c,d⟩:=x;exact⟨o,e,λv z=>by rw[d]at z;cases z⟩)
theorem SCo.to{b:Bool}{h h':cX}{a:cP}{xs:Array cN}(x:SCo b h a xs)(k:∀o,h.get? a=Z o->h'.get? a=Z o):SCo b h' a xs:=by
 cases b<;>(obtain⟨o,e,r⟩:=x;exact⟨o,k o e,r⟩)
noncomputable def gb(b:Bool)(a:cP):Obj:=match b with
 |true=>{cls:=.type "list_iterator",data:=.fields #[.ref a,.int 0 0]}
 |false=>{cls:=.type "tuple_iterator",data:=.fields #[.ref a,.int 0 0]}
section
variable{prog:cQ}{w:cS}{A:cR}{E:cN->cO->Prop}{s:cO}
theorem pg{b:Bool}{h:cX}{it a:cP}(e:h.get? it=Z (gb b a)):SIt b h it a 0:=by
 cases b<;>exact⟨_,e,O,O⟩
theorem jZ{b:Bool}{a:cP}{xs:Array cN}{Q:cN->cO->Prop}(x:SCo b s.heap a xs)(h:Q (.ref s.heap.objs.size) {s with heap:=s.heap.push (gb b a)}):cW (model prog w) A (pyIter (.ref a)) Q E s:=by
 cases b
 ·exact wpAny_pyIter_tuple x h
 ·exact wpAny_pyIter_list x h
theorem yp{it l:cP}{i:Nat}{xs:Array cN}{x:cN}{Q:cN->cO->Prop}(e:s.heap.IsTupleIter it l i)(tl:s.heap.IsTuple l xs)(hx:xs[i]? = Z x)(f:∀h',h'.IsTupleIter it l (i+1)->Heap.SameBut it s.heap h'->Q x {s with heap:=h'}):cW (model prog w) A (Builtin.SmallTypes.nextOf (.ref it)) Q E s:=by
 obtain⟨o,b,hc,a⟩:=id e;obtain⟨h,d,_,g,c⟩:=tl;unfold Builtin.SmallTypes.nextOf;refine wB1 (wpAny_callSpecial?_slot (name:=Str.ofString "__next__") e.typeIs F.slot_tuple_iterator_next (wE1 F.slot_tuple_iterator_next e.typeIs F.entry_tuple_iterator_next ?_ (F.args_tuple_iterator_next_1 _)));show cW _ _ (field (.ref it) 0 >>= _) _ _ s;refine wB1 (wpAny_field b a (x:=.ref l) O ?_);show cW _ _ (if(Value.ref l == Value.none)=M then _ else _) _ _ s;rw[aj (show¬ ((Value.ref l == Value.none)=M)from aJ)];show cW _ _ (field (.ref it) 1 >>= _) _ _ s;refine wB1 (wpAny_field b a (x:=.int i 0) O ?_);show cW _ _ (seqItems? (.ref l) >>= _) _ _ s;refine wB1 (wpAny_seqItems d c ?_);simp only[Int.toNat_natCast,hx];refine wB1 (wpAny_setField b a (by simp) (wP1 ⟨x,O,wP1 (f _ ⟨_,hW1 _ b (Obj.isFreed_of_fields (Obj.data_mapFields a _)),(Obj.cls_mapFields ..).trans hc,by rw[Obj.data_mapFields a];simp[rawInt]⟩ (Heap.SameBut.update ..))⟩))
theorem py {it l:cP}{i:Nat}{xs:Array cN}{Q:cN->cO->Prop}(h:A.handled=none)(d:s.heap.IsTupleIter it l i)(tl:s.heap.IsTuple l xs)(hx:xs[i]? = none)
  (j:∀h' e,Heap.ExtBut it s.heap h'->(∃o,h'.get? e=Z o/\o.cls = .type "StopIteration")->E (.ref e) {s with heap:=h'}):cW (model prog w) A (Builtin.SmallTypes.nextOf (.ref it)) Q E s:=by
 obtain⟨o,g,hc,f⟩:=id d;obtain⟨n,c,_,k,b⟩:=tl;unfold Builtin.SmallTypes.nextOf;refine wB1 (wpAny_callSpecial?_slot (name:=Str.ofString "__next__") d.typeIs F.slot_tuple_iterator_next (wE1 F.slot_tuple_iterator_next d.typeIs F.entry_tuple_iterator_next ?_ (F.args_tuple_iterator_next_1 _)));show cW _ _ (field (.ref it) 0 >>= _) _ _ s;refine wB1 (wpAny_field g f (x:=.ref l) O ?_);show cW _ _ (if(Value.ref l == Value.none)=M then _ else _) _ _ s;rw[aj (show¬ ((Value.ref l == Value.none)=M)from aJ)];show cW _ _ (field (.ref it) 1 >>= _) _ _ s;refine wB1 (wpAny_field g f (x:=.int i 0) O ?_);show cW _ _ (seqItems? (.ref l) >>= _) _ _ s;refine wB1 (wpAny_seqItems c b ?_);simp only[Int.toNat_natCast,hx];refine wB1 (wpAny_rule (wB1 (wpAny_setField g f (by simp) ?_)));show cW _ _ (newExc (.type "StopIteration") [] >>= _) _ _ _;refine wB1 ?_;simp only[newExc,newTuple];refine wB1 (wO1 ?_ (by size_fits));refine wB1 (m:=firstArgMember _ _) (wpAny_of_eq (a:=Value.none) (by first|rfl|(simp only[firstArgMember];rfl)) ?_);refine wO1 ?_ (by size_fits);simp only[raiseNew];refine wB1 (wpAny_handled ?_)
 first|rw[show A.in1.handled=Y from h] | rw[h]
 refine wB1 (wP1 (wpAny_throw ?_));exact j _ _ (((Heap.SameBut.update ..).extBut.push _).push _) ⟨_,hS1 _ O,O⟩
theorem kf{b:Bool}{it l:cP}{i:Nat}{xs:Array cN}{x:cN}{Q:cN->cO->Prop}(a:SIt b s.heap it l i)(tl:SCo b s.heap l xs)(hx:xs[i]? = Z x)(c:∀h',SIt b h' it l (i+1)->Heap.SameBut it s.heap h'->Q x {s with heap:=h'}):cW (model prog w) A (Builtin.SmallTypes.nextOf (.ref it)) Q E s:=by
 cases b
 ·exact yp a tl hx c
 ·exact wpAny_nextOf_list_item a tl hx c
theorem iq {b:Bool}{it l:cP}{i:Nat}{xs:Array cN}{Q:cN->cO->Prop}(c:A.handled=none)(d:SIt b s.heap it l i)(tl:SCo b s.heap l xs)(hx:xs[i]? = none)
  (a:∀h' e,Heap.ExtBut it s.heap h'->(∃o,h'.get? e=Z o/\o.cls = .type "StopIteration")->E (.ref e) {s with heap:=h'}):cW (model prog w) A (Builtin.SmallTypes.nextOf (.ref it)) Q E s:=by
 cases b
 ·exact py c d tl hx a
 ·exact wpAny_nextOf_list_end c d tl hx a
theorem zo{b:Bool}(l:cP)(xs:Array cN):
  Meets (Builtin.«enumerate.__new__» ⟨[.type "enumerate",.ref l],[]⟩) (λ_ R s=>SCo b s.heap l xs /\
   R (.ok (.ret (.ref (s.heap.push (gb b l)).objs.size))) {s with heap:=(s.heap.push (gb b l)).push {cls:=.type "enumerate",data:=.fields #[.none,.bool J,.ref s.heap.objs.size,rawInt 0,.none,.none]}}):=
 .of_wp λprog w A R s h=>by
  obtain⟨i,g,d,tk,k⟩:=s;obtain⟨a,h⟩:=h;have j:=sub_enumerate
  have f:SCo b (Shared.heap ⟨i,g,d,tk,k⟩) l xs:=a;obtain⟨m,el⟩:∃o,i.get? l=some o:=by cases b<;>(obtain⟨o,e,_⟩:=a;exact⟨o,e⟩)
  wp_walk using wpAny_loadPart' el
  refine wpAny_stack_any λst=>wP1 ?_;split
  ·rename_i c _ _ _ _ _;cases(c == Value.type "enumerate")<;>(wp_walk using wpAny_loadPart' el,jZ f;exact⟨_,O,h⟩)
  ·wp_walk using wpAny_loadPart' el,jZ f
   exact⟨_,O,h⟩
theorem wp{b:Bool}{l:cP}{xs:Array cN}{Q:cN->cO->Prop}(f:SCo b s.heap l xs)(h:∀h',IsEnum h' (s.heap.objs.size+1) s.heap.objs.size 0 .none->SIt b h' s.heap.objs.size l 0->h'.objs.size=s.heap.objs.size+2->(∀b o,s.heap.get? b=some o->h'.get? b=some o)->Q (.ref (s.heap.objs.size+1)) {s with heap:=h'}):
  cW (model prog w) A (call (.type "enumerate") [.ref l]) Q E s:=by
 refine callType_new F.called_enumerate (by decide) (F.typeCall_enumerate_1 _) (F.newCall_enumerate_1 _) (λd=>F.args_object_init_2 d _) F.entry_enumerate_new (zo (b:=b) l xs) ⟨f,?_⟩;have a:(s.heap.push (gb b l)).objs.size=s.heap.objs.size+1:=hZ1 ..
 show _/\_;rw[a];have e:IsEnum ((s.heap.push (gb b l)).push {cls:=.type "enumerate",data:=.fields #[.none,.bool J,.ref s.heap.objs.size,rawInt 0,.none,.none]}) (s.heap.objs.size+1) s.heap.objs.size 0 .none:=by
  have q:=hS1 (s.heap.push (gb b l)) (o:={cls:=.type "enumerate",data:=.fields #[.none,.bool J,.ref s.heap.objs.size,rawInt 0,.none,.none]}) O;rw[a]at q;exact q
 have hi:(s.heap.push (gb b l)).get? s.heap.objs.size=Z (gb b l):=hS1 _ (by cases b<;>rfl);refine⟨⟨_,e,O⟩,h _ e (pg (hP1 _ hi)) (by rw[hZ1,a]) λc o x=>hP1 _ (hP1 _ x)⟩
theorem wo {b:Bool}{e it l:cP}{i:Nat}{xs:Array cN}{x old:cN}{Q:Option cN->cO->Prop}(he:IsEnum s.heap e it i old)(U:SIt b s.heap it l i)(tl:SCo b s.heap l xs)(hx:xs[i]? = some x)(j:e≠it)
  (V:∀h',IsEnumOut h' e it ((i:Int)+1) x s.heap.objs.size->SIt b h' it l (i+1)->h'.get? s.heap.objs.size=Z {cls:=.type "tuple",data:=.seq #[.int i s.toks,x]}->h'.objs.size=s.heap.objs.size+1 ->
   (∀b o,b≠e->b≠it->s.heap.get? b=Z o->h'.get? b=Z o)->Q (Z (.ref s.heap.objs.size)) {s with heap:=h',toks:=s.toks+1}):cW (model prog w) A (pyNext (.ref e)) Q E s:=by
 have T:s.TypeIs (.ref e) "enumerate":=⟨_,he,O⟩;unfold pyNext;refine wB1 (wpAny_attempt (wpAny_callSpecial?_slot (name:=Str.ofString "__next__") T F.slot_enumerate_next (wE1 F.slot_enumerate_next T F.entry_enumerate_next ?_ (F.args_enumerate_next_1 _))));obtain⟨n,g,d,tk,t⟩:=s;show cW _ _ (field (.ref e) 2 >>= _) _ _ _;refine wB1 (wpAny_field he O (x:=.ref it) O ?_);refine wB1 (kf U tl hx λh1 H G=>?_);replace G:Heap.SameBut it n h1:=G;have h:IsEnum h1 e it i old:=(G.2 e j).trans he;show cW _ _ (field (.ref e) 3 >>= _) _ _ ⟨h1,g,d,tk,t⟩;refine wB1 (wpAny_field h O (x:=rawInt i) O ?_);show cW _ _ (field (.ref e) 4 >>= _) _ _ ⟨h1,g,d,tk,t⟩;refine wB1 (wpAny_field h O (x:=.none) O ?_);show cW _ _ (mkInt i >>= _) _ _ ⟨h1,g,d,tk,t⟩;refine wB1 (wpAny_mkInt ?_);show cW _ _ (setField (.ref e) 3 (rawInt ((i:Int)+1)) >>= _) _ _ ⟨h1,g,d,tk+1,t⟩;refine wB1 (wS1 h (by simp) λh2 p C=>?_);replace C:Heap.SameBut e h1 h2:=C;replace p:IsEnum h2 e it ((i:Int)+1) old:=p;show cW _ _ (setField (.ref e) 4 .none >>= _) _ _ ⟨h2,g,d,tk+1,t⟩;refine wB1 (wS1 p (by simp) λh3 r D=>?_);replace D:Heap.SameBut e h2 h3:=D;replace r:IsEnum h3 e it ((i:Int)+1) old:=r;show cW _ _ (newTuple [.int i tk,x] >>= _) _ _ ⟨h3,g,d,tk+1,t⟩;refine wB1 (wpAny_newTuple ?_);have m:IsEnum (h3.push {cls:=.type "tuple",data:=.seq #[.int i tk,x]}) e it ((i:Int)+1) old:=hP1 _ r;generalize f:h3.push {cls:=.type "tuple",data:=.seq #[.int i tk,x]}=h4 at m;have k:h3.objs.size=n.objs.size:=by rw[D.1,C.1,G.1]
 have N:e<n.objs.size:=hL1 he;have ao:h4.get? n.objs.size=Z {cls:=.type "tuple",data:=.seq #[.int i tk,x]}:=by rw[<- f,<- k];exact hS1 _ O
 have L:h4.objs.size=n.objs.size+1:=by rw[<- f,hZ1,k]
 have S:∀b o,b≠e->b≠it->n.get? b=Z o->h4.get? b=Z o:=λb o a y au=>by
  rw[<- f];exact hP1 _ (D.extBut b o a (C.extBut b o a (G.extBut b o y au)))
 have R:SIt b h4 it l (i+1):=H.to λo q=>by rw[<- f];exact hP1 _ (D.extBut _ _ (Ne.symm j) (C.extBut _ _ (Ne.symm j) q))
 show cW _ _ (Builtin.SmallTypes.ownedTupleIsFree (.ref e) >>= _) _ _ ⟨h4,g,d,tk+1,t⟩;rw[k];clear f r D p C h G H k h3 h2 h1;refine wB1 ?_;unfold Builtin.SmallTypes.ownedTupleIsFree;refine wB1 (wpAny_field m O (x:=.none) O (wP1 ?_));simp only[if_true];refine wB1 (wpAny_rule ?_);refine wB1 (wpAny_field m O (x:=old) O ?_);refine wB1 (wS1 m (by simp) λh5 B K=>?_);replace K:Heap.SameBut e h4 h5:=K;replace B:IsEnum h5 e it ((i:Int)+1) x:=B;show cW _ _ (Builtin.SmallTypes.ownedTupleHandOut (.ref e) (.ref n.objs.size) >>= _) _ _ ⟨h5,g,d,tk+1,t⟩;refine wB1 ?_;unfold Builtin.SmallTypes.ownedTupleHandOut;refine wB1 (wS1 B (by simp) λh6 v I=>?_);replace I:Heap.SameBut e h5 h6:=I;replace v:IsEnumOut h6 e it ((i:Int)+1) x n.objs.size:=v;refine wS1 v (by simp) λh7 u am=>?_;replace am:Heap.SameBut e h6 h7:=am;replace u:IsEnumOut h7 e it ((i:Int)+1) x n.objs.size:=u;have P:∀c o,c≠e->h4.get? c=Z o->h7.get? c=Z o:=λc o z q=>am.extBut _ _ z (I.extBut _ _ z (K.extBut _ _ z q));refine wB1 (wpAny_letGo (wP1 ⟨_,O,wP1 (V h7 u (R.to λo q=>P _ o (Ne.symm j) q) (P _ _ (nG1 N) ao) (by rw[am.1,I.1,K.1,L]) λc o a y au=>P c o a (S c o a y au))⟩))
theorem zp{b:Bool}{e it l:cP}{i:Nat}{xs:Array cN}{old:cN}{Q:Option cN->cO->Prop}(f:A.handled=Y)(he:IsEnum s.heap e it i old)(h:SIt b s.heap it l i)(tl:SCo b s.heap l xs)(hx:xs[i]? = Y)(g:∀h',Heap.ExtBut it s.heap h'->Q Y {s with heap:=h'}):cW (model prog w) A (pyNext (.ref e)) Q E s:=by
 have d:s.TypeIs (.ref e) "enumerate":=⟨_,he,O⟩;unfold pyNext;refine wB1 (wpAny_attempt (wpAny_callSpecial?_slot (name:=Str.ofString "__next__") d F.slot_enumerate_next (wE1 F.slot_enumerate_next d F.entry_enumerate_next ?_ (F.args_enumerate_next_1 _))));show cW _ _ (field (.ref e) 2 >>= _) _ _ _;refine wB1 (wpAny_field he O (x:=.ref it) O ?_);refine wB1 (iq f h tl hx λh' x a c=>?_);obtain⟨o,j,hc⟩:=c;refine wB1 (wpAny_isInstance (T:="StopIteration") (b:=M) ⟨o,j,hc⟩ isSubtype_stop ?_);exact wP1 (g _ a)
theorem oD{e it:cP}{i:Int}{old:cN}{Q:cN->cO->Prop}(he:IsEnum s.heap e it i old)(h:Q (.ref e) s):cW (model prog w) A (pyIter (.ref e)) Q E s:=by
 have a:s.TypeIs (.ref e) "enumerate":=⟨_,he,O⟩;refine wpAny_pyIter_slot a F.slot_enumerate_iter (wE1 F.slot_enumerate_iter a F.entry_enumerate_iter ?_ (F.args_enumerate_iter_1 _));show cW _ _ (ret (.ref e)) _ _ s;exact wP1 ⟨_,O,"enumerate",_,a,F.slot_enumerate_next.lookup,h⟩
end
open PySem.AutoSeq1 (wpAny_loadPart')
structure HN (z ti to i1 i2:cP):Prop where
 a1:ti≠z
 a2:to≠z
 a3:i1≠z
 a4:i2≠z
 a5:ti≠to
 a6:ti≠i1
 a7:ti≠i2
 a8:to≠i1
 a9:to≠i2
 a10:i1≠i2
section
variable{prog:cQ}{w:cS}{A:cR}{E:cN->cO->Prop}{s:cO}{b1 b2:Bool}
theorem SCo.ne{b:Bool}{h:cX}{a c:cP}{xs:Array cN}{o:Obj}(x:SCo b h a xs)(e:h.get? c=Z o)(n:∀ys k,o.data ≠ .seq ys k):a≠c:=by
 rintro rfl;cases b<;>(obtain⟨o',f,c',k,d⟩:=x;rw[e]at f;cases f;exact n _ _ d)
theorem SCo.ne_it{b f:Bool}{h:cX}{a it l:cP}{xs:Array cN}{i:Nat}(x:SCo b h a xs)(y:SIt f h it l i):a≠it:=by
 cases f<;>(obtain⟨o,e,c,d⟩:=y;exact x.ne e λys k z=>by rw[d]at z;cases z)
theorem wU{z g to i1 j C r:cP}{S au:Nat}{xs ys:Array cN}{x y a b:cN}{Q:Option cN->cO->Prop}(D:HN z g to i1 j)(l:IsZip s.heap z g to .none)(hti:IsPair s.heap g (.ref i1) (.ref j))(V:IsPair s.heap to a b)(n1:C≠to)(n2:r≠to)(h1:SIt b1 s.heap i1 C S)(h2:SIt b2 s.heap j r au)(c1:SCo b1 s.heap C xs)(c2:SCo b2 s.heap r ys)(hx:xs[S]?=some x)(hy:ys[au]?=some y)(hQ:∀h',IsZip h' z g to (rawInt s.heap.objs.size)->IsPair h' to x y->SIt b1 h' i1 C (S+1)->SIt b2 h' j r (au+1)->IsPair h' s.heap.objs.size x y->h'.objs.size=s.heap.objs.size+1 ->
   (∀c o,c≠z->c≠to->c≠i1->c≠j->s.heap.get? c=Z o->h'.get? c=Z o)->Q (Z (.ref s.heap.objs.size)) {s with heap:=h'}):cW (model prog w) A (pyNext (.ref z)) Q E s:=by
 have hT:s.TypeIs (.ref z) "zip":=⟨_,l,O⟩;have l1z:C≠z:=c1.ne l λ_ _ q=>by cases q
 have X:r≠z:=c2.ne l λ_ _ q=>by cases q
 have I:r≠i1:=c2.ne_it h1;unfold pyNext;refine wB1 (wpAny_attempt (wpAny_callSpecial?_slot (name:=Str.ofString "__next__") hT F.slot_zip_next (wE1 F.slot_zip_next hT F.entry_zip_next ?_ (F.args_zip_next_1 _))));show cW _ _ (field (.ref z) 2 >>= _) _ _ _;refine wB1 (wpAny_field l O (x:=.bool J) O ?_);show cW _ _ (field (.ref z) 3 >>= _) _ _ _;refine wB1 (wpAny_field l O (x:=.ref g) O ?_);refine wB1 (wpAny_seqItems hti O ?_);show cW _ _ (Builtin.SmallTypes.ownedTupleIsFree (.ref z) >>= _) _ _ _;refine wB1 ?_;unfold Builtin.SmallTypes.ownedTupleIsFree;refine wB1 (wpAny_field l O (x:=.none) O (wP1 ?_));simp only[if_true];refine wB1 (wpAny_rule ?_);refine wB1 (wpAny_field l O (x:=.ref to) O ?_);refine wB1 (wS1 l (by simp) λg1 n t=>?_);replace n:IsZip g1 z g to .ellipsis:=n;refine wB1 ?_;simp only[bH,List.zipIdx_nil,List.forIn_cons,List.forIn_nil];refine wB1 (wB1 (wpAny_onRaise ?_));show cW _ _ (Builtin.SmallTypes.nextOf (.ref i1) >>= _) _ _ _
 refine wB1 (kf (h1.to λo q=>t.extBut _ _ D.a3 q) (c1.to λo q=>t.extBut _ _ l1z q) hx λg2 T v=>wP1 ?_);have m:IsPair g2 to a b:=v.extBut _ _ D.a8 (t.extBut _ _ D.a2 V);refine wB1 (wpAny_seqItems m O ?_);refine wB1 (wpAny_updateSeq_pair m λg3 f B=>?_);replace f:IsPair g3 to x b:=f;refine wB1 (wpAny_letGo (wP1 ?_));refine wB1 (wB1 (wpAny_onRaise ?_));show cW _ _ (Builtin.SmallTypes.nextOf (.ref j) >>= _) _ _ _
 refine wB1 (kf (h2.to λo q=>B.extBut _ _ D.a9.symm (v.extBut _ _ D.a10.symm (t.extBut _ _ D.a4 q))) (c2.to λo q=>B.extBut _ _ n2 (v.extBut _ _ I (t.extBut _ _ X q))) hy λg4 h24 H=>wP1 ?_);have i:IsPair g4 to x b:=H.extBut _ _ D.a9 f;refine wB1 (wpAny_seqItems i O ?_);refine wB1 (wpAny_updateSeq_pair i λd e N=>?_);replace e:IsPair d to x y:=e;refine wB1 (wpAny_letGo (wP1 (wP1 ?_)));refine wB1 (wpAny_seqItems e O ?_);refine wB1 (wpAny_newTuple ?_);have am:d.objs.size=s.heap.objs.size:=by rw[N.1,H.1,B.1,v.1,t.1]
 have ao:IsZip d z g to .ellipsis:=N.extBut _ _ D.a2.symm (H.extBut _ _ D.a4.symm (B.extBut _ _ D.a2.symm (v.extBut _ _ D.a3.symm n)));have hk5:∀c o,c≠z->c≠to->c≠i1->c≠j->s.heap.get? c=Z o->d.get? c=Z o:=λc o p P q3 aq q=>N.extBut _ _ P (H.extBut _ _ aq (B.extBut _ _ P (v.extBut _ _ q3 (t.extBut _ _ p q))));have h15:SIt b1 d i1 C (S+1):=T.to λo q=>N.extBut _ _ D.a8.symm (H.extBut _ _ D.a10 (B.extBut _ _ D.a8.symm q));have U:SIt b2 d j r (au+1):=h24.to λo q=>N.extBut _ _ D.a9.symm q;have k:z<d.objs.size:=hL1 ao;show cW _ _ (Builtin.SmallTypes.ownedTupleHandOut (.ref z) (.ref d.objs.size) >>= _) _ _ _;refine wB1 ?_;unfold Builtin.SmallTypes.ownedTupleHandOut;have hz6:IsZip (d.push {cls:=.type "tuple",data:=.seq #[x,y]}) z g to .ellipsis:=hP1 _ ao;refine wB1 (wS1 hz6 (by simp) λg7 u W=>?_);replace u:IsZip g7 z g to (rawInt d.objs.size):=u;refine wS1 u (by simp) λK h wq=>?_;replace h:IsZip K z g to (rawInt d.objs.size):=h;have R:∀c o,c≠z->d.get? c=Z o->K.get? c=Z o:=λc o p q=>wq.extBut _ _ p (W.extBut _ _ p (hP1 _ q));have L:IsPair K d.objs.size x y:=wq.extBut _ _ (nG1 k) (W.extBut _ _ (nG1 k) (hS1 _ O));have G:K.objs.size=d.objs.size+1:=by rw[wq.1,W.1,hZ1]
 rw[am]at h L G;refine wP1 ⟨_,O,wP1 ?_⟩;show Q (Z (.ref d.objs.size)) _;rw[am]
 exact hQ K h (R _ _ D.a2 e) (h15.to λo q=>R _ o D.a3 q) (U.to λo q=>R _ o D.a4 q) L G λc o p P q3 aq q=>R c o p (hk5 c o p P q3 aq q)
theorem zU{z n to i1 u H v:cP}{U P:Nat}{xs ys:Array cN}{a b:cN}{Q:Option cN->cO->Prop}(W:A.handled=Y)(D:HN z n to i1 u)(k:IsZip s.heap z n to .none)(L:IsPair s.heap n (.ref i1) (.ref u))(am:IsPair s.heap to a b)(n1:H≠to)(n2:v≠to)(h1:SIt b1 s.heap i1 H U)(h2:SIt b2 s.heap u v P)(I:SCo b1 s.heap H xs)(S:SCo b2 s.heap v ys)(B:xs[U]?=Y\/ys[P]?=Y)(wq:∀h',(∀c o,c≠z->c≠to->c≠i1->c≠u->s.heap.get? c=Z o->h'.get? c=Z o)->Q Y {s with heap:=h'}):cW (model prog w) A (pyNext (.ref z)) Q E s:=by
 have aq:s.TypeIs (.ref z) "zip":=⟨_,k,O⟩;have G:H≠z:=I.ne k λ_ _ q=>by cases q
 have K:v≠z:=S.ne k λ_ _ q=>by cases q
 have y:v≠i1:=S.ne_it h1;unfold pyNext;refine wB1 (wpAny_attempt (wpAny_callSpecial?_slot (name:=Str.ofString "__next__") aq F.slot_zip_next (wE1 F.slot_zip_next aq F.entry_zip_next ?_ (F.args_zip_next_1 _))));show cW _ _ (field (.ref z) 2 >>= _) _ _ _;refine wB1 (wpAny_field k O (x:=.bool J) O ?_);show cW _ _ (field (.ref z) 3 >>= _) _ _ _;refine wB1 (wpAny_field k O (x:=.ref n) O ?_);refine wB1 (wpAny_seqItems L O ?_);show cW _ _ (Builtin.SmallTypes.ownedTupleIsFree (.ref z) >>= _) _ _ _;refine wB1 ?_;unfold Builtin.SmallTypes.ownedTupleIsFree;refine wB1 (wpAny_field k O (x:=.none) O (wP1 ?_));simp only[if_true];refine wB1 (wpAny_rule ?_);refine wB1 (wpAny_field k O (x:=.ref to) O ?_);refine wB1 (wS1 k (by simp) λg1 g i=>?_);replace g:IsZip g1 z n to .ellipsis:=g;refine wB1 ?_;simp only[bH,List.zipIdx_nil,List.forIn_cons,List.forIn_nil];refine wB1 (wB1 (wpAny_onRaise ?_));show cW _ _ (Builtin.SmallTypes.nextOf (.ref i1) >>= _) _ _ _
 cases hx:xs[U]? with
 |none=>
  refine wB1 (iq W (h1.to λo q=>i.extBut _ _ D.a3 q) (I.to λo q=>i.extBut _ _ G q) hx λao e j R=>?_);obtain⟨N,d,f⟩:=R;have C:IsZip ao z n to .ellipsis:=j _ _ D.a3.symm g;have p:e≠z:=λq=>by subst q;rw[C]at d;cases d;simp at f
  refine wS1 C (by simp) λg3 _ m=>?_;refine wB1 (wpAny_isInstance (T:="StopIteration") (b:=M) ⟨N,m.extBut _ _ p d,f⟩ isSubtype_stop ?_);exact wP1 (wq g3 λc o t _ au _ q=>m.extBut _ _ t (j _ _ au (i.extBut _ _ t q)))
 |some x=>
  have hy:ys[P]?=Y:=by rcases B with h|h;rw[hx]at h;cases h;exact h
  refine wB1 (kf (h1.to λo q=>i.extBut _ _ D.a3 q) (I.to λo q=>i.extBut _ _ G q) hx λao h12 j=>wP1 ?_);have l:IsPair ao to a b:=j.extBut _ _ D.a8 (i.extBut _ _ D.a2 am);refine wB1 (wpAny_seqItems l O ?_);refine wB1 (wpAny_updateSeq_pair l λg3 V m=>?_);refine wB1 (wpAny_letGo (wP1 ?_));refine wB1 (wB1 (wpAny_onRaise ?_));show cW _ _ (Builtin.SmallTypes.nextOf (.ref u) >>= _) _ _ _
  refine wB1 (iq W (h2.to λo q=>m.extBut _ _ D.a9.symm (j.extBut _ _ D.a10.symm (i.extBut _ _ D.a4 q))) (S.to λo q=>m.extBut _ _ n2 (j.extBut _ _ y (i.extBut _ _ K q))) hy λg4 e X R=>?_);obtain⟨N,d,f⟩:=R;have r:IsZip g4 z n to .ellipsis:=X _ _ D.a4.symm (m.extBut _ _ D.a2.symm (j.extBut _ _ D.a3.symm g));have p:e≠z:=λq=>by subst q;rw[r]at d;cases d;simp at f
  refine wS1 r (by simp) λg5 _ s5=>?_;refine wB1 (wpAny_isInstance (T:="StopIteration") (b:=M) ⟨N,s5.extBut _ _ p d,f⟩ isSubtype_stop ?_);exact wP1 (wq g5 λc o t q2 au q4 q=>s5.extBut _ _ t (X _ _ q4 (m.extBut _ _ q2 (j.extBut _ _ au (i.extBut _ _ t q)))))
noncomputable def zH(b1 b2:Bool)(h:cX)(l1 l2:cP):cX:=((((h.push (gb b1 l1)).push (gb b2 l2)).push {cls:=.type "tuple",data:=.seq #[.ref h.objs.size,.ref (h.objs.size+1)]}).push {cls:=.type "tuple",data:=.seq #[.none,.none]}).push
 {cls:=.type "zip",data:=.fields #[.none,.bool J,.bool J,.ref (h.objs.size+2),.ref (h.objs.size+3)]}
theorem zT(a b:cP)(xs ys:Array cN):Meets (Builtin.«zip.__new__» ⟨[.type "zip",.ref a,.ref b],[]⟩) (λ_ R s=>SCo b1 s.heap a xs/\SCo b2 s.heap b ys/\R (.ok (.ret (.ref (s.heap.objs.size+4)))) {s with heap:=zH b1 b2 s.heap a b}):=
 .of_wp λprog w A R s h=>by
  obtain⟨c,g,d,tk,e⟩:=s;obtain⟨k,l,h⟩:=h;have f:=sub_zip
  have i:SCo b1 (Shared.heap ⟨c,g,d,tk,e⟩) a xs:=k;have j:SCo b2 (Shared.heap ⟨c.push (gb b1 a),g,d,tk,e⟩) b ys:=l.to λo q=>hP1 _ q
  wp_walk using jZ i,jZ j
  refine⟨_,O,?_⟩;have m:(c.push (gb b1 a)).objs.size=c.objs.size+1:=hZ1 ..
  simp only[hZ1,zH]at h ⊢;exact h
theorem wV{d g:cP}{xs ys:Array cN}{Q:cN->cO->Prop}(r:SCo b1 s.heap d xs)(t:SCo b2 s.heap g ys)(h:∀h',IsZip h' (s.heap.objs.size+4) (s.heap.objs.size+2) (s.heap.objs.size+3) .none->IsPair h' (s.heap.objs.size+2) (.ref s.heap.objs.size) (.ref (s.heap.objs.size+1))->IsPair h' (s.heap.objs.size+3) .none .none ->
   SIt b1 h' s.heap.objs.size d 0->SIt b2 h' (s.heap.objs.size+1) g 0->h'.objs.size=s.heap.objs.size+5->(∀c o,s.heap.get? c=Z o->h'.get? c=Z o)->Q (.ref (s.heap.objs.size+4)) {s with heap:=h'}):
  cW (model prog w) A (call (.type "zip") [.ref d,.ref g]) Q E s:=by
 refine callType_new F.called_zip (by decide) (F.typeCall_zip_2 _ _) (F.newCall_zip_2 _ _) (λi=>F.args_object_init_3 i _ _) F.entry_zip_new (zT (b1:=b1) (b2:=b2) d g xs ys) ⟨r,t,?_⟩;have a:∀{h:cX} {o:Obj} {c:cP} {u:Obj},h.get? c=Z u->(h.push o).get? c=Z u:=λq=>hP1 _ q;have b:∀{h:cX} {o:Obj} {n:Nat},h.objs.size=n->o.isFreed=J->(h.push o).get? n=Z o:=λe f=>by rw[<- e];exact hS1 _ f
 have x:(gb b1 d).isFreed=J:=by cases b1<;>rfl
 have p:(gb b2 g).isFreed=J:=by cases b2<;>rfl
 have v:(zH b1 b2 s.heap d g).get? s.heap.objs.size=Z (gb b1 d):=a (a (a (a (b O x))));have k:(zH b1 b2 s.heap d g).get? (s.heap.objs.size+1)=Z (gb b2 g):=a (a (a (b (by simp only[hZ1]) p)));have m:IsPair (zH b1 b2 s.heap d g) (s.heap.objs.size+2) (.ref s.heap.objs.size) (.ref (s.heap.objs.size+1)):=a (a (b (by simp only[hZ1]) O));have l:IsPair (zH b1 b2 s.heap d g) (s.heap.objs.size+3) .none .none:=a (b (by simp only[hZ1]) O);have j:IsZip (zH b1 b2 s.heap d g) (s.heap.objs.size+4) (s.heap.objs.size+2) (s.heap.objs.size+3) .none:=b (by simp only[hZ1]) O;exact⟨⟨_,j,O⟩,h _ j m l (pg v) (pg k) (by simp only[zH,hZ1]) λc o q=>a (a (a (a (a q))))⟩
end
def qf(K:Fg1)(b:Bool)(H:Hp)(a:cP)(xs:List V):Prop:=match b with
 |true=>lA K H a xs
 |false=>iI K H a xs
section
variable{X:Cx}{ag:List (cP×Obj)}{σ:L2.St}{H:Hp}{s:cO}
theorem ej{b:Bool}{a:cP}{xs:List V}(I:Inv X ag σ H s)(h:qf X.K b H a xs):∃c:List cN,dG xs c/\SCo b s.heap a c.toArray/\xs.length<=cV:=by
 cases b
 ·obtain⟨c,r,p,z⟩:=I.tuple h;exact⟨c,r,p,z⟩
 ·obtain⟨c,r,p,z⟩:=I.list h;exact⟨c,r,p.isList,z⟩
theorem lN{b:Bool}{a:cP}{xs ys:List V}(I:Inv X ag σ H s)(h:qf X.K b H a xs)(h':qf X.K b H a ys):xs=ys:=by
 cases b
 ·exact I.tuple_inj h h'
 ·exact I.list_inj h h'
theorem o4{b:Bool}{a c:cP}{xs:List V}(I:Inv X ag σ H s)(h:qf X.K b H a xs)(f:jo X ag H c):a≠c:=by
 rintro rfl;have d:∀{o},X.K.lookup a=Z o->False:=λ{o} e=>by
  have g:=I.ok.mod.kin _ _ e;rcases f.2.2.2.1 with z|z
  ·exact I.ok.noex _ _ g z
  ·exact absurd (nL1 (hL1 g) (aC I.ok.bsz z)) (az _)
 cases b
 ·rcases h with(h|⟨_,h⟩)|⟨_,_,_,h,_⟩
  ·rw[f.1]at h;cases h
  ·rw[f.1]at h;cases h
  ·exact d h
 ·rcases h with(h|⟨_,h⟩)|⟨_,_,_,h,_⟩
  ·rw[f.1]at h;cases h
  ·rw[f.1]at h;cases h
  ·exact d h
theorem rz(I:Inv X ag σ H s){fp:List cP}(hf:∀ b∈fp,jo X ag H b){h':cX}{p:cP}{xs:List V}{its:List cN}{t':Nat}(hp:s.heap.objs.size<=p)(f:∀ b o,b∉fp->s.heap.get? b=Z o->h'.get? b=Z o)(k:IsTup h' p its.toArray)(i:dG xs its)(l:xs.length<=cV):Inv X ag σ (upd H p (.tup xs)) {s with heap:=h',toks:=t'}:=by
 have d:H p=Y:=I.hok.fresh hp;have g:∀{b o},s.heap.get? b=Z o->b≠p:=λe=>nN1 (nL1 (hL1 e) hp);have h:∀{b u},H b=Z u->b∉fp:=λe z=>by rw[(hf _ z).1]at e;cases e
 refine I.step (g':=s.gens) (d':=s.drawn) (ch:=fp) (λb a=>⟨(hf b a).2.2.2.1,(hf b a).2.1,(hf b a).2.2.2.2.1,(hf b a).2.2.2.2.2⟩) (λb o _ _ hc e _=>f b o hc e) (λb o _ _ hc e _=>⟨o.slots,f b o hc e⟩) (λb o _ e n=>?_)
  (λb o hc e=>⟨o,f b o hc e⟩) (λb ys e=>?_) (λb o u e=>?_) (λb ps e=>⟨#[],?_⟩) (λm j=>?_) (λb u e=>?_) I.bare
 ·rw[dB (g e)];exact n
 ·rw[dB (dP e d)];exact e
 ·rw[dB (dP e d)];exact e
 ·rw[dB (dP e d),e];simp
 ·obtain⟨o,es,ep,t,r⟩:=j;exact⟨o,es,ep,f _ o (λz=>(hf _ z).2.1 O) t,r⟩
 ·by_cases a:b=p
  ·subst a;rw[dD]at e;cases e;exact⟨l,its,i,k⟩
  ·rw[dB a]at e;refine(I.hok b u e).stay (λc v hc q=>f c v ?_ q) (λc q=>by rw[dB (dP q d)];exact q) λc ys q=>by rw[dB (dP q d)];exact q
   rcases hc with z|z
   ·rw[z];exact h e
   ·exact h z
theorem mZ(I:Inv X ag σ H s){fp:List cP}(hf:∀b∈fp,jo X ag H b){h':cX}{t':Nat}(a:∀b o,b∉fp->s.heap.get? b=Z o->h'.get? b=Z o):Inv X ag σ H {s with heap:=h',toks:=t'}:=by
 have f:∀{b u},H b=Z u->b∉fp:=λe z=>by rw[(hf _ z).1]at e;cases e
 refine I.step (g':=s.gens) (d':=s.drawn) (ch:=fp) (λb d=>⟨(hf b d).2.2.2.1,(hf b d).2.1,(hf b d).2.2.2.2.1,(hf b d).2.2.2.2.2⟩) (λb o _ _ hc e _=>a b o hc e) (λb o _ _ hc e _=>⟨o.slots,a b o hc e⟩) (λb o _ e n=>n)
  (λb o hc e=>⟨o,a b o hc e⟩) (λb ys e=>e) (λb o u e=>e) (λb ps e=>⟨#[],by rw[e];simp⟩) (λm g=>?_) (λb u e=>?_) I.bare
 ·obtain⟨o,es,ep,h,r⟩:=g;exact⟨o,es,ep,a _ o (λz=>(hf _ z).2.1 O) h,r⟩
 ·refine(I.hok b u e).stay (λc v hc q=>a c v ?_ q) (λc q=>q) λc ys q=>q;rcases hc with z|z
  ·rw[z];exact f e
  ·exact f z
end
theorem qj:(2:Nat)<=cV:=by decide
noncomputable def Iz(K:Fg1)(b:Bool)(a:cP):It:=
 ⟨λi H=>∃xs x,qf K b H a xs/\xs[i]?=Z x,λi H x H'=>∃p v,H p=Y/\x = .ref p/\H'=upd H p (.tup [.int i,v]) /\ ∀xs,qf K b H a xs->xs[i]?=Z v,λi H=>∃xs,qf K b H a xs/\xs.length<=i⟩
theorem vJ{P:cQ}{w:cS}{K:Fg1}{elts:List Expr}{k:Nat}{pos:Pos}(b:Bool)(a e it:cP)(ne:e≠it):ud P w K (.Tuple elts k pos) (Iz K b a) [e,it] e (λi h=>(∃old,IsEnum h e it (i:Nat) old)/\SIt b h it a i) where
 mem:=by simp
 obj:=by
  rintro i h ⟨⟨old,st⟩,A⟩ c hc;rcases aE.mp hc with z|z
  ·subst z;exact⟨_,st,λv q=>by cases q⟩
  ·have z':c=it:=by simpa using z
   subst z';exact A.rec_
 keep:=λi h h' ⟨⟨old,st⟩,A⟩ au=>⟨⟨old,au e (by simp) _ st⟩,A.to λo q=>au it (by simp) o q⟩
 item:=by
  intro X r D t hc i ag s σ H E I f st G;subst r D t;obtain⟨⟨old,m⟩,j⟩:=st;obtain⟨xs,x,l,am⟩:=G;obtain⟨L,ao,B,hz⟩:=ej I l;obtain⟨u,U,ru⟩:=ao.get am;refine wo m j B (x:=u) (by simpa using U) ne λh1 F C p S y=>?_;refine⟨.ref s.heap.objs.size,O,?_⟩;refine wpAny_letOwnedTupleGo_enum F λh2 N d=>?_;have R:s.heap.objs.size≠e:=nG1 (hL1 m);have n:∀c o,c∉[e,it]->s.heap.get? c=Z o->h2.get? c=Z o:=λc o hc q=>by
   have g:c≠e:=λz=>hc (by simp[z]);have c2:c≠it:=λz=>hc (by simp[z]);exact d.extBut _ _ g (y c o g c2 q)
  have aq:IsTup h2 s.heap.objs.size [.int (i:Nat) s.toks,u].toArray:=⟨_,d.extBut _ _ R p,O,_,O⟩;have V:=rz I f (t':=s.toks+1) (nR1 _) n aq (xs:=[.int i,x]) (.cons ⟨_,O⟩ (.cons ru .nil)) qj;have wq:H s.heap.objs.size=Y:=I.hok.fresh (nR1 _);refine⟨.ref s.heap.objs.size,_,V,O,⟨_,x,wq,O,O,λys T=>by rw[lN I T l];exact am⟩,⟨⟨u,?_⟩,C.to λo q=>d.extBut _ _ (Ne.symm ne) q⟩,λc hc=>?_⟩
  ·have:((i+1:Nat):Int)=(i:Int)+1:=by push_cast;rfl
   rw[this];exact N
  ·have g:c≠s.heap.objs.size:=fun z=>by
    rcases aE.mp hc with q|q
    ·exact R (z.symm.trans q)
    ·have W:c=it:=by simpa using q
     obtain⟨o,Q,_⟩:=j.rec_;rw[<- W,z]at Q;exact az _ (hL1 Q)
   rw[dB g];exact(f c hc).1
 done:=by
  intro X r D t hc i ag s σ H E I f st G;subst r D t;obtain⟨⟨old,m⟩,j⟩:=st;obtain⟨xs,l,am⟩:=G;obtain⟨L,ao,B,hz⟩:=ej I l;have hl:=ao.length;refine zp (I.ok.hd hc) m j B (by simp;lia) λh' eb=>⟨O,mZ I (t':=s.toks) f λc o hc q=>eb c o (λz=>hc (by simp[z])) q⟩
 self:=λ_ _ _ _ _ ⟨⟨_,st⟩,_⟩ h=>oD st h
noncomputable def Iw(K:Fg1)(b1 b2:Bool)(a1 a2:cP):It:=
 ⟨λi H=>∃xs ys x y,qf K b1 H a1 xs/\qf K b2 H a2 ys/\xs[i]?=Z x/\ys[i]?=Z y,λi H x H'=>∃p v u,H p=Y/\x = .ref p/\H'=upd H p (.tup [v,u])/\(∀xs,qf K b1 H a1 xs->xs[i]?=Z v) /\ ∀ys,qf K b2 H a2 ys->ys[i]?=Z u,
  λi H=>∃xs ys,qf K b1 H a1 xs/\qf K b2 H a2 ys/\(xs.length<=i\/ys.length<=i)⟩
theorem xb{P:cQ}{w:cS}{K:Fg1}{elts:List Expr}{k:Nat}{pos:Pos}(b1 b2:Bool)(a1 a2 z n to t p:cP)(D:HN z n to t p):ud P w K (.Tuple elts k pos) (Iw K b1 b2 a1 a2) [z,n,to,t,p] z
  (λi h=>IsZip h z n to .none/\IsPair h n (.ref t) (.ref p)/\(∃u v,IsPair h to u v)/\SIt b1 h t a1 i/\SIt b2 h p a2 i) where
 mem:=by simp
 obj:=by
  rintro i h ⟨f,b,⟨u,v,j⟩,g,l⟩ c hc;simp only[aE,bI,or_false]at hc;rcases hc with rfl|rfl|rfl|rfl|rfl
  ·exact⟨_,f,λv q=>by cases q⟩
  ·exact⟨_,b,λv q=>by cases q⟩
  ·exact⟨_,j,λv q=>by cases q⟩
  ·exact g.rec_
  ·exact l.rec_
 keep:=λi h h' ⟨f,b,⟨u,v,j⟩,g,l⟩ F=>⟨F z (by simp) _ f,F n (by simp) _ b,⟨u,v,F to (by simp) _ j⟩,g.to λo q=>F t (by simp) o q,l.to λo q=>F p (by simp) o q⟩
 item:=by
  intro X ao T au hc i ag s σ H E I d st U;subst ao T au;obtain⟨f,b,⟨u0,v0,j⟩,g,l⟩:=st;obtain⟨xs,ys,x,y,C,B,ex,ey⟩:=U;obtain⟨W,wq,S,hz⟩:=ej I C;obtain⟨am,r,m,V⟩:=ej I B;obtain⟨u,hu,ru⟩:=wq.get ex;obtain⟨N,aq,Q⟩:=r.get ey;refine wU D f b j (o4 I C (d to (by simp))) (o4 I B (d to (by simp))) g l S m (x:=u) (y:=N) (by simpa using hu) (by simpa using aq) λh1 p1 p2 p3 p4 p5 p6 G=>?_;refine⟨.ref s.heap.objs.size,O,?_⟩;refine wpAny_letOwnedTupleGo_zip p1 λh2 z2 a=>?_;have lt:∀c∈[z,n,to,t,p],c≠s.heap.objs.size:=λc hc e=>by
   obtain⟨o,eo⟩:∃o,s.heap.get? c=some o:=by
    simp only[aE,bI,or_false]at hc;rcases hc with rfl|rfl|rfl|rfl|rfl
    ·exact⟨_,f⟩
    ·exact⟨_,b⟩
    ·exact⟨_,j⟩
    ·obtain⟨o,e,_⟩:=g.rec_;exact⟨o,e⟩
    ·obtain⟨o,e,_⟩:=l.rec_;exact⟨o,e⟩
   rw[e]at eo;exact az _ (hL1 eo)
  have L:∀c o,c∉[z,n,to,t,p]->s.heap.get? c=Z o->h2.get? c=Z o:=λc o hc q=>by
   simp only[aE,bI,or_false,not_or]at hc;exact a.extBut _ _ hc.1 (G c o hc.1 hc.2.2.1 hc.2.2.2.1 hc.2.2.2.2 q)
  have tp:IsTup h2 s.heap.objs.size [u,N].toArray:=⟨_,a.extBut _ _ (Ne.symm (lt z (by simp))) p5,O,_,O⟩;have I2:=rz I d (t':=s.toks) (nR1 _) L tp (xs:=[x,y]) (.cons ru (.cons Q .nil)) qj;have hn:H s.heap.objs.size=Y:=I.hok.fresh (nR1 _);refine⟨.ref s.heap.objs.size,_,I2,O,⟨_,x,y,hn,O,O,λR A=>by rw[lN I A C];exact ex,λR A=>by rw[lN I A B];exact ey⟩,
   ⟨z2,a.extBut _ _ D.a1 (G _ _ D.a1 D.a5 D.a6 D.a7 b),⟨u,N,a.extBut _ _ D.a2 p2⟩,p3.to λo q=>a.extBut _ _ D.a3 q,p4.to λo q=>a.extBut _ _ D.a4 q⟩,λc hc=>?_⟩
  rw[dB (lt c hc)];exact(d c hc).1
 done:=by
  intro X ao T au hc i ag s σ H E I d st U;subst ao T au;obtain⟨f,b,⟨u0,v0,j⟩,g,l⟩:=st;obtain⟨xs,ys,C,B,hl⟩:=U;obtain⟨W,wq,S,hz⟩:=ej I C;obtain⟨am,r,m,V⟩:=ej I B;have l1:=wq.length;have l2:=r.length;refine zU (I.ok.hd hc) D f b j (o4 I C (d to (by simp))) (o4 I B (d to (by simp))) g l S m (by simp;lia) λh' eb=>⟨O,mZ I (t':=s.toks) d λc o hc q=>?_⟩;simp only[aE,bI,or_false,not_or]at hc;exact eb c o hc.1 hc.2.2.1 hc.2.2.2.1 hc.2.2.2.2 q
 self:=λ_ _ _ _ _ ⟨st,_⟩ h=>wpAny_pyIter_zip st h
section
variable{X:Cx}{elts:List Expr}{k:Nat}{tpos:Pos}
noncomputable def Gd(K:Fg1)(ta:TA):TI:=fun σ H R=>ta σ H λvs H1=>∃a b,vs=[.ref a]/\(∃xs,qf K b H1 a xs)/\R (Iz K b a) H1
theorem AE {a:Expr}{ta:TA}{p pos:Pos}(hg:Gl X "enumerate")(hm:X.mg "enumerate"=Y)(ha:PA X [a] ta)(hs:cU [a] X.env=[(J,eval a X.env)]:=by rfl):PI X (.Tuple elts k tpos) (.Call (.Name "enumerate" p) [a] [] pos) (Gd X.K ta):=by
 intro ag s σ H R I h;refine Call_ (jL I hg hm boot_enumerate (PyProof.Rows.callWith_type1 (eJ (ha pos ag s σ H _ I h) λB f ⟨vs,H1,g,m,t⟩=>?_) hs O));obtain⟨c,b,e,⟨xs,w⟩,q⟩:=t;subst e;cases m with
 |cons r y=>
  cases y;cases r;obtain⟨j,C,n,D⟩:=ej g w;refine wp n λh' i v o u=>oD i ?_;have A:Inv X ag σ H1 {f with heap:=h'}:=g.kept (t':=f.toks) u;refine⟨f.heap.objs.size+1,[f.heap.objs.size+1,f.heap.objs.size],_,_,H1,O,A,vJ b c _ _ (Nat.succ_ne_self _),⟨⟨.none,i⟩,v⟩,λd x=>?_,q⟩;rcases aE.mp x with z|z
  ·subst z;exact g.fpOk (aX _) (g.hok.fresh (aX _))
  ·have l:d=f.heap.objs.size:=by simpa using z
   subst l;exact g.fpOk (nR1 _) (g.hok.fresh (nR1 _))
noncomputable def HC(K:Fg1)(ta:TA):TI:=fun σ H R=>ta σ H λvs H1=>∃a1 b1 a2 b2,vs=[.ref a1,.ref a2]/\(∃xs,qf K b1 H1 a1 xs)/\(∃xs,qf K b2 H1 a2 xs)/\R (Iw K b1 b2 a1 a2) H1
theorem C6 {a b:Expr}{ta:TA}{p pos:Pos}(hg:Gl X "zip")(hm:X.mg "zip"=none)(ha:PA X [a,b] ta)(hs:cU [a,b] X.env=[(false,eval a X.env),(false,eval b X.env)]:=by rfl)(hs2:cU [b] X.env=[(false,eval b X.env)]:=by rfl):
  PI X (.Tuple elts k tpos) (.Call (.Name "zip" p) [a,b] [] pos) (HC X.K ta):=by
 intro ag s σ H R I h;refine Call_ (jL I hg hm boot_zip (PyProof.Rows.callWith_type1 (eJ (ha pos ag s σ H _ I h) λao c ⟨vs,H1,f,x,u⟩=>?_) (by rw[hs,hs2]) (by rw[hs2];rfl)));obtain⟨t,b1,E,b2,e,⟨xs,F⟩,⟨ys,o⟩,q⟩:=u;subst e;cases x with
 |cons r j=>
  cases j with
  |cons K j=>
   cases j;cases r;cases K;obtain⟨am,P,B,N⟩:=ej f F;obtain⟨m,A,i,G⟩:=ej f o;refine wV B i λh' l C D L y Q v=>wpAny_pyIter_zip l ?_;have w:Inv X ag σ H1 {c with heap:=h'}:=f.kept (t':=c.toks) v;refine⟨c.heap.objs.size+4,[c.heap.objs.size+4,c.heap.objs.size+2,c.heap.objs.size+3,c.heap.objs.size,c.heap.objs.size+1],_,_,H1,O,w,xb b1 b2 t E _ _ _ _ _ ?_,⟨l,C,⟨_,_,D⟩,L,y⟩,λd n=>?_,q⟩
   ·constructor<;>(intro z;have au:((_:Nat)=_):=z;lia)
   ·have g:c.heap.objs.size<=d:=by
     simp only[aE,bI,or_false]at n;rcases n with rfl|rfl|rfl|rfl|rfl
     ·exact bt _ _
     ·exact bt _ _
     ·exact bt _ _
     ·exact nR1 _
     ·exact bt _ _
    exact f.fpOk g (f.hok.fresh g)
end
noncomputable def dn (S:c6):D->Option (Bool×List D)
 | .tup xs=>some (false,xs)
 | .rol xs=>some (true,xs)
 | .ref n=>match S[n]? with
  |some (.lst xs)=>some (true,xs)
  |_=>none
 |_=>none
noncomputable def i6(S:c6):D->List (Nat×List D)
 | .ref n=>match S[n]? with
  |some (.lst xs)=>[(n,xs)]
  |_=>[]
 |_=>[]
section
variable{K:Fg1}{H:Hp}{mu:List cP}{S:c6}
theorem dw{d:D}{v:V}{b:Bool}{xs:List D}(r:d3 K H mu d v)(s:eF K H mu S)(h:dn S d=Z (b,xs)):∃a vs,v = .ref a/\qf K b H a vs/\df K H mu xs vs:=by
 cases d with
 |tup ys=>cases h;cases r with|tup q t=>exact⟨_,_,rfl,q,t⟩
 |rol ys=>cases h;cases r with|rol q t=>exact⟨_,_,rfl,q.sq,t⟩
 |ref n=>
  rw[dn]at h;split at h
  ·rename_i ys e;cases h;cases r with
   |ref q=>
    obtain⟨vs,c,f⟩:=s.lst e q;exact⟨_,vs,O,lA.of c,f⟩
  ·cases h
 |_=>cases h
theorem hZ{d:D}{a:cP}{b:Bool}{xs:List D}(r:d3 K H mu d (.ref a))(s:eF K H mu S)(h:dn S d=some (b,xs)){H1:Hp}{mu1:List cP}{S1:c6}(x:qg mu mu1 H H1)(c:eF K H1 mu1 S1)(ok:n9 S1 (i6 S d)=true):
  ∃vs,qf K b H1 a vs/\df K H1 mu1 xs vs:=by
 have f:=r.exw x;have h1:dn S1 d=Z (b,xs):=by
  cases d with
  |ref n=>
   rw[dn]at h;split at h
   ·rename_i ys e;cases h;rw[i6,e]at ok;dsimp only[n9]at ok;rw[bJ]at ok;rw[dn];split at ok
    ·rename_i zs g
     first|rw[g,D.sames_eq ok] | rw[D.sames_eq ok]
    ·cases ok
   ·cases h
  |_=>exact h
 obtain⟨i,vs,e,q,t⟩:=dw f c h1;cases e;exact⟨vs,q,t⟩
end
noncomputable def ge (m:FE):FI:=λr S=>(m r S).bind λp=>(dn p.2 p.1).bind λq=>some (⟨q.2,i6 p.2 p.1⟩,p.2)
noncomputable def wr:Nat->List D->List D
 |_,[]=>[]
 |n,d::ds=>.tup [.int n,d]::wr (n+1) ds
noncomputable def wO (m:FA):FI:=λr S=>(m r S).bind λp=>match p.1 with
 |[d]=>(dn p.2 d).bind λq=>some (⟨wr 0 q.2,i6 p.2 d⟩,p.2)
 |_=>none
noncomputable def uk:List D->List D->List D
 |x::xs,y::ys=>.tup [x,y]::uk xs ys
 |_,_=>[]
noncomputable def Ce(m:FA):FI:=λr S=>(m r S).bind λp=>match p.1 with
 |[d,e]=>(dn p.2 d).bind λq=>(dn p.2 e).bind λt=>Z (⟨uk q.2 t.2,i6 p.2 d++i6 p.2 e⟩,p.2)
 |_=>Y
noncomputable def hC(lo:Int):Nat->List D
 |0=>[]
 |n+1=>.int lo::hC (lo+1) n
noncomputable def qc (m:FA):FI:=λr S=>(m r S).bind λp=>match p.1 with
 |[.int j]=>if-(2^62)<=j/\j<2^62 then some (⟨hC 0 j.toNat,[]⟩,p.2)else none
 |_=>none
noncomputable def EM(m:FA):FI:=λr S=>(m r S).bind λp=>match p.1 with
 |[.int i,.int j]=>if-(2^62)<=i/\i<2^62 /\ -(2^62)<=j/\j<2^62 then Z (⟨hC i (j-i).toNat,[]⟩,p.2)else Y
 |_=>Y
theorem lV:∀(ds:List D) (n i:Nat),(wr n ds)[i]?=(ds[i]?).map λd=>.tup [.int ((n+i:Nat):Int),d]
 |[],n,i=>by simp[wr]
 |d::ds,n,0=>by simp[wr]
 |d::ds,n,i+1=>by
  rw[wr,gC1,lV ds (n+1) i,gC1];rw[show n+1+i=n+(i+1) by lia]
theorem lU:∀(ds:List D) (n:Nat),(wr n ds).length=ds.length
 |[],_=>rfl
 |d::ds,n=>by rw[wr,lC1,lU ds,lC1]
theorem uj:∀(xs ys:List D) (i:Nat) (d:D),(uk xs ys)[i]?=Z d -> ∃x y,xs[i]?=Z x/\ys[i]?=Z y/\d = .tup [x,y]
 |[],_,i,d,h=>by simp[uk]at h
 |_::_,[],i,d,h=>by simp[uk]at h
 |x::xs,y::ys,0,d,h=>by simp[uk]at h;exact⟨x,y,O,O,h.symm⟩
 |x::xs,y::ys,i+1,d,h=>by
  rw[uk,gC1]at h;obtain⟨a,c,b,f,e⟩:=uj xs ys i d h;exact⟨a,c,by simpa using b,by simpa using f,e⟩
theorem ui:∀(xs ys:List D) (i:Nat),(uk xs ys).length<=i->xs.length<=i\/ys.length<=i
 |[],_,i,_=>.inl (bm _)
 |_::_,[],i,_=>.inr (bm _)
 |x::xs,y::ys,0,h=>by simp[uk]at h
 |x::xs,y::ys,i+1,h=>by
  rcases ui xs ys i (by simpa[uk]using h)with q|q
  ·exact .inl (by simpa using q)
  ·exact .inr (by simpa using q)
theorem q9:∀(n:Nat) (lo:Int) (i:Nat) (d:D),(hC lo n)[i]?=Z d->i<n/\d = .int (lo+i)
 |0,lo,i,d,h=>by simp[hC]at h
 |n+1,lo,0,d,h=>by simp[hC]at h;exact⟨Nat.succ_pos _,by rw[<- h];simp⟩
 |n+1,lo,i+1,d,h=>by
  rw[hC,gC1]at h;obtain⟨h1,h2⟩:=q9 n (lo+1) i d h;refine⟨Nat.succ_lt_succ h1,?_⟩;rw[h2,show lo+1+(i:Int)=lo+((i+1:Nat):Int) by push_cast;lia]
theorem fg:∀(n:Nat) (lo:Int),(hC lo n).length=n
 |0,_=>rfl
 |n+1,lo=>by rw[hC,lC1,fg n]
theorem uL{S:c6}:∀{c c':List (Nat×List D)},n9 S (c++c')=M->n9 S c=M/\n9 S c'=M
 |[],_,h=>⟨O,h⟩
 |(n,xs)::c,c',h=>by
  rw[bn,n9,bA1]at h;obtain⟨h1,h2⟩:=uL h.2;exact⟨by rw[n9,bA1];exact⟨h.1,h1⟩,h2⟩
section
variable{X:Cx}{tg:Expr}
theorem rr(K:Fg1)(lo:Int)(n:Nat)(mu:List cP)(H:Hp):HX K (GG lo n) ⟨hC lo n,[]⟩ mu H:=by
 intro i H1 mu1 e x s ok;refine⟨λd c=>?_,λh=>by rw[fg]at h;exact h⟩;obtain⟨h1,h2⟩:=q9 n lo i d c;refine⟨h1,λy H2 ⟨a,b⟩=>?_⟩;subst a;subst b;subst h2;exact⟨.refl _ _,s,.int _⟩
theorem DL{e:Expr}{m:FE}(h:ME X e m):MI X tg e (ge m):=mJ (Ft (AD h) (C7 h)) <| by
 rintro σ H R ⟨r,mu,S,am,K,E,C,l,hc⟩;obtain⟨⟨d,I⟩,D,l⟩:=oB1.mp l;obtain⟨⟨b,xs⟩,o,l⟩:=oB1.mp l;cases l;cases b with
 |true=>
  left;refine⟨r,mu,S,d,_,E,C,D,λv H1 mu1 x k f=>?_⟩;obtain⟨a,vs,rfl,q,t⟩:=dw k f o;refine⟨a,O,⟨vs,q⟩,hc _ H1 mu1 x (λi H2 B G w g ok=>?_) f⟩;obtain⟨ws,c,j⟩:=hZ k f o w g ok;refine⟨λd z=>?_,λp=>⟨ws,c,by rw[<- j.length];exact p⟩⟩;obtain⟨v,n,A⟩:=j.get z;refine⟨⟨ws,v,c,n⟩,λy F ⟨u,s⟩=>?_⟩;subst u;have:=s ws c;rw[n]at this;cases this;exact⟨.refl _ _,g,A⟩
 |false=>
  right;refine⟨r,mu,S,d,_,E,C,D,λv H1 mu1 x k f=>?_⟩;obtain⟨a,vs,rfl,q,t⟩:=dw k f o;refine⟨a,O,⟨vs,q⟩,hc _ H1 mu1 x (λi H2 B G w g ok=>?_) f⟩;obtain⟨ws,c,j⟩:=hZ k f o w g ok;refine⟨λd z=>?_,λp=>⟨ws,c,by rw[<- j.length];exact p⟩⟩;obtain⟨v,n,A⟩:=j.get z;refine⟨⟨ws,v,c,n⟩,λy F ⟨u,s⟩=>?_⟩;subst u;have:=s ws c;rw[n]at this;cases this;exact⟨.refl _ _,g,A⟩
theorem j5{K:Fg1}{H:Hp}{mu:List cP}{d:D}{vs:List V}(r:df K H mu [d] vs):∃v,vs=[v]/\d3 K H mu d v:=by
 cases r with|cons r t=>cases t;exact⟨_,O,r⟩
theorem qu{K:Fg1}{H:Hp}{mu:List cP}{d e:D}{vs:List V}(r:df K H mu [d,e] vs):∃v u,vs=[v,u]/\d3 K H mu d v/\d3 K H mu e u:=by
 cases r with|cons r t=>cases t with|cons q t=>cases t;exact⟨_,_,O,r,q⟩
theorem vZ {a:Expr}{m:FA}{p pos:Pos}(hg:Gl X "range")(hm:X.mg "range"=Y)(ha:MA X [a] m)(hs:cU [a] X.env=[(J,eval a X.env)]:=by rfl):MI X tg (.Call (.Name "range" p) [a] [] pos) (qc m):=
 mJ (vU hg hm ha hs) <| by
  rintro σ H R ⟨r,mu,S,am,i,d,hs,hm,hc⟩;obtain⟨⟨ds,k⟩,f,hm⟩:=oB1.mp hm;dsimp only at hm;split at hm
  ·rename_i j;split at hm
   ·rename_i b;cases hm;refine⟨r,mu,S,_,_,d,hs,f,λvs H1 mu1 h c e=>?_⟩;obtain⟨v,rfl,g⟩:=j5 c;cases g;exact⟨j,O,b.1,b.2,hc _ H1 mu1 h (rr _ _ _ _ _) e⟩
   ·cases hm
  ·cases hm
theorem vY {a b:Expr}{m:FA}{p pos:Pos}(hg:Gl X "range")(hm:X.mg "range"=Y)(ha:MA X [a,b] m)(hs:cU [a,b] X.env=[(J,eval a X.env),(J,eval b X.env)]:=by rfl)(hs2:cU [b] X.env=[(J,eval b X.env)]:=by rfl):MI X tg (.Call (.Name "range" p) [a,b] [] pos) (EM m):=
 mJ (vT hg hm ha hs hs2) <| by
  rintro σ H R ⟨r,mu,S,am,n,e,hs,hm,hc⟩;obtain⟨⟨ds,o⟩,h,hm⟩:=oB1.mp hm;dsimp only at hm;split at hm
  ·rename_i i j;split at hm
   ·rename_i c;cases hm;refine⟨r,mu,S,_,_,e,hs,h,λvs H1 mu1 l d g=>?_⟩;obtain⟨v,u,rfl,k,f⟩:=qu d;cases k;cases f;exact⟨i,j,O,c,hc _ H1 mu1 l (rr _ _ _ _ _) g⟩
   ·cases hm
  ·cases hm
variable{elts:List Expr}{k:Nat}{tpos:Pos}
theorem A9 {a:Expr}{m:FA}{p pos:Pos}(hg:Gl X "enumerate")(hm:X.mg "enumerate"=Y)(ha:MA X [a] m)(hs:cU [a] X.env=[(J,eval a X.env)]:=by rfl):MI X (.Tuple elts k tpos) (.Call (.Name "enumerate" p) [a] [] pos) (wO m):=
 mJ (AE hg hm ha hs) <| by
  rintro σ H R ⟨r,mu,S,am,ao,C,hs,hm,hc⟩;obtain⟨⟨ds,I⟩,z,hm⟩:=oB1.mp hm;dsimp only at hm;split at hm
  ·rename_i d;obtain⟨⟨b,xs⟩,o,hm⟩:=oB1.mp hm;cases hm;refine⟨r,mu,S,_,_,C,hs,z,λvs H1 mu1 E x g=>?_⟩;obtain⟨v,rfl,s⟩:=j5 x;obtain⟨a,vs,rfl,q,t⟩:=dw s g o;refine⟨a,b,O,⟨vs,q⟩,hc _ H1 mu1 E (λi H2 G L D j ok=>?_) g⟩;obtain⟨ws,f,l⟩:=hZ s g o D j ok;refine⟨λd c=>?_,λn=>⟨ws,f,by rw[lU]at n;rw[<- l.length];exact n⟩⟩;rw[lV]at c;obtain⟨N,w,c⟩:=oM1.mp c;obtain⟨v,u,e⟩:=l.get w;refine⟨⟨ws,v,f,u⟩,λy K ⟨p,au,h,B,A,F⟩=>?_⟩;have:=F ws f;rw[u]at this;cases this;subst B;subst A;subst c;rw[bK];exact⟨Ext.fresh h,j.fresh h,.tup (iI.of dD) (.cons (.int _) (.cons (e.ext (Ext.fresh h)) .nil))⟩
  ·cases hm
theorem DK {a b:Expr}{m:FA}{p pos:Pos}(hg:Gl X "zip")(hm:X.mg "zip"=Y)(ha:MA X [a,b] m)(hs:cU [a,b] X.env=[(J,eval a X.env),(J,eval b X.env)]:=by rfl)(hs2:cU [b] X.env=[(J,eval b X.env)]:=by rfl):MI X (.Tuple elts k tpos) (.Call (.Name "zip" p) [a,b] [] pos) (Ce m):=
 mJ (C6 hg hm ha hs hs2) <| by
  rintro σ H R ⟨r,mu,S,am,S',V,hs,hm,hc⟩;obtain⟨⟨ds,S1⟩,P,hm⟩:=oB1.mp hm;dsimp only at hm;split at hm
  ·rename_i d e;obtain⟨⟨b1,xs⟩,D,hm⟩:=oB1.mp hm;obtain⟨⟨b2,ys⟩,C,hm⟩:=oB1.mp hm;cases hm;refine⟨r,mu,S,_,_,V,hs,P,λvs H1 mu1 wq au f=>?_⟩;obtain⟨v,u,rfl,K,I⟩:=qu au;obtain⟨a1,o,rfl,ao,t1⟩:=dw K f D;obtain⟨a2,w,rfl,W,t2⟩:=dw I f C;refine⟨a1,b1,a2,b2,O,⟨o,ao⟩,⟨w,W⟩,hc _ H1 mu1 wq (λi H2 mu2 S2 F h ok=>?_) f⟩;obtain⟨q,j⟩:=uL ok;obtain⟨ws,t,A⟩:=hZ K f D F h q;obtain⟨c,l,B⟩:=hZ I f C F h j;refine⟨λd hd=>?_,λQ=>⟨ws,c,t,l,?_⟩⟩
   ·obtain⟨x',y',ex,N,rfl⟩:=uj xs ys i d hd;obtain⟨v,L,n⟩:=A.get ex;obtain⟨u,E,s⟩:=B.get N;refine⟨⟨ws,c,v,u,t,l,L,E⟩,λy H3 ⟨p,v',u',g,U,T,z3,aq⟩=>?_⟩;have x:=z3 ws t;have G:=aq c l;rw[L]at x;cases x;rw[E]at G;cases G;subst U;subst T;exact⟨Ext.fresh g,h.fresh g,.tup (iI.of dD) (.cons (n.ext (Ext.fresh g)) (.cons (s.ext (Ext.fresh g)) .nil))⟩
   ·rcases ui xs ys i Q with z|z
    ·exact .inl (by rw[<- A.length];exact z)
    ·exact .inr (by rw[<- B.length];exact z)
  ·cases hm
end
abbrev G1:=D->c6->Option (D×c6)
abbrev G2:=D->D->c6->Option (D×c6)
abbrev G3:=D->D->D->c6->Option (D×c6)
noncomputable def b1 (f:G1):FN:=λds S=>match ds with
 |[a]=>f a S
 |_=>none
noncomputable def b2 (f:G2):FN:=λds S=>match ds with
 |[a,b]=>f a b S
 |_=>none
noncomputable def b3 (f:G3):FN:=λds S=>match ds with
 |[a,b,c]=>f a b c S
 |_=>none
section
variable{X:Cx}{K:Fg1}{H:Hp}{Q:VK}
theorem nC{f:G2}{x y:V}(h:rN K (b2 f) [x,y] H Q):∃mu S d e r a,d3 K H mu d x/\d3 K H mu e y/\eF K H mu S/\f d e S=Z (r,a)/\p0 K mu H r a Q:=by
 obtain⟨mu,S,ds,r,a,i,g,c,hc⟩:=h;cases i with
 |cons q t=>cases t with
  |cons b t=>cases t;exact⟨mu,S,_,_,r,a,q,b,g,c,hc⟩
theorem zQ{f:G1}{xs:List V}(h:rN K (b1 f) xs H Q):∃x mu S d r a,xs=[x]/\d3 K H mu d x/\eF K H mu S/\f d S=Z (r,a)/\p0 K mu H r a Q:=by
 obtain⟨mu,S,ds,r,a,e,c,b,hc⟩:=h;cases e with
 |nil=>cases b
 |cons q t=>cases t with
  |nil=>exact⟨_,mu,S,_,r,a,O,q,c,b,hc⟩
  |cons g t=>cases b
theorem Fi{f:G2}{xs:List V}(h:rN K (b2 f) xs H Q):∃x y mu S d e r b,xs=[x,y]/\d3 K H mu d x/\d3 K H mu e y/\eF K H mu S/\f d e S=Z (r,b)/\p0 K mu H r b Q:=by
 obtain⟨mu,S,ds,r,b,i,g,a,hc⟩:=h;cases i with
 |nil=>cases a
 |cons q t=>cases t with
  |nil=>cases a
  |cons c t=>cases t with
   |nil=>exact⟨_,_,mu,S,_,_,r,b,O,q,c,g,a,hc⟩
   |cons j t=>cases a
theorem p0.now{mu:List cP}{S:c6}{d:D}{v:V}(c:p0 K mu H d S Q)(r:d3 K H mu d v)(s:eF K H mu S):Q v H:=c v H mu (.refl _ _) r s
end
noncomputable def d8(i j:Int):Bool:=(decide (-(2^64)<i)&&decide (i<2^64))||(decide (-(2^64)<j)&&decide (j<2^64))||(decide (i.natAbs<2^1000)&&decide (j.natAbs<2^1000))
noncomputable def en:G2:=λd e S=>match d,e with
 | .int i,.int j=>Z (.int (i+j),S)
 | .tup xs,.tup ys=>if xs.length+ys.length<=cV then Z (.tup (xs++ys),S)else Y
 | .str x,.str y=>if x.length+y.length<=cV then Z (.str (x++y),S)else Y
 | .ref a,.ref b=>match S[a]?,S[b]? with
  |some (.lst xs),Z (.lst ys)=>if xs.length+ys.length<=cV then Z (.ref S.length,S++[.lst (xs++ys)])else Y
  |_,_=>Y
 |_,_=>Y
noncomputable def gSub:G2:=λd e S=>match d,e with
 | .int i,.int j=>Z (.int (i-j),S)
 |_,_=>Y
noncomputable def i5:G2:=λd e S=>match d,e with
 | .int i,.int j=>if d8 i j=M then Z (.int (i*j),S)else Y
 |_,_=>Y
noncomputable def km:G2:=λd e S=>match d,e with
 | .int i,.int j=>if 0<j then Z (.int (i%j),S)else Y
 |_,_=>Y
noncomputable def rJ:G2:=λd e S=>match d,e with
 | .int i,.int j=>if 0<j/\j<1073741824 then Z (.int (i/j),S)else Y
 |_,_=>Y
noncomputable def tS:G2:=λd e S=>match d,e with
 | .int i,.int j=>if 0<=j/\j<=1000000/\i.natAbs<2^64 then Z (.int (i^j.toNat),S)else Y
 |_,_=>Y
noncomputable def tT:G1:=λd S=>match d with
 | .int i=>Z (.int (-i),S)
 |_=>Y
section
variable{X:Cx}
theorem tG{i j:Int}(h:d8 i j=M):IntMulOk i j:=by
 unfold d8 at h;simp only[bL,bA1,al]at h;rcases h with(⟨h1,h2⟩|⟨h1,h2⟩)|⟨h1,h2⟩
 ·exact .of_left (intBits_le_64 h1 h2)
 ·exact .of_right (intBits_le_64 h1 h2)
 ·exact .of_bits (aC (intBits_le h1) (by decide)) (aC (intBits_le h2) (by decide))
theorem ip{f:cN->cN->Sem cN}{g:G2}{c:Int->Int->Prop}{v:Int->Int->D}(hg:∀ d e S r a,g d e S=Z (r,a) -> ∃ i j,d = .int i/\e = .int j/\c i j/\r=v i j/\a=S){b:Int->Int->V}(hv:∀i j K H mu,d3 K H mu (v i j) (b i j))(ho:fj X f (rI c b)):fj X f (r2 X.K (b2 g)):=by
 intro ag s σ H x y u w Q I o p h;obtain⟨mu,S,d,e,r,a,k,r2,n,m,hc⟩:=nC h;obtain⟨i,j,rfl,rfl,l,rfl,rfl⟩:=hg d e S r a m;cases k;cases r2;exact ho ag s σ H _ _ u w Q I o p ⟨i,j,O,O,l,hc.now (hv i j _ _ _) n⟩
theorem ke{f:cN->cN->Sem cN}{g:G2}{v:Int->Int->D}(hg:∀ d e S r a,g d e S=Z (r,a) -> ∃ i j,d = .int i/\e = .int j/\r=v i j/\a=S){b:Int->Int->V}(hv:∀i j K H mu,d3 K H mu (v i j) (b i j))(ho:fj X f (An b)):fj X f (r2 X.K (b2 g)):=by
 intro ag s σ H x y u w Q I m n h;obtain⟨mu,S,d,e,r,a,c,r2,l,k,hc⟩:=nC h;obtain⟨i,j,rfl,rfl,rfl,rfl⟩:=hg d e S r a k;cases c;cases r2;exact ho ag s σ H _ _ u w Q I m n ⟨i,j,O,O,hc.now (hv i j _ _ _) l⟩
theorem yg:fj X (binaryOp .Sub) (r2 X.K (b2 gSub)):=ke (v:=λi j=>.int (i-j)) (λd e S r a h=>by
 unfold gSub at h;split at h
 ·cases h;exact⟨_,_,O,O,O,O⟩
 ·cases h) (λ_ _ _ _ _=>.int _) Di
theorem jy:fj X (binaryOp .Mult) (r2 X.K (b2 i5)):=ip (c:=λi j=>IntMulOk i j) (v:=λi j=>.int (i*j)) (λd e S r a h=>by
 unfold i5 at h;split at h
 ·split at h
  ·rename_i q;cases h;exact⟨_,_,O,O,tG q,O,O⟩
  ·cases h
 ·cases h) (λ_ _ _ _ _=>.int _) (opI λ_ _ _ _ _ _ _ hc q=>mul_int q hc)
theorem k9:fj X (binaryOp .Mod) (r2 X.K (b2 km)):=ip (c:=λ_ j=>0<j) (v:=λi j=>.int (i%j)) (λd e S r a h=>by
 unfold km at h;split at h
 ·split at h
  ·rename_i q;cases h;exact⟨_,_,O,O,q,O,O⟩
  ·cases h
 ·cases h) (λ_ _ _ _ _=>.int _) Dm
theorem Ca:fj X (binaryOp .FloorDiv) (r2 X.K (b2 rJ)):=ip (c:=GI) (v:=λi j=>.int (i/j)) (λd e S r a h=>by
 unfold rJ at h;split at h
 ·split at h
  ·rename_i q;cases h;exact⟨_,_,O,O,q,O,O⟩
  ·cases h
 ·cases h) (λ_ _ _ _ _=>.int _) AQ
theorem yh:fj X (binaryOp .Pow) (r2 X.K (b2 tS)):=ip (c:=BZ) (v:=λi j=>.int (i^j.toNat)) (λd e S r a h=>by
 unfold tS at h;split at h
 ·split at h
  ·rename_i q;cases h;exact⟨_,_,O,O,q,O,O⟩
  ·cases h
 ·cases h) (λ_ _ _ _ _=>.int _) Dl
theorem yj:EO X (unaryOp .USub) (λx H Q=>rN X.K (b1 tT) [x] H Q):=by
 intro ag s σ H x v Q I f h;obtain⟨g,mu,S,d,r,j,e,b,c,a,hc⟩:=zQ h;cases e;cases d with
 |int i=>cases a;cases b;exact Cw ag s σ H _ v Q I f ⟨i,O,hc.now (.int _) c⟩
 |_=>cases a
theorem wA{s:cO}{prog:cQ}{w:cS}{A:cR}{E:cN->cO->Prop}{t b:cP}{ws:List cN}{Q:cN->cO->Prop}(ht:IsTup s.heap t ([]:List cN).toArray)(hb:IsTup s.heap b ws.toArray)(h:Q (.ref b) s):
  cW (model prog w) A (binaryOp .Add (.ref t) (.ref b)) Q E s:=by
 obtain⟨⟨p,o,i,m⟩,l,hc,n,k⟩:=id ht;obtain⟨⟨j,f,e,g⟩,a,c,q,d⟩:=id hb;simp only at hc k c d;subst hc k c d;exact concat_meets ⟨_,l,O⟩ ⟨_,a,O⟩ noFill_tuple_add seq_tuple_add PySem.F.slot_tuple_add PySem.F.entry_tuple_add (PySem.F.args_tuple_add_2 _ _) (tuple_addW0 t b ([]:List cN).toArray ws.toArray n q o f m g (by simp)) ⟨l,a,h⟩
theorem ee:fj X (binaryOp .Add) (r2 X.K (b2 en)):=by
 intro ag s σ H x y u w Q I q t h;obtain⟨mu,S,d,e,r,R,v,r2,f,c,hc⟩:=nC h;unfold en at c;split at c
 ·cases c;cases v;cases r2;exact Dq ag s σ H _ _ u w Q I q t ⟨_,_,O,O,hc.now (.int _) f⟩
 ·rename_i xs ys;split at c
  ·rename_i o;cases c;cases v with
   |tup A m=>
    cases r2 with
    |tup B k=>
     rename_i g a1 l a2;by_cases D:g=[]
     ·subst D;have:xs=[]:=by cases m;rfl
      subst this;cases q;cases t;obtain⟨C,au,G,_⟩:=I.tuple A;obtain⟨E,K,p2,_⟩:=I.tuple B;have:C=[]:=au.nil_iff.mpr O;subst this;exact wA G p2 ⟨.ref a2,H,I,O,hc.now (.tup B k) f⟩
     ·refine AR ag s σ H _ _ u w Q I q t ⟨a1,a2,g,l,O,O,A,B,D,by rw[<- m.length,<- k.length];exact o,λz=>?_,λz p n=>?_⟩
      ·subst z;have:ys=[]:=by cases k;rfl
       subst this;rw[aL]at hc;exact hc.now (.tup A m) f
      ·exact hc _ _ mu (Ext.fresh n) (.tup (iI.of dD) ((m.append k).ext (Ext.fresh n))) (f.fresh n)
  ·cases c
 ·rename_i i j;split at c
  ·rename_i o;cases c;cases v;cases r2;exact tq ag s σ H _ _ u w Q I q t ⟨i,j,O,O,o,hc.now (.str _) f⟩
  ·cases c
 ·rename_i a b;split at c
  ·rename_i xs ys F ao;split at c
   ·rename_i o;cases c;cases v with
    |ref N=>
     cases r2 with
     |ref P=>
      obtain⟨g,am,m⟩:=f.lst F N;obtain⟨l,L,k⟩:=f.lst ao P;refine Do ag s σ H _ _ u w Q I q t ⟨_,_,g,l,O,O,am,L,by rw[<- m.length,<- k.length];exact o,λp n=>?_⟩;exact hc _ _ (mu++[p]) (Ext.new_ n) (.ref (gf f.len p)) (f.newL (m.append k) n)
   ·cases c
  ·cases c
 ·cases c
end
noncomputable def jN(p:Int->Int->Bool):G2:=λd e S=>match d,e with
 | .int i,.int j=>Z (.bl (p i j),S)
 |_,_=>Y
section
variable{X:Cx}
theorem vb{p:Int->Int->Bool}(d e:D)(S:c6)(r:D)(S':c6)(h:jN p d e S=Z (r,S')):∃i j,d = .int i/\e = .int j/\r = .bl (p i j)/\S'=S:=by
 unfold jN at h;split at h
 ·cases h;exact⟨_,_,O,O,O,O⟩
 ·cases h
theorem Du:fj X (compareOp .Gt) (r2 X.K (b2 (jN λi j=>decide (j<i)))):=ke vb (λ_ _ _ _ _=>.bl _) FC
theorem FQ:fj X (compareOp .GtE) (r2 X.K (b2 (jN λi j=>decide (j<=i)))):=ke vb (λ_ _ _ _ _=>.bl _) FD
end
noncomputable def ko:D->Bool
 | .non=>M
 | .bl _=>M
 | .int _=>M
 | .str _=>M
 |_=>J
noncomputable def GV:D->D->Option Bool
 | .non,.non=>some true
 | .bl a,.bl b=>some (a == b)
 | .bl a,.int b=>some ((if a then 1 else 0) == b)
 | .int a,.bl b=>some (a == (if b then 1 else 0))
 | .int a,.int b=>some (a == b)
 | .str a,.str b=>some (a == b)
 |d,e=>if ko d&&ko e then some false else none
noncomputable def zn(f:D->D->Option Bool):List D->List D->Option Bool
 |x::xs,y::ys=>(f x y).bind λb=>(zn f xs ys).map λc=>b&&c
 |[],[]=>Z M
 |_,_=>Z J
noncomputable def lT(S:c6):Nat->D->D->Option Bool
 |0,_,_=>Y
 |n+1,d,e=>match dn S d,dn S e with
  |some p,Z q=>if p.1=q.1 then(if p.1=M/\p.2.length≠q.2.length then Z J else zn (lT S n) p.2 q.2)else Z J
  |some _,Y=>if ko e=M then Z J else Y
  |none,Z _=>if ko d=M then Z J else Y
  |none,Y=>GV d e
section
variable{X:Cx}{ag:List (cP×Obj)}{σ:L2.St}{H:Hp}{s:cO}{mu:List cP}{S:c6}
theorem eU{K:Fg1}{d:D}{v:V}(r:d3 K H mu d v)(h:ko d=M):jB v=M /\ ∀e w,d3 K H mu e w->ko e=M->GV d e=Z (sA v w):=by
 cases d with
 |non=>cases r;refine⟨O,λe w q f=>?_⟩;cases e with
  |non=>cases q;rfl
  |bl _=>cases q;rfl
  |int _=>cases q;rfl
  |str _=>cases q;rfl
  |_=>cases f
 |bl b=>cases r;refine⟨O,λe w q f=>?_⟩;cases e with
  |non=>cases q;rfl
  |bl _=>cases q;rfl
  |int _=>cases q;rfl
  |str _=>cases q;rfl
  |_=>cases f
 |int i=>cases r;refine⟨O,λe w q f=>?_⟩;cases e with
  |non=>cases q;rfl
  |bl _=>cases q;rfl
  |int _=>cases q;rfl
  |str _=>cases q;rfl
  |_=>cases f
 |str x=>cases r;refine⟨O,λe w q f=>?_⟩;cases e with
  |non=>cases q;rfl
  |bl _=>cases q;rfl
  |int _=>cases q;rfl
  |str _=>cases q;rfl
  |_=>cases f
 |_=>cases h
theorem nk{d e:D}{b:Bool}(h:GV d e=Z b):ko d=M/\ko e=M:=by
 cases d<;>cases e<;>first|exact⟨rfl,rfl⟩|(cases h;done)|exact nomatch h|(simp[GV,ko]at h)
theorem zl{v:V}(h:jB v=M):sA v v=M:=by
 cases v<;>first|rfl|(cases h;done)|exact beq_self_eq_true _|(simp[sA];done)
theorem rP(I:Inv X ag σ H s)(hs:eF X.K H mu S):∀(n:Nat) {d e:D} {v:V} {b:Bool},d3 X.K H mu d v->d3 X.K H mu e v->lT S n d e=Z b->b=M
 |0,_,_,_,_,_,_,h=>by cases h
 |n + 1,d,e,v,b,A,l,h=>by
  rw[lT]at h;have g:∀{xs ys:List D} {vs:List V} {b:Bool},df X.K H mu xs vs->df X.K H mu ys vs->zn (lT S n) xs ys=Z b->b=M:=by
   intro xs
   induction xs with
   |nil=>intro ys vs b B u h;cases B;cases u;cases h;rfl
   |cons x xs ih=>
    intro ys vs b B u h;cases B with
    |cons r t=>
     cases u with
     |cons Q T=>
      rw[zn]at h;obtain⟨b1,j,h⟩:=oB1.mp h;obtain⟨b2,c,h⟩:=oM1.mp h;subst h;rw[rP I hs n r Q j,ih t T c];rfl
  cases hd:dn S d with
  |some p=>
   obtain⟨E,xs⟩:=p;obtain⟨a,vs,rfl,q,t⟩:=dw A hs hd;cases he:dn S e with
   |some p2=>
    obtain⟨qb,ys⟩:=p2;obtain⟨a2,y,c,z,m⟩:=dw l hs he;cases c;rw[hd,he]at h;dsimp only at h;obtain⟨P,U,C,_⟩:=ej I q;obtain⟨F,N,i,_⟩:=ej I z;have am:E=qb:=by
     cases E<;>cases qb
     ·rfl
     ·obtain⟨o,j,w,_⟩:=C;obtain⟨L,c,k,_⟩:=i;rw[j]at c;cases c;rw[w]at k;exact absurd k (by decide)
     ·obtain⟨o,j,w,_⟩:=C;obtain⟨L,c,k,_⟩:=i;rw[j]at c;cases c;rw[w]at k;exact absurd k (by decide)
     ·rfl
    subst am;have au:=lN I q z;subst au;rw[ak O,aj (by rw[t.length,m.length];simp)]at h;exact g t m h
   |none=>
    rw[hd,he]at h;dsimp only at h;split at h
    ·rename_i f;have:=(eU l f).1;cases this
    ·cases h
  |none=>
   cases he:dn S e with
   |some p2=>
    obtain⟨qb,ys⟩:=p2;obtain⟨a2,y,c,z,m⟩:=dw l hs he;subst c;rw[hd,he]at h;dsimp only at h;split at h
    ·rename_i f;have:=(eU A f).1;cases this
    ·cases h
   |none=>
    rw[hd,he]at h;dsimp only at h;obtain⟨G,ao⟩:=nk h;obtain⟨R,K⟩:=eU A G;rw[K e v l ao]at h;cases h;exact zl R
theorem eD{A:cR}{b:Bool}{a:cP}{its:Array cN}{v:V}{u:cN}(c:SCo b s.heap a its)(r:dy v u)(f:jB v=true)(d:A.units<cLine):
   SeqAt.EqAt A s (.ref a) u J/\SeqAt.EqAt A s u (.ref a) J/\SeqAt.RcAt A s (.ref a) u J/\SeqAt.RcAt A s u (.ref a) J:=by
 cases v with
 | non => cases r;cases b
          · exact⟨.tuple_none c d,.none_tuple c d,.tuple_none c d,.none_tuple c d⟩
          · exact⟨.list_none c d,.none_list c d,.list_none c d,.none_list c d⟩
 | bl k => cases r;cases b
           · exact⟨.tuple_bool k c d,.bool_tuple k c d,.tuple_bool k c d,.bool_tuple k c d⟩
           · exact⟨.list_bool k c d,.bool_list k c d,.list_bool k c d,.bool_list k c d⟩
 | int i => obtain ⟨t,rfl⟩:=r;cases b
            · exact⟨.tuple_int i t c d,.int_tuple i t c d,.tuple_int i t c d,.int_tuple i t c d⟩
            · exact⟨.list_int i t c d,.int_list i t c d,.list_int i t c d,.int_list i t c d⟩
 | str x => obtain ⟨t,rfl⟩:=r;cases b
            · exact⟨.tuple_str x t c d,.str_tuple x t c d,.tuple_str x t c d,.str_tuple x t c d⟩
            · exact⟨.list_str x t c d,.str_list x t c d,.list_str x t c d,.str_list x t c d⟩
 |_=>cases f
theorem Am{A:cR}{x y:V}{u w:cN}(e:dy x u)(a:dy y w)(h:jB x=M)(d:jB y=M):SeqAt.RcAt A s u w (sA x y):=by
 cases x with
 |non=>cases e;cases y with
  |non=>cases a;exact .none_none
  |bl k=>cases a;exact .none_bool k
  |int i=>obtain⟨t,rfl⟩:=a;exact .none_int i t
  |str z=>obtain⟨t,rfl⟩:=a;exact .none_str z t
  |_=>cases d
 |bl g=>cases e;cases y with
  |non=>cases a;exact .bool_none g
  |bl k=>cases a;exact .bool_bool g k
  |int i=>obtain⟨t,rfl⟩:=a;exact .bool_int g i t
  |str z=>obtain⟨t,rfl⟩:=a;exact .bool_str g z t
  |_=>cases d
 |int c=>obtain⟨b,rfl⟩:=e;cases y with
  |non=>cases a;exact .int_none c b
  |bl k=>cases a;exact .int_bool c b k
  |int i=>obtain⟨t,rfl⟩:=a;exact .int_int c b i t
  |str z=>obtain⟨t,rfl⟩:=a;exact .int_str c b z t
  |_=>cases d
 |str f=>obtain⟨b,rfl⟩:=e;cases y with
  |non=>cases a;exact .str_none f b
  |bl k=>cases a;exact .str_bool f b k
  |int i=>obtain⟨t,rfl⟩:=a;exact .str_int f b i t
  |str z=>obtain⟨t,rfl⟩:=a;exact .str_str f b z t
  |_=>cases d
 |_=>cases h
theorem tW(f:D->D->Option Bool):∀{xs ys:List D} {b:Bool},zn f xs ys=Z b -> ∃e:Nat->Bool,(∀j x y,xs[j]?=Z x->ys[j]?=Z y->f x y=Z (e j))/\b=((af (min xs.length ys.length)).all e&&xs.length == ys.length)
 |[],[],b,h=>by cases h;exact⟨λ_=>M,λj x y h=>by simp at h,O⟩
 |[],y::ys,b,h=>by cases h;exact⟨λ_=>M,λj x y h=>by simp at h,by simp⟩
 |x::xs,[],b,h=>by cases h;exact⟨λ_=>M,λj x y h h'=>by simp at h',by simp⟩
 |x::xs,y::ys,b,h=>by
  rw[zn]at h;obtain⟨b1,k,h⟩:=oB1.mp h;obtain⟨b2,m,h⟩:=oM1.mp h;obtain⟨e,g,d⟩:=tW f m;refine⟨λj=>match j with|0=>b1|j+1=>e j,λj l i c a=>?_,?_⟩
  ·cases j with
   |zero=>simp at c a;subst c;subst a;exact k
   |succ j=>exact g j l i (by simpa using c) (by simpa using a)
  ·rw[<- h,d,lC1,lC1,Nat.succ_min_succ,List.range_succ_eq_map,bM,List.all_map];have:((xs.length+1 == ys.length+1):Bool)=(xs.length == ys.length):=by simp
   rw[this,Bool.and_assoc];rfl
theorem nj(I:Inv X ag σ H s)(hs:eF X.K H mu S):∀(n:Nat) {A:cR} {d e:D} {v w:V} {u z:cN} {b:Bool},A.units+n<cLine->d3 X.K H mu d v->d3 X.K H mu e w->dy v u->dy w z->lT S n d e=Z b->SeqAt.EqAt A s u z b/\SeqAt.RcAt A s u z b
 |0,_,_,_,_,_,_,_,_,_,_,_,_,_,h=>by cases h
 |n + 1,A,d,e,v,w,u,z,b,hu,P,r,Q,L,h=>by
  have i:A.units<cLine:=by lia
  have h0:=h;rw[lT]at h;cases hd:dn S d with
  |some p=>
   obtain⟨pb,xs⟩:=p;obtain⟨a,vs,rfl,q,t⟩:=dw P hs hd;obtain⟨k,R,o,_⟩:=ej I q;cases Q;cases he:dn S e with
   |some p2=>
    obtain⟨qb,ys⟩:=p2;obtain⟨a2,G,rfl,q2,N⟩:=dw r hs he;obtain⟨c,l,g,_⟩:=ej I q2;cases L;rw[hd,he]at h;dsimp only at h;have m:SeqAt.RcAt A s (.ref a) (.ref a2) b->SeqAt.EqAt A s (.ref a) (.ref a2) b/\SeqAt.RcAt A s (.ref a) (.ref a2) b:=λrc=>by
     refine⟨?_,rc⟩;by_cases ha:a=a2
     ·subst ha;rw[rP I hs (n+1) P r h0];exact .same _
     ·exact .of_refs ha rc
    split at h
    ·rename_i au;have W:pb=qb:=au;subst W;split at h
     ·rename_i U;cases h;obtain⟨h1,h2⟩:=U;subst h1;refine m (.lists_lengths o g ?_ i);have l1:=t.length;have l2:=N.length;have l3:=R.length;have l4:=l.length
      simp only[sT1,bne_iff_ne,ne_eq];lia
     ·rename_i U;obtain ⟨f,hf,E⟩:=tW _ h;have elts:∀ j (h1:j<k.toArray.size) (h2:j<c.toArray.size),SeqAt.EqAt A.in1 s k.toArray[j] c.toArray[j] (f j):=fun j h1 h2=>by
       have C:j<k.length:=by simpa using h1
       have K:j<c.length:=by simpa using h2
       have k1:j<vs.length:=by rw[R.length];exact C
       have k2:j<G.length:=by rw[l.length];exact K
       obtain⟨x,ex,rx⟩:=t.getV (gG1 k1);obtain⟨y,ey,ry⟩:=N.getV (gG1 k2);obtain⟨u1,ao,T⟩:=R.get (gG1 k1);obtain⟨u2,B,wq⟩:=l.get (gG1 k2);have F:k.toArray[j]=u1:=by
        rw[gG1 C]at ao;simpa using ao
       have aq:c.toArray[j]=u2:=by
        rw[gG1 K]at B;simpa using B
       rw[F,aq];exact(nj I hs n (A:=A.in1) (by show A.units+1+n<cLine;lia) rx ry T wq (hf j x y ex ey)).1
      have l1:=t.length;have l2:=N.length;have l3:=R.length;have l4:=l.length
      cases pb with
      |false=>
       refine m ?_;have:=SeqAt.RcAt.tuples o g i elts;rw[E];have F:k.toArray.size=xs.length:=by simp;lia
       have aq:c.toArray.size=ys.length:=by simp;lia
       rw[F,aq]at this;exact this
      |true=>
       refine m ?_;have am:xs.length=ys.length:=by
        by_cases z:xs.length=ys.length
        ·exact z
        ·exact absurd ⟨O,z⟩ U
       have:=SeqAt.RcAt.lists o g (by simp;lia) i elts;rw[E];have F:k.toArray.size=xs.length:=by simp;lia
       rw[F]at this;rw[am,Nat.min_self,beq_self_eq_true,bJ,<- am];exact this
    ·rename_i au;cases h;cases pb with
     |true=>
      cases qb with
      |true=>exact absurd O au
      |false=>exact⟨.list_tuple o g i,.list_tuple o g i⟩
     |false=>
      cases qb with
      |false=>exact absurd O au
      |true=>exact⟨.tuple_list o g i,.tuple_list o g i⟩
   |none=>
    rw[hd,he]at h;dsimp only at h;split at h
    ·rename_i f;cases h;obtain⟨r1,r2,r3,r4⟩:=eD o L (eU r f).1 i;exact⟨r1,r3⟩
    ·cases h
  |none=>
   cases he:dn S e with
   |some p2=>
    obtain⟨qb,ys⟩:=p2;obtain⟨a2,G,rfl,q2,N⟩:=dw r hs he;obtain⟨c,l,g,_⟩:=ej I q2;cases L;rw[hd,he]at h;dsimp only at h;split at h
    ·rename_i f;cases h;obtain⟨r1,r2,r3,r4⟩:=eD g Q (eU P f).1 i;exact⟨r2,r4⟩
    ·cases h
   |none=>
    rw[hd,he]at h;dsimp only at h;obtain⟨f1,f2⟩:=nk h;obtain⟨g1,g2⟩:=eU P f1;have g3:=(eU r f2).1;rw[g2 e w r f2]at h;cases h;exact⟨jO Q L g1 g3,Am Q L g1 g3⟩
end
noncomputable def eh:Nat:=60
noncomputable def oz:G2:=λd e S=>(lT S eh d e).map λb=>(.bl b,S)
section
variable{X:Cx}
theorem lF(l:X.A.units+64<cLine):fj X (compareOp .Eq) (r2 X.K (b2 oz)):=by
 intro ag s σ H x y u w Q I i j h;obtain⟨mu,S,d,e,r,k,f,r2,c,a,hc⟩:=nC h;obtain⟨b,g,a⟩:=oM1.mp a;cases a;exact(nj I c eh (by show _+60<cLine;lia) f r2 i j g).2 X.prog X.w X.xe _ ⟨.bl b,H,I,O,hc.now (.bl b) c⟩
end
section
variable{X:Cx}{ag:List (cP×Obj)}{σ:L2.St}{H:Hp}{s:cO}{mu:List cP}{S:c6}
theorem AX{A:cR}{x y:V}{u w:cN}(e:dy x u)(a:dy y w)(h:jB x=M)(d:jB y=M):SeqAt.RcNeAt A s u w (!sA x y):=by
 cases x with
 |non=>cases e;cases y with
  |non=>cases a;exact .none_none
  |bl k=>cases a;exact .none_bool k
  |int i=>obtain⟨t,rfl⟩:=a;exact .none_int i t
  |str z=>obtain⟨t,rfl⟩:=a;exact .none_str z t
  |_=>cases d
 |bl g=>cases e;cases y with
  |non=>cases a;exact .bool_none g
  |bl k=>cases a;exact .bool_bool g k
  |int i=>obtain⟨t,rfl⟩:=a;exact .bool_int g i t
  |str z=>obtain⟨t,rfl⟩:=a;exact .bool_str g z t
  |_=>cases d
 |int c=>obtain⟨b,rfl⟩:=e;cases y with
  |non=>cases a;exact .int_none c b
  |bl k=>cases a;exact .int_bool c b k
  |int i=>obtain⟨t,rfl⟩:=a;exact .int_int c b i t
  |str z=>obtain⟨t,rfl⟩:=a;exact .int_str c b z t
  |_=>cases d
 |str f=>obtain⟨b,rfl⟩:=e;cases y with
  |non=>cases a;exact .str_none f b
  |bl k=>cases a;exact .str_bool f b k
  |int i=>obtain⟨t,rfl⟩:=a;exact .str_int f b i t
  |str z=>obtain⟨t,rfl⟩:=a;exact .str_str f b z t
  |_=>cases d
 |_=>cases h
theorem lh{A:cR}{b:Bool}{a:cP}{its:Array cN}{v:V}{u:cN}(c:SCo b s.heap a its)(r:dy v u)(f:jB v=M)(d:A.units<cLine):SeqAt.RcNeAt A s (.ref a) u M/\SeqAt.RcNeAt A s u (.ref a) M:=by
 cases v with
 | non => cases r;cases b
          · exact⟨.tuple_none c d,.none_tuple c d⟩
          · exact⟨.list_none c d,.none_list c d⟩
 | bl k => cases r;cases b
           · exact⟨.tuple_bool k c d,.bool_tuple k c d⟩
           · exact⟨.list_bool k c d,.bool_list k c d⟩
 | int i => obtain ⟨t,rfl⟩:=r;cases b
            · exact⟨.tuple_int i t c d,.int_tuple i t c d⟩
            · exact⟨.list_int i t c d,.int_list i t c d⟩
 | str x => obtain ⟨t,rfl⟩:=r;cases b
            · exact⟨.tuple_str x t c d,.str_tuple x t c d⟩
            · exact⟨.list_str x t c d,.str_list x t c d⟩
 |_=>cases f
theorem Dx(I:Inv X ag σ H s)(hs:eF X.K H mu S)(n:Nat){A:cR}{d e:D}{v w:V}{u z:cN}{b:Bool}(hu:A.units+n<cLine)(W:d3 X.K H mu d v)(am:d3 X.K H mu e w)(wq:dy v u)(ao:dy w z)(h:lT S n d e=Z b):SeqAt.RcNeAt A s u z (!b):=by
 cases n with
 |zero=>cases h
 |succ n=>
  have i:A.units<cLine:=by lia
  rw[lT]at h;cases hd:dn S d with
  |some p=>
   obtain⟨aq,xs⟩:=p;obtain⟨a,vs,rfl,q,t⟩:=dw W hs hd;obtain⟨k,rv,m,_⟩:=ej I q;cases wq;cases he:dn S e with
   |some p2=>
    obtain⟨qb,ys⟩:=p2;obtain⟨a2,E,rfl,U,au⟩:=dw am hs he;obtain⟨c,l,g,_⟩:=ej I U;cases ao;rw[hd,he]at h;dsimp only at h;have l1:=t.length;have l2:=au.length;have l3:=rv.length;have l4:=l.length
    split at h
    ·rename_i L;have Q:aq=qb:=L;subst Q;split at h
     ·rename_i P;cases h;obtain⟨h1,h2⟩:=P;subst h1;refine .lists_lengths m g ?_ i;simp only[sT1,bne_iff_ne,ne_eq];lia
     ·rename_i P;obtain ⟨f,hf,C⟩:=tW _ h;have elts:∀ j (h1:j<k.toArray.size) (h2:j<c.toArray.size),SeqAt.EqAt A.in1 s k.toArray[j] c.toArray[j] (f j):=fun j h1 h2=>by
       have r:j<k.length:=by simpa using h1
       have G:j<c.length:=by simpa using h2
       have k1:j<vs.length:=by rw[rv.length];exact r
       have k2:j<E.length:=by rw[l.length];exact G
       obtain⟨x,ex,rx⟩:=t.getV (gG1 k1);obtain⟨y,ey,ry⟩:=au.getV (gG1 k2);obtain⟨u1,K,N⟩:=rv.get (gG1 k1);obtain⟨u2,o,T⟩:=l.get (gG1 k2);have B:k.toArray[j]=u1:=by
        rw[gG1 r]at K;simpa using K
       have R:c.toArray[j]=u2:=by
        rw[gG1 G]at o;simpa using o
       rw[B,R];exact(nj I hs n (A:=A.in1) (by show A.units+1+n<cLine;lia) rx ry N T (hf j x y ex ey)).1
      cases aq with
      |false=>
       have:=SeqAt.RcNeAt.tuples m g i elts;rw[C];have B:k.toArray.size=xs.length:=by simp;lia
       have R:c.toArray.size=ys.length:=by simp;lia
       rw[B,R]at this;exact this
      |true=>
       have F:xs.length=ys.length:=by
        by_cases z:xs.length=ys.length
        ·exact z
        ·exact absurd ⟨O,z⟩ P
       have:=SeqAt.RcNeAt.lists m g (by simp;lia) i elts;rw[C];have B:k.toArray.size=xs.length:=by simp;lia
       rw[B]at this;rw[F,Nat.min_self,beq_self_eq_true,bJ,<- F];exact this
    ·rename_i L;cases h;cases aq with
     |true=>
      cases qb with
      |true=>exact absurd O L
      |false=>exact .list_tuple m g i
     |false=>
      cases qb with
      |false=>exact absurd O L
      |true=>exact .tuple_list m g i
   |none=>
    rw[hd,he]at h;dsimp only at h;split at h
    ·rename_i f;cases h;exact(lh m ao (eU am f).1 i).1
    ·cases h
  |none=>
   cases he:dn S e with
   |some p2=>
    obtain⟨qb,ys⟩:=p2;obtain⟨a2,E,rfl,U,au⟩:=dw am hs he;obtain⟨c,l,g,_⟩:=ej I U;cases ao;rw[hd,he]at h;dsimp only at h;split at h
    ·rename_i f;cases h;exact(lh g wq (eU W f).1 i).2
    ·cases h
   |none=>
    rw[hd,he]at h;dsimp only at h;obtain⟨f1,f2⟩:=nk h;obtain⟨g1,g2⟩:=eU W f1;have g3:=(eU am f2).1;rw[g2 e w am f2]at h;cases h;exact AX wq ao g1 g3
end
noncomputable def u8:G2:=λd e S=>(lT S eh d e).map λb=>(.bl (!b),S)
noncomputable def Cd(f:D->D->Option Bool)(x:D):List D->Option Bool
 |[]=>Z J
 |y::ys=>(f y x).bind λb=>(Cd f x ys).map λc=>b||c
noncomputable def EN:G2:=λd e S=>(dn S e).bind λp=>(Cd (lT S eh) d p.2).map λb=>(.bl b,S)
noncomputable def m6:G2:=λd e S=>(dn S e).bind λp=>(Cd (lT S eh) d p.2).map λb=>(.bl (!b),S)
noncomputable def ou:D->Bool
 | .non=>M
 |_=>J
noncomputable def HF:G2:=λd e S=>match e with
 | .non=>Z (.bl (ou d),S)
 |_=>Y
noncomputable def By:G2:=λd e S=>match e with
 | .non=>Z (.bl (!ou d),S)
 |_=>Y
section
variable{X:Cx}
theorem tE(l:X.A.units+64<cLine):fj X (compareOp .NotEq) (r2 X.K (b2 u8)):=by
 intro ag s σ H x y u w Q I i j h;obtain⟨mu,S,d,e,r,k,f,r2,c,a,hc⟩:=nC h;obtain⟨b,g,a⟩:=oM1.mp a;cases a;exact Dx I c eh (by show _+60<cLine;lia) f r2 i j g X.prog X.w X.xe _ ⟨.bl (!b),H,I,O,hc.now (.bl _) c⟩
theorem yW(f:D->D->Option Bool)(x:D):∀{ys:List D} {b:Bool},Cd f x ys=Z b -> ∃bs:List Bool,bs.length=ys.length/\(∀(j:Nat) (y:D) (k:Bool),ys[j]?=Z y->bs[j]?=Z k->f y x=Z k)/\b=bs.any id
 |[],b,h=>by cases h;exact⟨[],O,λj y k h=>by simp at h,O⟩
 |y::ys,b,h=>by
  rw[Cd]at h;obtain⟨b1,g,h⟩:=oB1.mp h;obtain⟨b2,l,h⟩:=oM1.mp h;obtain⟨bs,i,e,a⟩:=yW f x l;refine⟨b1::bs,by simp[i],λj m k c d=>?_,?_⟩
  ·cases j with
   |zero=>simp at c d;subst c;subst d;exact g
   |succ j=>exact e j m k (by simpa using c) (by simpa using d)
  ·rw[<- h,a];simp
open Classical in
theorem Cc{ag:List (cP×Obj)}{σ:L2.St}{H:Hp}{s:cO}{mu:List cP}{S:c6}(I:Inv X ag σ H s)(hs:eF X.K H mu S){A:cR}(K:A.units+61<cLine){x:D}{v:V}{u:cN}(E:d3 X.K H mu x v)(G:dy v u){ys:List D}{vs:List V}{a:List cN}{b:Bool}(q:df X.K H mu ys vs)(r:dG vs a)(h:Cd (lT S eh) x ys=Z b):∃e:cN->Bool,(∀w∈a,SeqAt.EqAt A.in1 s w u (e w))/\a.any e=b:=by
 obtain⟨bs,L,B,rfl⟩:=yW _ x h;have am:=q.length;have ao:=r.length;have g:∀(j:Nat) w k,a[j]?=Z w->bs[j]?=Z k->SeqAt.EqAt A.in1 s w u k:=λj w k l d=>by
  have o:j<a.length:=(gE1.mp l).1;obtain⟨y,t,C⟩:=q.getV (i:=j) (v:=vs[j]'(by lia)) (gG1 (by lia));obtain⟨N,p,r2⟩:=r.get (i:=j) (x:=vs[j]'(by lia)) (gG1 (by lia));rw[l]at p;cases p;exact(nj I hs eh (A:=A.in1) (by show A.units+1+60<cLine;lia) C E r2 G (B j y k t d)).1
 refine⟨λw=>decide (∃j:Nat,a[j]?=Z w/\bs[j]?=Z M),λw l=>?_,?_⟩
 ·by_cases z:∃j:Nat,a[j]?=Z w/\bs[j]?=Z M
  ·dsimp only;rw[ah z];obtain⟨j,n,c⟩:=z;exact g j w M n c
  ·dsimp only;rw[ai z];obtain⟨j,f⟩:=br l;have o:j<a.length:=(gE1.mp f).1;have m:j<bs.length:=by lia
   have c:=gG1 m;cases d:bs[j]with
   |true=>rw[d]at c;exact absurd ⟨j,f,c⟩ z
   |false=>rw[d]at c;exact g j w J f c
 ·rw[bN,bO,bO];constructor
  ·rintro⟨w,l,z⟩;obtain⟨j,n,c⟩:=of_decide_eq_true z;exact⟨M,gM1 c,O⟩
  ·rintro⟨k,d,z⟩;obtain⟨j,f⟩:=br d;have o:j<bs.length:=(gE1.mp f).1;have m:j<a.length:=by lia
   have F:k=M:=z;subst F;exact⟨a[j],bP m,ah ⟨j,gG1 m,f⟩⟩
theorem Hw(F:X.A.units+64<cLine):fj X (compareOp .In) (r2 X.K (b2 EN)):=by
 intro ag s σ H x y u w Q I B D h;obtain⟨mu,S,d,e,r,E,o,r2,k,i,hc⟩:=nC h;obtain⟨⟨z,ys⟩,p,i⟩:=oB1.mp i;obtain⟨b,C,i⟩:=oM1.mp i;cases i;obtain⟨a,vs,rfl,q,t⟩:=dw r2 k p;cases D;obtain⟨c,v,l,_⟩:=ej I q;obtain⟨f,m,n⟩:=Cc I k (A:=X.A) (by lia) o B t v C;have g:EP X ag σ Q (.bool (c.toArray.any f)) s:=⟨.bl b,H,I,by rw[show c.toArray.any f=c.any f by simp,n];rfl,hc.now (.bl b) k⟩;cases z
 ·exact SeqAt.in_tupleAt f l (λy j=>m y (by simpa using j)) g
 ·exact SeqAt.in_listAt f l (λy j=>m y (by simpa using j)) g
theorem AV(F:X.A.units+64<cLine):fj X (compareOp .NotIn) (r2 X.K (b2 m6)):=by
 intro ag s σ H x y u w Q I B D h;obtain⟨mu,S,d,e,r,E,o,r2,k,i,hc⟩:=nC h;obtain⟨⟨z,ys⟩,p,i⟩:=oB1.mp i;obtain⟨b,C,i⟩:=oM1.mp i;cases i;obtain⟨a,vs,rfl,q,t⟩:=dw r2 k p;cases D;obtain⟨c,v,l,_⟩:=ej I q;obtain⟨f,m,n⟩:=Cc I k (A:=X.A) (by lia) o B t v C;have g:EP X ag σ Q (.bool (!c.toArray.any f)) s:=⟨.bl (!b),H,I,by rw[show c.toArray.any f=c.any f by simp,n];rfl,hc.now (.bl _) k⟩;cases z
 ·exact SeqAt.notIn_tupleAt f l (λy j=>m y (by simpa using j)) g
 ·exact SeqAt.notIn_listAt f l (λy j=>m y (by simpa using j)) g
theorem uN{K:Fg1}{H:Hp}{mu:List cP}{d:D}{v:V}(r:d3 K H mu d v):ou d=decide (v = .non):=by
 cases r<;>simp[ou]
theorem FM:fj X (compareOp .Is) (r2 X.K (b2 HF)):=by
 intro ag s σ H x y u w Q I f g h;obtain⟨mu,S,d,e,r,i,b,r2,c,a,hc⟩:=nC h;cases e with
 |non=>
  cases a;cases r2;refine Dn ag s σ H _ _ u w Q I f g ⟨O,?_⟩;rw[<- uN b];exact hc.now (.bl _) c
 |_=>cases a
theorem Ds:fj X (compareOp .IsNot) (r2 X.K (b2 By)):=by
 intro ag s σ H x y u w Q I f g h;obtain⟨mu,S,d,e,r,i,b,r2,c,a,hc⟩:=nC h;cases e with
 |non=>
  cases a;cases r2;refine AO ag s σ H _ _ u w Q I f g ⟨O,?_⟩;rw[<- uN b];exact hc.now (.bl _) c
 |_=>cases a
end
noncomputable def eL:G1:=λd S=>match d with
 | .str x=>if x.length<=cV then Z (.int x.length,S)else Y
 |_=>(dn S d).map λp=>(.int p.2.length,S)
noncomputable def zf:G2:=λd e S=>match e with
 | .int i=>(dn S d).bind λp=>(sB p.2 i).map λx=>(x,S)
 |_=>Y
noncomputable def gTup:G1:=λd S=>(dn S d).map λp=>(.tup p.2,S)
noncomputable def rH:G1:=λd S=>(dn S d).map λp=>(.ref S.length,S++[.lst p.2])
noncomputable def i4:G3:=λo i v S=>match o,i with
 | .ref n,.int k=>match S[n]? with
  |some (.lst xs)=>(tP xs.length k).map λj=>(.non,S.set n (.lst (xs.set j v)))
  |_=>Y
 |_,_=>Y
noncomputable def lH:G1:=λd S=>match d with
 | .int i=>Z (.int i,S)
 | .bl b=>Z (.int (if b then 1 else 0),S)
 |_=>Y
section
variable{X:Cx}
theorem ft:eG X (.builtin "len") (rN X.K (b1 eL)):=by
 intro ag s σ H xs g Q I r h;obtain⟨x,mu,S,d,k,l,rfl,f,e,c,hc⟩:=zQ h;unfold eL at c;split at c
 ·split at c
  ·rename_i z j;cases c;cases f;exact pS ag s σ H _ g Q I r ⟨_,O,j,hc.now (.int _) e⟩
  ·cases c
 ·obtain⟨⟨b,ys⟩,i,c⟩:=oM1.mp c;cases c;obtain⟨a,vs,rfl,q,t⟩:=dw f e i;refine pT ag s σ H _ g Q I r ⟨a,vs,O,?_,?_⟩
  ·cases b
   ·exact .inr q
   ·exact .inl q
  ·rw[<- t.length];exact hc.now (.int _) e
theorem BQ{K:Fg1}{H:Hp}{mu:List cP}{ds:List D}{vs:List V}{i:Int}{d:D}(t:df K H mu ds vs)(h:sB ds i=Z d):∃v,sB vs i=Z v/\d3 K H mu d v:=by
 unfold sB at h ⊢;rw[<- t.length];obtain⟨j,a,h⟩:=oB1.mp h;obtain⟨v,c,b⟩:=t.get h;exact⟨v,by rw[a];exact c,b⟩
theorem G0:Cm X (r2 X.K (b2 zf)):=by
 intro value c ag s σ H x y v u Q I m n h g;obtain⟨mu,S,d,e,r,B,p,r2,j,f,hc⟩:=nC h;cases e with
 |int i=>
  obtain⟨⟨b,ys⟩,w,f⟩:=oB1.mp f;obtain⟨z,A,f⟩:=oM1.mp f;cases f;cases r2;obtain⟨a,vs,rfl,q,t⟩:=dw p j w;obtain⟨o,l,k⟩:=BQ t A;cases b
  ·exact D7 value c ag s σ H _ _ v u Q I m n ⟨a,vs,i,o,O,O,q,l,hc.now k j⟩ g
  ·exact Bl value c ag s σ H _ _ v u Q I m n ⟨a,vs,i,o,O,O,q,l,hc.now k j⟩ g
 |_=>cases f
theorem d5:eG X (.type "tuple") (rN X.K (b1 gTup)):=by
 intro ag s σ H xs i Q I r h;obtain⟨x,mu,S,d,k,m,rfl,g,f,c,hc⟩:=zQ h;obtain⟨⟨b,ys⟩,j,c⟩:=oM1.mp c;cases c;obtain⟨a,vs,rfl,q,t⟩:=dw g f j;refine nK ag s σ H _ i Q I r ⟨a,vs,O,?_⟩;cases b
 ·exact .inr ⟨q,hc.now (.tup q t) f⟩
 ·exact .inl ⟨q,λl e=>hc _ _ mu (Ext.fresh e) (.tup (iI.of dD) (t.ext (Ext.fresh e))) (f.fresh e)⟩
theorem t8:eG X (.type "list") (rN X.K (b1 rH)):=by
 intro ag s σ H xs i Q I r h;obtain⟨x,mu,S,d,k,m,rfl,g,e,c,hc⟩:=zQ h;obtain⟨⟨b,ys⟩,j,c⟩:=oM1.mp c;cases c;obtain⟨a,vs,rfl,q,t⟩:=dw g e j;refine pR ag s σ H _ i Q I r ⟨a,vs,O,?_,λl f=>hc _ _ (mu++[l]) (Ext.new_ f) (.ref (gf e.len l)) (e.newL t f)⟩;cases b
 ·exact .inr q
 ·exact .inl q
theorem Fg:ug X (rU X.K (b3 i4)):=by
 intro ag s σ H o i v w q u Q I m r B h;obtain⟨mu,S,ds,d,G,x,f,a,hc⟩:=h;cases x with
 |cons p A=>cases A with
  |cons z g=>cases g with
   |cons y l=>
    cases l;rename_i E F D;dsimp only[b3]at a;unfold i4 at a;split at a
    ·rename_i n k;split at a
     ·rename_i xs e;obtain⟨j,C,a⟩:=oM1.mp a;cases a;cases p with
      |ref b=>
       cases z;obtain⟨vs,c,t⟩:=f.lst e b;refine xH ag s σ H _ _ v w q u Q I m r B ⟨_,vs,k,j,O,O,c,by rw[<- t.length];exact C,?_⟩;exact hc _ mu (Ext.put c trivial (gM1 b)) (f.putL (t.set y j) b c)
     ·cases a
    ·cases a
theorem sm:eG X (.type "int") (rN X.K (b1 lH)):=by
 intro ag s σ H xs e Q I r h;obtain⟨x,mu,S,d,g,j,rfl,c,f,a,hc⟩:=zQ h;cases d with
 |int i=>cases a;cases c;exact oI ag s σ H _ e Q I r (.inl ⟨i,O,hc.now (.int _) f⟩)
 |bl b=>cases a;cases c;exact oI ag s σ H _ e Q I r (.inr ⟨b,O,hc.now (.int _) f⟩)
 |_=>cases a
end
open PySem.SeqAt
open PySem.AutoSeq1 (wpAny_loadPart')
open PySem.MeetsSeq PySem.MeetsSeq2 PySem.MeetsSeq3
def BV(A:cR)(s:cO)(y x:cN)(b:Bool):Prop:=∀(prog:cQ) (w:cS) (E:cN->cO->Prop) (Q:cN->cO->Prop),Q (.bool b) s->cW (model prog w) A (richCompare .Lt y x) Q E s
inductive wR (A:cR)(s:cO):List cN->List cN->Bool->Prop
 |nn:wR A s [] [] false
 |nc (y:cN) (ys:List cN):wR A s [] (y::ys) true
 |cn (x:cN) (xs:List cN):wR A s (x::xs) [] false
 |eq {x y:cN} {xs ys:List cN} {k:Bool} (e:EqAt A.in1 s x y true) (t:wR A s xs ys k):wR A s (x::xs) (y::ys) k
 |lt {x y:cN} {xs ys:List cN} {k:Bool} (e:EqAt A.in1 s x y false) (t:BV A.in1 s x y k):wR A s (x::xs) (y::ys) k
theorem Cz(l b:cP)(items items2:Array cN)(n E:Nat)(dd o:Option cP)(sl p:Array (Option cN))(c:Bool):
  Meets (Builtin.«tuple.__lt__» ⟨[.ref l,.ref b],[]⟩) (fun A R s=>s.heap.get? l=some {cls:=.type "tuple",dict:=dd,data:=.seq items n,slots:=sl}/\s.heap.get? b=some {cls:=.type "tuple",dict:=o,data:=.seq items2 E,slots:=p} /\
    wR A s items.toList items2.toList c/\R (.ok (.ret (.bool c))) s):=
 .of_wp λprog w A R s h=>by
  obtain⟨v,g,d,tk,u⟩:=s;obtain⟨D,C,z,h⟩:=h;have G:=AutoSeq1.sub_tuple_tuple
  wp_walk using wpAny_loadPart' D,wpAny_loadPart' C,wpAny_forIn_list _ (λrest b s'=>b.1=Y/\s'=⟨v,g,d,tk,u⟩ /\ ∃vs ws:List cN,rest=vs.zip ws/\wR A ⟨v,g,d,tk,u⟩ vs ws c/\vs.length+items2.size=ws.length+items.size) _
  case turn=>
   rintro⟨y,x⟩ rest b s' ⟨k,rfl,vs,ws,f,r,a⟩;cases r with
   |nn=>cases f
   |nc _ _=>cases f
   |cn _ _=>cases f
   |eq e t=>
    rw[bQ]at f;injection f with j i;injection j with m q;subst m q
    simp only[lC1]at a;refine wB1 (e prog w _ _ ?_)
    wp_walk
    exact⟨O,O,_,_,i,t,by lia⟩
   |lt e t=>
    rw[bQ]at f;injection f with j i;injection j with m q;subst m q
    refine wB1 (e prog w _ _ ?_);have B:=t prog w
    wp_walk using B
    exact⟨_,O,by simpa using h⟩
  case fin=>
   rintro⟨b1,b2⟩ s' ⟨k,rfl,vs,ws,f,r,a⟩;simp only at k;subst k;have F:c=decide (items.size<items2.size):=by
    cases r with
    |nn=>simp only[bh]at a;exact(ai (by lia)).symm
    |nc _ _=>simp only[bh,lC1]at a;exact(ah (by lia)).symm
    |cn _ _=>simp only[bh,lC1]at a;exact(ai (by lia)).symm
    |eq _ _=>rw[bQ]at f;cases f
    |lt _ _=>rw[bQ]at f;cases f
   rw[F]at h
   wp_walk
   exact⟨_,O,by simpa[Builtin.Tuple.tupleCompareSizes]using h⟩
  case h=>exact⟨O,O,items.toList,items2.toList,O,z,by simp;lia⟩
theorem yJ(l b:cP)(items items2:Array cN)(n E:Nat)(dd u:Option cP)(sl z:Array (Option cN))(c:Bool)(k:Nat):
  ∀i:Nat,items.size-i=k->i<=items.size->i<=items2.size->Meets (Builtin.«list.__eq__.loop» ⟨[.ref l,.ref b,rawInt i,rawInt 0],[]⟩)
   (λA R s=>s.heap.get? l=Z {cls:=.type "list",dict:=dd,data:=.seq items n,slots:=sl}/\s.heap.get? b=Z {cls:=.type "list",dict:=u,data:=.seq items2 E,slots:=z} /\
    wR A s (items.toList.drop i) (items2.toList.drop i) c/\R (.ok (.ret (.bool c))) s):=by
 induction k with
 |zero=>
  intro i C v B prog w A R s h;obtain⟨F,g,d,tk,D⟩:=s;obtain⟨m,f,a,h⟩:=h
  wp_walk using wpAny_loadPart' m,wpAny_loadPart' f
  have o:items[((i:Nat):Int).toNat]?=Y:=by simp;lia
  have r:items.toList.drop i=[]:=by simp;lia
  rw[r]at a;rw[o]
  wp_walk using wpAny_loadPart' m,wpAny_loadPart' f
  have G:c=decide (items.size<items2.size):=by
   cases h2:items2.toList.drop i with
   |nil=>
    rw[h2]at a;cases a;have:=congrArg List.length h2;simp at this;exact(ai (by lia)).symm
   |cons y ys=>
    rw[h2]at a;cases a;have:=congrArg List.length h2;simp at this;exact(ah (by lia)).symm
  show R (.ok (.ret (.bool (decide (items.size<items2.size))))) _;rw[<- G];exact h
 |succ k ih=>
  intro i C v B prog w A R s h;obtain⟨F,g,d,tk,D⟩:=s;obtain⟨m,f,a,h⟩:=h;have p:i<items.size:=by lia
  have r:items.toList.drop i=items[i]::items.toList.drop (i+1):=by simp[List.drop_eq_getElem_cons,p]
  have o:items[((i:Nat):Int).toNat]?=Z items[i]:=by simp[p]
  have hc:((i:Int)+1)=((i+1:Nat):Int):=by push_cast;rfl
  rw[r]at a;rcases bR i items2.size with j|H
  ·have x:items2.toList.drop i=items2[i]::items2.toList.drop (i+1):=by simp[List.drop_eq_getElem_cons,j]
   have q:items2[((i:Nat):Int).toNat]?=Z items2[i]:=by simp[j]
   rw[x]at a
   wp_walk using wpAny_loadPart' m,wpAny_loadPart' f
   rw[o,q];cases a with
   |eq e t=>
    refine wB1 (e prog w _ _ ?_)
    wp_walk
    rw[hc];exact⟨plainId_quiet plain_eq_loop _,wD1 entry_eq_loop (by rw[Around.under_plainId plain_eq_loop _];exact ih (i+1) (by lia) (by lia) (by lia) prog w A R _ ⟨m,f,t,h⟩)⟩
   |lt e t=>
    refine wB1 (e prog w _ _ ?_);have I:=t prog w
    wp_walk using wpAny_loadPart' m,wpAny_loadPart' f
    rw[o,q]
    wp_walk using I
    simpa using h
  ·have q:items2[((i:Nat):Int).toNat]?=Y:=by simp;lia
   have x:items2.toList.drop i=[]:=by simp;lia
   rw[x]at a;cases a
   wp_walk using wpAny_loadPart' m,wpAny_loadPart' f
   rw[o,q]
   wp_walk using wpAny_loadPart' m,wpAny_loadPart' f
   show R (.ok (.ret (.bool (decide (items.size<items2.size))))) _;rw[ai (by lia)];exact h
theorem DZ(l b:cP)(items items2:Array cN)(n j:Nat)(dd a:Option cP)(sl e:Array (Option cN))(c:Bool):
  Meets (Builtin.«list.__lt__» ⟨[.ref l,.ref b],[]⟩) (fun A R s=>s.heap.get? l=some {cls:=.type "list",dict:=dd,data:=.seq items n,slots:=sl}/\s.heap.get? b=some {cls:=.type "list",dict:=a,data:=.seq items2 j,slots:=e} /\
    wR A s items.toList items2.toList c/\R (.ok (.ret (.bool c))) s):=by
 intro prog w A R s h;obtain⟨o,g,d,tk,p⟩:=s;obtain⟨i,f,k,h⟩:=h;have m:=AutoSeq1.sub_list_list
 wp_walk using wpAny_loadPart' i,wpAny_loadPart' f
 exact⟨plainId_quiet plain_eq_loop _,wD1 entry_eq_loop (by rw[Around.under_plainId plain_eq_loop _];exact yJ l b items items2 n j dd a sl e c _ 0 O (bm _) (bm _) prog w A R _ ⟨i,f,by simpa using k,h⟩)⟩
theorem CH{A:cR}{s:cO}{k:Bool}{l b:cP}{xs ys:Array cN}{c:Bool}(y:SCo k s.heap l xs)(z:SCo k s.heap b ys)(B:A.units<cLine)(h:wR A s xs.toList ys.toList c):BV A s (.ref l) (.ref b) c:=λprog w E Q q=>by
 cases k
 ·obtain⟨⟨u,t,j,r⟩,p,hc,n,o⟩:=id y;obtain⟨⟨m,g,f,i⟩,d,a,v,e⟩:=id z;simp only at hc o a e;subst hc o a e;exact richCompare_meets_room (op:=.Lt) ⟨_,p,O⟩ ⟨_,d,O⟩ PySem.F.slot_tuple_lt PySem.F.entry_tuple_lt (PySem.F.args_tuple_lt_2 _ _) (Cz l b xs ys n v t g r i c) ⟨p,d,h,show Value.bool c≠Value.notImplemented/\Q (.bool c) s from⟨(λx=>nomatch x),q⟩⟩ B
 ·obtain⟨⟨u,t,j,r⟩,p,hc,n,o⟩:=id y;obtain⟨⟨m,g,f,i⟩,d,a,v,e⟩:=id z;simp only at hc o a e;subst hc o a e;exact richCompare_meets_room (op:=.Lt) ⟨_,p,O⟩ ⟨_,d,O⟩ PySem.F.slot_list_lt PySem.F.entry_list_lt (PySem.F.args_list_lt_2 _ _) (DZ l b xs ys n v t g r i c) ⟨p,d,h,show Value.bool c≠Value.notImplemented/\Q (.bool c) s from⟨(λx=>nomatch x),q⟩⟩ B
noncomputable def GR(f g:D->D->Option Bool):List D->List D->Option Bool
 |[],[]=>Z J
 |[],_::_=>Z M
 |_::_,[]=>Z J
 |x::xs,y::ys=>(f x y).bind λb=>if b=M then GR f g xs ys else g x y
noncomputable def Ig:D->D->Option Bool
 | .int i,.int j=>Z (decide (i<j))
 | .str x,.str y=>Z (decide (x.cps.toList<y.cps.toList))
 |_,_=>Y
noncomputable def EL(S:c6):Nat->D->D->Option Bool
 |0,_,_=>Y
 |n+1,d,e=>match Ig d e with
  |some b=>Z b
  |none=>match dn S d,dn S e with
   |some p,Z q=>if p.1=q.1 then GR (lT S n) (EL S n) p.2 q.2 else Y
   |_,_=>Y
noncomputable def wP:G2:=λd e S=>(EL S eh d e).map λb=>(.bl b,S)
section
variable{X:Cx}{ag:List (cP×Obj)}{σ:L2.St}{H:Hp}{s:cO}{mu:List cP}{S:c6}
theorem DY(I:Inv X ag σ H s)(hs:eF X.K H mu S){n:Nat}{A:cR}(r:A.units+1+n<cLine)(ih:∀ {d e:D} {v w:V} {u z:cN} {b:Bool},d3 X.K H mu d v->d3 X.K H mu e w->dy v u->dy w z->EL S n d e=some b->BV A.in1 s u z b):
  ∀{xs ys:List D} {vs ws:List V} {f zs:List cN} {b:Bool},df X.K H mu xs vs->df X.K H mu ys ws->dG vs f->dG ws zs->GR (lT S n) (EL S n) xs ys=Z b->wR A s f zs b
 :=by
 intro xs
 induction xs with
 |nil=>
  intro ys vs ws f zs b a r2 g c h;cases a;cases g;cases r2 with
  |nil=>cases c;cases h;exact .nn
  |cons _ _=>cases c;cases h;exact .nc _ _
 |cons x xs m=>
  intro ys vs ws f zs b a r2 g c h;cases a with
  |cons a q=>
   cases g with
   |cons j p=>
    cases r2 with
    |nil=>cases c;cases h;exact .cn _ _
    |cons r2 l=>
     cases c with
     |cons i p2=>
      rw[GR]at h;obtain⟨k,o,h⟩:=oB1.mp h;have eq:=(nj I hs n (A:=A.in1) r a r2 j i o).1;cases k with
      |true=>exact .eq eq (m q l p p2 h)
      |false=>exact .lt eq (ih a r2 j i h)
theorem yI(I:Inv X ag σ H s)(hs:eF X.K H mu S):∀(n:Nat) {A:cR} {d e:D} {v w:V} {u z:cN} {b:Bool},A.units+n<cLine->d3 X.K H mu d v->d3 X.K H mu e w->dy v u->dy w z->EL S n d e=Z b->BV A s u z b
 |0,_,_,_,_,_,_,_,_,_,_,_,_,_,h=>by cases h
 |n + 1,A,d,e,v,w,u,z,b,W,j,l,m,o,h=>by
  rw[EL]at h;split at h
  ·rename_i k c;cases h;unfold Ig at c;split at c
   ·cases c;cases j;cases l;obtain⟨t,rfl⟩:=m;obtain⟨r,rfl⟩:=o;exact λprog w E Q q=>(PyProof.Rows.lt_int q:cW (model prog w) A (compareOp .Lt (.int _ t) (.int _ r)) Q E s)
   ·cases c;cases j;cases l;obtain⟨t,rfl⟩:=m;obtain⟨r,rfl⟩:=o;exact λprog w E Q q=>(PyProof.Rows.lt_str q:cW (model prog w) A (compareOp .Lt (.str _ t) (.str _ r)) Q E s)
   ·cases c
  ·split at h
   ·rename_i p q R K;split at h
    ·rename_i F;obtain⟨au,xs⟩:=p;obtain⟨qb,ys⟩:=q;have i:au=qb:=F;subst i;obtain⟨a,vs,rfl,B,P⟩:=dw j hs R;obtain⟨a2,am,rfl,L,y⟩:=dw l hs K;cases m;cases o;obtain⟨T,U,ao,_⟩:=ej I B;obtain⟨x,g,f,_⟩:=ej I L;refine CH ao f (by lia) ?_;have:=DY I hs (A:=A) (n:=n) (by lia) (λG r2 N C h=>yI I hs n (A:=A.in1) (by show A.units+1+n<cLine;lia) G r2 N C h) P y U g h;simpa using this
    ·cases h
   ·cases h
theorem lc(l:X.A.units+64<cLine):fj X (compareOp .Lt) (r2 X.K (b2 wP)):=by
 intro ag s σ H x y u w Q I i j h;obtain⟨mu,S,d,e,r,k,f,r2,c,a,hc⟩:=nC h;obtain⟨b,g,a⟩:=oM1.mp a;cases a;exact yI I c eh (by show _+60<cLine;lia) f r2 i j g X.prog X.w X.xe _ ⟨.bl b,H,I,O,hc.now (.bl b) c⟩
end
inductive Ty where
 |int|bool|str|tuple|list|dict
 deriving DecidableEq
noncomputable def Ty.nm:Ty->String
 | .int=>"int" | .bool=>"bool" | .str=>"str" | .tuple=>"tuple" | .list=>"list" | .dict=>"dict"
noncomputable def Jc (S:c6)(T:Ty):D->Option Bool
 | .non=>some false
 | .bl _=>some (decide (T = .bool)||decide (T = .int))
 | .int _=>some (decide (T = .int))
 | .str _=>some (decide (T = .str))
 | .tup _=>some (decide (T = .tuple))
 | .rol _=>some (decide (T = .list))
 | .ref n=>match S[n]? with
  |some (.lst _)=>some (decide (T = .list))
  |some (.dct _)=>some (decide (T = .dict))
  |some (.dcT _)=>some (decide (T = .dict))
  |_=>none
 | .fn _=>none
section
variable{X:Cx}{ag:List (cP×Obj)}{σ:L2.St}{H:Hp}{s:cO}{mu:List cP}{S:c6}{K:Fg1}
end
abbrev FO:=Ev->c6->Option (Option Int×c6)
noncomputable def IE(K:Fg1)(m:FO):TO:=fun σ H Q=>∃r mu S o S',fc K H mu r σ/\eF K H mu S/\m r S=Z (o,S') /\ ∀H' mu',Ext mu mu' H H'->eF K H' mu' S'->Q o H'
abbrev MO(X:Cx)(e:Option Expr)(m:FO):Prop:=PO X e (IE X.K m)
noncomputable def gh:FO:=λ_ S=>Z (Y,S)
noncomputable def fV(m:FE):FO:=λr S=>(m r S).bind λp=>match p.1 with
 | .int i=>Z (Z i,p.2)
 |_=>Y
noncomputable def sa(xs:List D)(lo hi:Option Int):List D:=(xs.drop (HT.sIx xs.length 0 lo)).take (HT.sIx xs.length xs.length hi-HT.sIx xs.length 0 lo)
section
variable{X:Cx}
theorem A6:MO X Y gh:=by
 rintro ag s σ H Q I ⟨r,mu,S,o,d,c,a,b,hc⟩;cases b;exact AB ag s σ H Q I (hc H mu (.refl _ _) a)
theorem A5{e:Expr}{m:FE}(h:ME X e m):MO X (Z e) (fV m):=by
 rintro ag s σ H Q I ⟨r,mu,S,o,l,c,k,a,hc⟩;obtain⟨⟨d,n⟩,g,a⟩:=oB1.mp a;cases d with
 |int i=>
  cases a;refine AA h ag s σ H Q I ⟨r,mu,S,_,_,c,k,g,λv H1 mu1 j b f=>?_⟩;cases b;exact⟨i,O,hc H1 mu1 j f⟩
 |_=>cases a
theorem vg{K:Fg1}{H:Hp}{mu:List cP}{ds:List D}{vs:List V}(t:df K H mu ds vs)(lo hi:Option Int):df K H mu (sa ds lo hi) (r9 vs lo hi):=by
 unfold sa r9;rw[<- t.length];exact(t.drop _).take _
noncomputable def E3(ta:TA):TE:=fun σ H Q=>ta σ H λvs H1=>∃j:Int,vs=[.int j] /\ ∀p,H1 p=Y->Q (.ref p) (upd H1 p (.rng 0 j))
theorem n4 {a:Expr}{ta:TA}{p pos:Pos}(hg:Gl X "range")(hm:X.mg "range"=Y)(ha:PA X [a] ta)(hs:cU [a] X.env=[(J,eval a X.env)]:=by rfl):PE X (.Call (.Name "range" p) [a] [] pos) (E3 ta):=by
 intro ag s σ H Q I h;refine Call_ (jL I hg hm boot_range (PyProof.Rows.callWith_type1 (eJ (ha pos ag s σ H _ I h) λk f ⟨vs,H1,c,d,g⟩=>?_) hs O));obtain⟨j,e,q⟩:=g;subst e;cases d with
 |cons r i=>
  cases i;obtain⟨t,rfl⟩:=r;refine call_range_1 ⟨.ref f.heap.objs.size,_,c.laid (λb o e=>hP1 _ e) (nR1 _) (o:=.rng 0 j) ?_,O,q _ (c.hok.fresh (nR1 _))⟩;exact⟨_,_,_,hS1 _ O⟩
noncomputable def jk(i:Int):Nat->List V
 |0=>[]
 |n+1=>.int i::jk (i+1) n
theorem iR:∀(n:Nat) (i:Int),(jk i n).length=n
 |0,_=>rfl
 |n+1,i=>by rw[jk,lC1,iR n]
theorem mE:∀(n:Nat) (i:Int) (k:Nat) (v:V),(jk i n)[k]?=Z v->v = .int (i+k)
 |0,i,k,v,h=>by simp[jk]at h
 |n+1,i,0,v,h=>by simp[jk]at h;rw[<- h];simp
 |n+1,i,k+1,v,h=>by
  rw[jk,gC1]at h;rw[mE n (i+1) k v h,show i+1+(k:Int)=i+((k+1:Nat):Int) by push_cast;lia]
theorem mD{K:Fg1}{H:Hp}{mu:List cP}:∀(n:Nat) (i:Int),df K H mu (hC i n) (jk i n)
 |0,_=>.nil
 |n+1,i=>.cons (.int i) (mD n (i+1))
theorem oY:∀{xs:List V} {a:List cN},xs.length=a.length->(∀(i:Nat) x u,xs[i]?=Z x->a[i]?=Z u->dy x u)->dG xs a
 |[],[],_,_=>.nil
 |x::xs,u::a,h,f=>.cons (f 0 x u O O) (oY (by simpa using h) λi y w h1 h2=>f (i+1) y w (by simpa using h1) (by simpa using h2))
 |[],_::_,h,_=>by simp at h
 |_::_,[],h,_=>by simp at h
theorem BK(hc:X.calm=M):eG X (.type "list") (λxs H Q=>∃p i j,xs=[.ref p]/\H p=Z (.rng i j)/\(-(2^62)<=i/\i<2^62 /\ -(2^62)<=j/\j<2^62)/\(j-i).toNat<=2^20 /\ ∀l,H l=Y->Q (.ref l) (upd H l (.lst (jk i (j-i).toNat)))):=by
 intro ag s σ H xs E Q I r h;obtain⟨p,i,j,rfl,C,⟨h1,h2,A,o⟩,f,q⟩:=h;obtain⟨u,rfl,m⟩:=gM r;cases m;obtain⟨t,u,v,e⟩:=I.hok p _ C;have z:(((j-i).toNat:Nat):Int)=Builtin.Range.rangeSize i j 1:=by rw[rangeSize_one];split<;>lia
 refine call_list_range (n:=(j-i).toNat) (I.ok.hd hc) e (small_one h1 h2 A o) z.symm (aC f (by decide)) λh' tk b c' y g hi=>?_;obtain⟨d,c⟩:=hi;have a:dG (jk i (j-i).toNat) b.toList:=oY (by rw[iR];simpa using d.symm) λk x u w B=>by
  rw[mE _ _ _ _ w];obtain⟨D,rfl⟩:=c k u (by simpa using B);exact⟨D,by rw[Int.mul_one]⟩
 refine⟨.ref s.heap.objs.size,_,I.laid (t':=tk) y (nR1 _) (show ev X.prog X.w _ h' _ (.lst (jk i (j-i).toNat))from⟨?_,b.toList,c',a,by simpa using g⟩),O,q _ (I.hok.fresh (nR1 _))⟩;rw[iR];exact aC f (by decide)
noncomputable def nZ(i j:Int):Bool:=decide (-(2^62)<=i)&&decide (i<2^62)&&decide (-(2^62)<=j)&&decide (j<2^62)&&decide ((j-i).toNat<=2^20)
noncomputable def tL(m:FA):FE:=λr S=>(m r S).bind λp=>match p.1 with
 |[.int j]=>if nZ 0 j=M then Z (.ref p.2.length,p.2++[.lst (hC 0 j.toNat)])else Y
 |_=>Y
theorem j4{i j:Int}(h:nZ i j=M):(-(2^62)<=i/\i<2^62 /\ -(2^62)<=j/\j<2^62)/\(j-i).toNat<=2^20:=by
 unfold nZ at h;simp only[bA1,al]at h;obtain⟨⟨⟨⟨h1,h2⟩,c⟩,a⟩,b⟩:=h;exact⟨⟨h1,h2,c,a⟩,b⟩
theorem D0{K:Fg1}{mu:List cP}{H H1:Hp}{S1:c6}{i j:Int}{Q:VK}{mu1:List cP}(c:Ext mu mu1 H H1)(a:eF K H1 mu1 S1)(hc:p0 K mu H (.ref S1.length) (S1++[.lst (hC i (j-i).toNat)]) Q){p l:cP}(hp:H1 p=none)(b:upd H1 p (.rng i j) l=none):
  Q (.ref l) (upd (upd H1 p (.rng i j)) l (.lst (jk i (j-i).toNat))):=
 hc _ _ (mu1++[l]) ((c.trans (Ext.fresh hp)).trans (Ext.new_ b)) (.ref (gf a.len l)) ((a.fresh hp).newL (mD _ _) b)
theorem v4 {a:Expr}{m:FA}{e p2 b c:Pos}(hc:X.calm=true)(hg:Gl X "range")(hm:X.mg "range"=none)(hg2:Gl X "list")(hm2:X.mg "list"=none)(ha:MA X [a] m)(hs:cU [a] X.env=[(false,eval a X.env)]:=by rfl)
  (hs2:cU [.Call (.Name "range" e) [a] [] b] X.env=[(J,eval (.Call (.Name "range" e) [a] [] b) X.env)]:=by rfl):ME X (.Call (.Name "list" p2) [.Call (.Name "range" e) [a] [] b] [] c) (tL m):=
 em (jh (BK hc) hg2 hm2 (by decide+kernel) (j7 (n4 hg hm ha hs) mM hs2) (by decide) (by decide) hs2) <| by
  rintro σ H Q ⟨r,mu,S,d,u,k,hs,hm,f⟩;obtain⟨⟨ds,w⟩,o,hm⟩:=oB1.mp hm;dsimp only at hm;split at hm
  ·rename_i j;split at hm
   ·rename_i g;cases hm;refine⟨r,mu,S,_,_,k,hs,o,λvs H1 mu1 t i n=>?_⟩;obtain⟨v,rfl,q⟩:=j5 i;cases q;refine⟨j,O,λp h=>⟨p,0,j,O,dD,(j4 g).1,(j4 g).2,λl s=>D0 t n (by rw[Int.sub_zero];exact f) h s⟩⟩
   ·cases hm
  ·cases hm
end
noncomputable def jm:G2:=λo v S=>match o with
 | .ref n=>match S[n]? with
  |some (.lst xs)=>if xs.length<cV then Z (.non,S.set n (.lst (xs++[v])))else Y
  |_=>Y
 |_=>Y
noncomputable def ze:G2:=λo i S=>match o,i with
 | .ref n,.int k=>match S[n]? with
  |some (.lst xs)=>if-(2^63)<=k/\k<2^63 then(tP xs.length k).bind λj=>(xs[j]?).map λy=>(y,S.set n (.lst (xs.eraseIdx j)))else Y
  |_=>Y
 |_,_=>Y
noncomputable def ri (f:FN)(o:FE)(a:FA):FE:=λr S=>(o r S).bind λp=>match p.1 with
 | .ref n=>match p.2[n]? with
  |some (.lst _)=>(a r p.2).bind λq=>f (p.1::q.1) q.2
  |_=>none
 |_=>none
section
variable{X:Cx}
theorem E1:EQ X "list.append" (λx xs H Q=>rN X.K (b2 jm) (x::xs) H Q):=by
 intro ag s σ H x xs v j Q I o k h;obtain⟨q,y,mu,S,d,e,p,r,l,g,r2,f,a,hc⟩:=Fi h;cases l;cases d with
 |ref n=>
  rw[jm]at a;split at a
  ·rename_i ys i;split at a
   ·rename_i m;cases a;cases g with
    |ref b=>
     obtain⟨vs,c,t⟩:=f.lst i b;refine oi ag s σ H _ [y] v j Q I o k ⟨_,vs,y,O,O,c,by rw[<- t.length];exact m,?_⟩;exact hc _ _ mu (Ext.put c trivial (gM1 b)) .non (f.putL (t.append (.cons r2 .nil)) b c)
   ·cases a
  ·cases a
 |_=>cases a
theorem EZ:EQ X "list.pop" (λx xs H Q=>rN X.K (b2 ze) (x::xs) H Q):=by
 intro ag s σ H x xs v o Q I A p h;obtain⟨E,y,mu,S,d,e,D,F,q,l,r2,i,a,hc⟩:=Fi h;cases q;unfold ze at a;split at a
 ·rename_i n k;split at a
  ·rename_i ys m;split at a
   ·rename_i g;obtain⟨j,C,a⟩:=oB1.mp a;obtain⟨z,B,a⟩:=oM1.mp a;cases a;cases l with
    |ref b=>
     cases r2;obtain⟨vs,c,t⟩:=i.lst m b;obtain⟨w,r,f⟩:=t.get B;refine yu ag s σ H _ [.int k] v o Q I A p ⟨_,vs,k,j,w,O,O,c,g.1,g.2,?_,r,?_⟩
     ·rw[<- t.length];exact(pF C).1
     ·have x:=Ext.put (u:=.lst (vs.eraseIdx j)) c trivial (gM1 b);exact hc _ _ mu x (f.ext x) (i.putL (t.eraseIdx j) b c)
   ·cases a
  ·cases a
 ·cases a
theorem yB {o e:Expr}{es:List Expr}{m:FE}{a:FA}{f:FN}{name:Str}{apos cpos:Pos}{id:String}(slot:Slot "list" name id)(hty:typeOf (.builtin id)=pure (.type "method_descriptor"))(hm:EQ X id (fun x xs H Q=>rN X.K f (x::xs) H Q))(ho:ME X o m)(ha:MA X (e::es) a)
  (hbase:attributeBase o name X.env (eval o X.env)=eval o X.env:=by rfl)
  (hfew:((backTo cpos (cU (e::es) X.env)).all (λx=> !x.1)&&(backToKw cpos (keywordEach [] X.env)).all (λx=>x.1.isSome)&&decide ((e::es).length+([]:List Keyword).length+(if([]:List Keyword).isEmpty then 0 else 1)<30))=M:=by rfl)
  (hline:(apos.endLine == cpos.line)=M:=by rfl) (hs:cU (e::es) X.env=(J,eval e X.env)::cU es X.env:=by rfl) (hplain:(backTo cpos (cU es X.env)).any (·.1)=J:=by rfl):
  ME X (.Call (.Attribute o name apos) (e::es) [] cpos) (ri f m a):=
 em (Fx PySem.F.plainAttrs_list slot hty hm ho ha hbase hfew hline hs hplain) <| by
  rintro σ H Q ⟨r,mu,S,d,B,j,hs,hm,hc⟩;obtain⟨⟨g,i⟩,y,hm⟩:=oB1.mp hm;refine⟨r,mu,S,g,i,j,hs,y,λv H1 mu1 p h k=>?_⟩;cases g with
  |ref n=>
   dsimp only at hm;split at hm
   ·rename_i xs u;obtain⟨⟨ds,q⟩,z,hm⟩:=oB1.mp hm;refine⟨?_,r,mu1,i,ds,q,j.ext p,k,z,λvs H2 c l r2 s=>?_⟩
    ·cases h with
     |ref C=>
      obtain⟨vs,D,t⟩:=k.lst u C;exact .inl ⟨O,vs,lA.of D⟩
    ·exact⟨c,q,.ref n::ds,d,B,.cons (h.ext l) r2,s,hm,λE A b w=>hc E A b ((p.trans l).trans w)⟩
   ·cases hm
  |_=>cases hm
end
theorem Ax{X:Cx}(hc:X.calm=true){elt tg iter:Expr}{ifs:List Expr}{rest:List Comprehension}{scope:c3}{pos n au:Pos}{y:Str}{i:Nat}{T:List Str}{keep:List Nat}{A:List (Str×cP)}{wi:TI}{g:TG}{ti:TT}{tb:cP->TS}{emit:cN->Env->Sem Unit}(U:swapsWith (.ListComp elt (⟨tg,iter,ifs,0⟩::rest) scope pos) (some (.Name y au)) n.line X.env=pure true)(eq:∀it t k,compTurn (.ListComp elt (⟨tg,iter,ifs,0⟩::rest) scope pos) 0 it t k=qk iter.pos tg ifs it k (emit t k) (.compLoop (.ListComp elt (⟨tg,iter,ifs,0⟩::rest) scope pos) 0 it t k))(C:GH X scope T keep)(ao:jn X.env.cells scope.names []=some A)(hi:PI X tg iter wi)(hb:∀s H d p,PG (cxC X scope A T keep s H d) tg g/\nO (cxC X scope A T keep s H d) ifs ti/\PU (cxC X scope A T keep s H d) (emit (.ref p) (cxC X scope A T keep s H d).env) (tb p))(hN:X.N.Nodup)(hy:X.N[i]?=some y)(hx:uh X.env.scope y)(hf:X.fn y=true\/X.env.scope.names.lookup y=some .local)(hs:∀x,foldedSetIterable iter X.env x=pure x:=by intro _;rfl):
  PS X (.Assign [.Name y au] (.ListComp elt (⟨tg,iter,ifs,0⟩::rest) scope pos) n) (xt (xr T.length keep wi g ti tb) (u9 i)):=by
 intro ag s σ H D I h;rw[exec_Assign_Name_used _ _ _ _ U];refine wB1 (wpAny_standAt (wB1 ?_));show cW _ X.A (do let _<-comprehension (.ListComp elt (⟨tg,iter,ifs,0⟩::rest) scope pos) scope X.env _ (newList []) J (eval iter X.env) (Z (assign (.Name y au) X.env))) _ _ s;refine wB1 (wpAny_mono (wpAny_comprehension_free (use:=Z (assign (.Name y au) X.env)) (Q:=λ_ s'=>SP X ag D .next s') O hs (zu ao) C.kind C.names ?_) (λ_ s' hq=>wP1 (wP1 hq)) λ_ _ e=>e);refine eJ (hi ag s σ H _ I h) λv s1 h1=>eJ h1 λitv a h2=>?_;obtain⟨it,d,tn,am,H2,rfl,I2,TT,F,f2,q2⟩:=h2;refine wO1 ?_;have u:Inv X ag σ (upd H2 a.heap.objs.size (.lst [])) {a with heap:=a.heap.push {cls:=.type "list",data:=.seq ([]:List cN).toArray}}:=I2.lnew (t':=a.toks) .nil (bm _);have old:∀b∈d,∃o,a.heap.get? b=Z o:=λb hb=>by
  obtain⟨o,e,_⟩:=TT.obj 0 a.heap F b hb;exact⟨o,e⟩
 have wq:∀b∈d,b≠a.heap.objs.size:=λb hb z=>by
  obtain⟨o,e⟩:=old b hb;have:=hL1 e;rw[z]at this;exact az _ this
 have R:∀b∈d,jo X ag (upd H2 a.heap.objs.size (.lst [])) b:=λb hb=>⟨by rw[dB (wq b hb)];exact(f2 b hb).1,(f2 b hb).2⟩;have o3:∀b∈d,∃o,({a with heap:=a.heap.push {cls:=.type "list",data:=.seq ([]:List cN).toArray}}:cO).heap.get? b=Z o:=λb hb=>by
  obtain⟨o,e⟩:=old b hb;exact⟨o,hP1 _ e⟩
 have P:=rA u C ao R o3;obtain⟨hg,W,he⟩:=hb {a with heap:=a.heap.push {cls:=.type "list",data:=.seq ([]:List cN).toArray}} (upd H2 a.heap.objs.size (.lst [])) d a.heap.objs.size;refine jz ?_;have f4:∀b∈d,jo (cxC X scope A T keep {a with heap:=a.heap.push {cls:=.type "list",data:=.seq ([]:List cN).toArray}} (upd H2 a.heap.objs.size (.lst [])) d) [] (upd H2 a.heap.objs.size (.lst [])) b:=λb hb=>
  ⟨(R b hb).1,(P.ok.exf b hb).1,P.ok.exfs b hb,.inl hb,(P.ok.exf b hb).2,λp G=>absurd (show p∈([]:List (cP×Obj))from G) (by simp)⟩
 have E:tn 0 (pushCells ((a.heap.push {cls:=.type "list",data:=.seq ([]:List cN).toArray}).push {cls:=.type "dict",data:=.dict #[]}) scope.names):=
  TT.keep 0 a.heap _ F λb hb o e=>pushCells_keeps scope.names _ b o (hP1 _ (hP1 _ e))
 have l:=oG (X:=cxC X scope A T keep {a with heap:=a.heap.push {cls:=.type "list",data:=.seq ([]:List cN).toArray}} (upd H2 a.heap.objs.size (.lst [])) d) O hc (eq (.ref it) (.ref a.heap.objs.size) _) TT hg W he P E f4
  (q2 a.heap.objs.size (I2.hok.fresh (nR1 _)))
 refine codeAny_mono (codeAny_compStart_list l (TT.self X.A 0 _ _ _ E l)) λr s' hr=>?_;cases r with
 |error e=>exact hr.elim
 |ok f=>
  obtain⟨σ',H',B,q'⟩:=hr;have J1:Inv X ag σ H' s':=u.call' (s':=s') (ch:=d) B.os B.base B.hok B.bare λb hb=>(R b hb).2.2.2 |> λz=>⟨z.1,(R b hb).2.1,z.2.1,z.2.2⟩
  -- the block's own dict is kept aside
  obtain⟨m,hn,_⟩:=id B.loc;obtain⟨N,es,ep,eC,dC,rC⟩:=id hn;have hCz:(a.heap.push {cls:=.type "list",data:=.seq ([]:List cN).toArray}).get? (a.heap.push {cls:=.type "list",data:=.seq ([]:List cN).toArray}).objs.size=Y:=Heap.get?_none_of_le (nR1 _);have L:(a.heap.push {cls:=.type "list",data:=.seq ([]:List cN).toArray}).objs.size≠X.env.locals:=λz=>by
   have:=u.lt;rw[<- z]at this;exact az _ this
  have S:H' (a.heap.push {cls:=.type "list",data:=.seq ([]:List cN).toArray}).objs.size=Y:=B.free;have J2:Inv X (ag++[((a.heap.push {cls:=.type "list",data:=.seq ([]:List cN).toArray}).objs.size,N)]) σ H' s':=J1.pins_of λp G=>by
   rcases aF.mp G with z|z
   ·exact J1.pin p (mA1 _ z)
   ·have z':p=((a.heap.push {cls:=.type "list",data:=.seq ([]:List cN).toArray}).objs.size,N):=by simpa using z
    subst z';exact⟨eC,S,L,u.nofs (nR1 _),λv q=>by rw[dC]at q;cases q⟩
  refine eJ (uI hN hy hx hf _ s' σ H' (.ref a.heap.objs.size) (.ref a.heap.objs.size) D.nx J2 O q') λ_ s5 ⟨K,H5,J5,q5⟩=>?_;obtain⟨e5,n5,_⟩:=J5.pin ((a.heap.push {cls:=.type "list",data:=.seq ([]:List cN).toArray}).objs.size,N) (mA1 _ (mA1 _ mS1));refine⟨m,⟨N,es,ep,e5,dC,rC⟩,λh' aq=>?_⟩;have J6:Inv X ag K H5 s5:=J5.unpinned;refine⟨K,H5,J6.turned (t':=s5.toks) (λb o hb e=>(aq.2 b hb).trans e) n5 L (.inr ?_) (λx c w z=>?_) (λp G z=>?_),q5⟩
  ·exact u.sz
  ·obtain⟨w',zc⟩:=u.cell x c w;have j:=zc.lt;rw[z]at j;exact az _ j
  ·obtain⟨V,_⟩:=u.pin p G;have j:=hL1 V;rw[z]at j;exact az _ j
section
variable{X:Cx}
theorem Er{K:Fg1}{te:TE}{m:FE}{i:Nat}(hm:∀ σ H Q,tM K m σ H Q->te σ H Q){E:jr}{σ:L2.St}{H:Hp}(h:wN K (dk m (gN i)) E σ H):xt te (u9 i) E σ H:=by
 obtain⟨r,mu,S,d,j,h1,h2,o,g⟩:=pB h;refine hm _ _ _ ⟨r,mu,S,d,j,h1,h2,o,λv H' mu' k b f=>?_⟩;obtain⟨r2,a,t,q,s,u,l,c,n,p,e⟩:=g v H' mu' k b f;cases p;exact e _ H' a (.refl _ _) (l.set n) c
theorem mv (i:Nat){x:Str}{pos:Pos}(hN:X.N[i]? = some x:=by rfl)(hv:Vis X.env.scope x:=by first | exact Or.inl rfl | exact Or.inr (Or.inl rfl) | exact Or.inr (Or.inr rfl))(hd:(x == ("__debug__":Str))=false:=by decide)(hcd:(x == ("__classdict__":Str))=false:=by decide):
  ME X (.Name x pos) (mV i):=DP i hN hv hd hcd
end
def et(P:cQ)(w:cS)(K:Fg1)(mg:Str->Option cN)(base:cX)(k:Nat)(x:Str)(n:Nat)(m:FN):Prop:=
 ∃(f:cP) (fd:cY) (ps:List Str),jp P w K mg base sy k f fd ps (zP K n m)/\kF K fd ps []/\wK1 K (.ref f)=M/\mg x=Z (.ref f)
theorem DS {X:Cx}{k k' n:Nat}{x:Str}{m:FN}{p pos:Pos}{e:Expr}{es:List Expr}{a:FA}(h:et X.prog X.w X.K X.mg X.base k x n m)(hr:fb k' X.A)(hk:k<=k')(hg:Gl X x)(ha:MA X (e::es) a)(hdb:(x == ("__debug__":Str))=false:=by decide)
  (he:cU (e::es) X.env=(J,eval e X.env)::cU es X.env:=by rfl) (hpl:(backTo pos (cU es X.env)).any (·.1)=J:=by rfl):ME X (.Call (.Name x p) (e::es) [] pos) (mN (c7 n m) a):=by
 obtain⟨f,fd,ps,F,b,kp,c⟩:=h;exact Bd F (hr.mono hk) hg c kp b ha hdb he hpl
theorem Dh{P:cQ}{w:cS}{K:Fg1}{mg:Str->Option cN}{base:cX}{x a:Str}{st:cZ}{f:cP}{fd:cY}{N ps:List Str}{k n:Nat}{b:FS}(F:wT K x a st f fd)(hb:kF K fd ps [])(hm:mg x=some (.ref f))(S:fS N ps (dz st))(hn:ps.length=n)(d:∀(e:cN) (A:cR) (c:List Env) (s:cO) (H:Hp) (E:XK),fb k (A.deeper (envOfC a (dz st) s.heap.objs.size f e)) ->
   zN (lI sy P w K mg base N a (dz st) f e A c s H E).nox (eI st) b):et P w K mg base (k+1) x n (gL N.length b):=by
 subst hn;exact⟨f,fd,ps,Gh F S d,hb,F.kp,hm⟩
def CGl(K:Fg1)(mg:Str->Option cN)(x:Str)(d:D):Prop:=∃(v:V) (u:cN),mg x=Z u/\dy v u /\ ∀H mu,d3 K H mu d v
theorem Bc {X:Cx}{x:Str}{d:D}{pos:Pos}(h:CGl X.K X.mg x d)(hg:Gl X x)(hd:(x == ("__debug__":Str))=J:=by decide):ME X (.Name x pos) (mC d):=by
 obtain⟨v,u,a,r,q⟩:=h;exact yD d (AG hg a r hd) q
def CV(K:Fg1)(d:D)(u:cN):Prop:=∃v:V,dy v u /\ ∀H mu,d3 K H mu d v
def GZ(K:Fg1)(ds:List D)(us:List cN):Prop:=∃vs:List V,dG vs us /\ ∀H mu,df K H mu ds vs
section
variable{K:Fg1}
theorem pP{i:Int}{t}:CV K (.int i) (.int i t):=⟨.int i,⟨t,O⟩,λ_ _=>.int i⟩
theorem pO{x:Str}{t}:CV K (.str x) (.str x t):=⟨.str x,⟨t,O⟩,λ_ _=>.str x⟩
theorem ku:GZ K [] []:=⟨[],.nil,λ_ _=>.nil⟩
theorem eN{d:D}{u:cN}{ds:List D}{a:List cN}(h:CV K d u)(t:GZ K ds a):GZ K (d::ds) (u::a):=by
 obtain⟨v,r,q⟩:=h;obtain⟨vs,rs,b⟩:=t;exact⟨v::vs,.cons r rs,λH mu=>.cons (q H mu) (b H mu)⟩
theorem nl {a:cP}{c:Option cP}{b:List cN}{n:Nat}{sl:Array (Option cN)}{ds:List D}(h:K.lookup a=Z ⟨.type "tuple",c,.seq b.toArray n,sl⟩)(hs:b.length<=cV)(t:GZ K ds b):CV K (.tup ds) (.ref a):=by
 obtain⟨vs,rs,d⟩:=t;exact⟨.ref a,O,λH mu=>.tup (.inr ⟨_,b.toArray,n,h,O,O,by simpa using hs,by simpa using rs⟩) (d H mu)⟩
theorem Ej{mg:Str->Option cN}{x:Str}{d:D}{u:cN}(hm:mg x=Z u)(h:CV K d u):CGl K mg x d:=by
 obtain⟨v,r,q⟩:=h;exact⟨v,u,hm,r,q⟩
end
theorem jf{K:Fg1}{H:Hp}{mu:List cP}:∀ns:List Int,df K H mu (ns.map D.int) (ns.map V.int)
 |[]=>.nil
 |n::ns=>.cons (.int n) (jf ns)
theorem D2{K:Fg1}{m:FN}(hm:∀ ns:List Int,ns.length<=63 -> ∃ S,m [.rol (ns.map D.int)] []=some (.bl true,S))(H:Hp)(a:cP)(ns:List Int)(f:ns.length<=63)(c:BW H)(d:lA K H a (ns.map V.int)):
  zP K 1 m [.ref a] H (λv _=>v = .bl M) λ_ _ _=>False:=by
 refine⟨O,?_⟩;obtain⟨S,e⟩:=hm ns f;have b:RoL K H a (ns.map V.int):=by
  rcases d with h|h
  ·rcases h with h|h
   ·rcases c a with z|⟨o,xs,z⟩
    ·rw[h]at z;cases z
    ·rw[h]at z;cases z
   ·exact .inl h
  ·exact .inr h
 refine⟨[],[],[.rol (ns.map D.int)],.bl M,S,.cons (.rol b (jf ns)) .nil,.nil,e,λv H' mu' x r s=>?_⟩;cases r;rfl
theorem walk_m{l:PySem.W.OpenLaw}{q:cQ}{b:List Str}{XP:(Str->Option cN)->cX->Prop}{e:cS->cX->Prop}{d:DefRec}{K:Params->Fg1}{m:FN}{k:Nat}{x:Str}(hn:l.most=some 63)(c:d.params.defaults=[])(hr:fb k callerA)(j:∀(w:cS) (h:cX),e w h->(K w.params).In h)(hm:∀ns:List Int,ns.length<=63 -> ∃S,m [.rol (ns.map D.int)] []=some (.bl true,S))(F:∀(w:cS) (mg:Str->Option cN) (g:cP) (h:cX),(K w.params).In h->h.Ns cT mg->mg d.name=some (.ref g) ->
   ∃fd:cY,(∀(s:cO) (u:cN),BindsTo s fd ⟨[u],[]⟩ [(x,u)]) /\ ∀base:cX,(K w.params).In base->base.Ns cT mg->jp l.prog w (K w.params) mg base sy k g fd [x] (zP (K w.params) 1 m)):
  PySem.W.WalkO q b XP e l.row.toRowW d [] (λf vs=>PySem.call f vs):=
 L2.z8 (n:=63) (k:=k) (x:=x) (CX:=λ_=>sy) (sp:=λw=>zP (K w.params) 1 m) hn (by decide) c hr j F (λ_ H a ns p o i=>D2 hm H a ns p o i) λ_ _ _ _ _ z=>z
structure XE (X:Cx)(e:Expr)(m:FE):Prop where
 h:ME X e m
structure XT (X:Cx)(e:Expr)(m:FT):Prop where
 h:MT X e m
structure XW (X:Cx)(e:Expr)(m:FT):Prop where
 h:MW X e m
structure XA (X:Cx)(e:List Expr)(m:FA):Prop where
 h:MA X e m
structure XS (X:Cx)(e:cZ)(m:FS):Prop where
 h:MS X e m
structure wI (X:Cx)(e:List cZ)(m:FS):Prop where
 h:zN X e m
structure XI (X:Cx)(tg e:Expr)(m:FI):Prop where
 h:MI X tg e m
structure XG (X:Cx)(e:Expr)(m:FG):Prop where
 h:MG X e m
structure GX (X:Cx)(e:List Expr)(m:zO):Prop where
 h:GE X e m
structure XO (X:Cx)(e:Option Expr)(m:FO):Prop where
 h:MO X e m
structure XF (X:Cx)(K:Fg1)(ifs:List Expr)(t:FT):Prop where
 h:nO X ifs (Ad K t)
theorem d9{X:Cx}:XF X X.K [] eP:=⟨A8⟩
theorem fU{X:Cx}{c:Expr}{t:FT}(h:XT X c t):XF X X.K [c] t:=⟨A7 h.h⟩
section
variable{X:Cx}{pos:Pos}
theorem qK{i:Int}{j}:XE X (.Constant (.int i) j pos) (mC (.int i)):=⟨DV⟩
theorem l9{b:Bool}{j}:XE X (.Constant (.bool b) j pos) (mC (.bl b)):=⟨F1⟩
theorem gp{j}:XE X (.Constant .none j pos) (mC .non):=⟨DT⟩
theorem dq{x:Str}{j}:XE X (.Constant (.str x) j pos) (mC (.str x)):=⟨DR⟩
end
section
variable{X:Cx}{pos:Pos}{e:Expr}{es:List Expr}{m:FE}{n:FA}
theorem qN:XA X [] c5:=⟨DX⟩
theorem qA(h:XE X e m)(ht:XA X es n)(hs:cU (e::es) X.env=(J,eval e X.env)::cU es X.env:=by rfl):XA X (e::es) (c4 m n):=⟨Be (h:=h.h) (ht:=ht.h) (hs:=hs)⟩
end
section
variable{X:Cx}{K:Fg1}{f:FN}{a b:FE}{σ:L2.St}{H:Hp}{Q:VK}
theorem qI{op:Operator}{x y:Expr}{pos:Pos}(ho:fj X (binaryOp op) (r2 X.K f))(hx:XE X x a)(hy:XE X y b):XE X (.BinOp x op y pos) (m2 f a b):=⟨FY (ho:=ho) (hx:=hx.h) (hy:=hy.h)⟩
theorem sI{op:UnaryOp}{x:Expr}{pos:Pos}(ho:EO X (unaryOp op) (λx H Q=>rN X.K f [x] H Q))(hx:XE X x a):XE X (.UnaryOp op x pos) (m1 f a):=⟨FX (ho:=ho) (hx:=hx.h)⟩
theorem zX{op:CmpOp}{x y:Expr}{pos:Pos}(ho:fj X (compareOp op) (r2 X.K f))(hx:XE X x a)(hy:XE X y b)(hm:behindInMarks op y=J):XE X (.Compare x [op] [y] pos) (m2 f a b):=⟨DW (ho:=ho) (hx:=hx.h) (hy:=hy.h) (hm:=hm)⟩
theorem qJ{x y:Expr}{pos:Pos}(ho:Cm X (r2 X.K f))(hx:XE X x a)(hy:XE X y b)(hs:l5 y):XE X (.Subscript x y pos) (m2 f a b):=⟨FZ (ho:=ho) (hx:=hx.h) (hy:=hy.h) (hs:=hs)⟩
theorem qD {x:Str}{p pos:Pos}{e:Expr}{es:List Expr}{id:String}{a:FA}(hc:eG X (.builtin id) (rN X.K f))(hg:Gl X x)(hm:X.mg x=Y)(hv:bootBuiltins x=Z (.builtin id))(ha:XA X (e::es) a)(hn:x≠"__name__":=by decide)(hdb:(x == ("__debug__":Str))=J:=by decide)(he:cU (e::es) X.env=(J,eval e X.env)::cU es X.env:=by rfl)(hpl:(backTo pos (cU es X.env)).any (·.1)=J:=by rfl):XE X (.Call (.Name x p) (e::es) [] pos) (mN f a):=⟨yC (hc:=hc) (hg:=hg) (hm:=hm) (hv:=hv) (ha:=ha.h) (hn:=hn) (hdb:=hdb) (he:=he) (hpl:=hpl)⟩
theorem qE {x:Str}{p pos:Pos}{e:Expr}{es:List Expr}{T:String}{a:FA}(hc:eG X (.type T) (rN X.K f))(hg:Gl X x)(hm:X.mg x=Y)(hv:bootBuiltins x=Z (.type T))(ha:XA X (e::es) a)(hn:x≠"__name__":=by decide)(hdb:(x == ("__debug__":Str))=J:=by decide)(he:cU (e::es) X.env=(J,eval e X.env)::cU es X.env:=by rfl)(hpl:(backTo pos (cU es X.env)).any (·.1)=J:=by rfl):XE X (.Call (.Name x p) (e::es) [] pos) (mN f a):=⟨v6 (hc:=hc) (hg:=hg) (hm:=hm) (hv:=hv) (ha:=ha.h) (hn:=hn) (hdb:=hdb) (he:=he) (hpl:=hpl)⟩
end
section
variable{X:Cx}{x y c:Expr}{rest:List Expr}{pos:Pos}{a b:FT}{f g:FE}
theorem qX{op:CmpOp}{f:FN}{a b:FE}(ho:fj X (compareOp op) (r2 X.K f))(hx:XE X x a)(hy:XE X y b)(hm:behindInMarks op y=J):XT X (.Compare x [op] [y] pos) (mB (m2 f a b)):=⟨DA (ho:=ho) (hx:=hx.h) (hy:=hy.h) (hm:=hm)⟩
theorem iJ(ha:XT X x a):XW X (.BoolOp .And [x] pos) a:=⟨AY (ha:=ha.h)⟩
theorem ul(ha:XT X x a):XW X (.BoolOp .Or [x] pos) a:=⟨Dy (ha:=ha.h)⟩
theorem jT(ha:XT X x a)(hb:XW X (.BoolOp .And (y::rest) pos) b):XW X (.BoolOp .And (x::y::rest) pos) (rn a b):=⟨Dz (ha:=ha.h) (hb:=hb.h)⟩
theorem wW(ha:XT X x a)(hb:XW X (.BoolOp .Or (y::rest) pos) b):XW X (.BoolOp .Or (x::y::rest) pos) (F3 a b):=⟨FU (ha:=ha.h) (hb:=hb.h)⟩
theorem l7(h:XW X x a):XT X x a:=⟨Hx (h:=h.h)⟩
theorem jH(hc:XT X c a)(hx:XE X x f)(hy:XE X y g):XE X (.IfExp c x y pos) (rj a f g):=⟨F0 (hc:=hc.h) (hx:=hx.h) (hy:=hy.h)⟩
end
section
variable{X:Cx}{x y z:Expr}{pos:Pos}{f g:FN}{a b c:FE}{op op':CmpOp}
end
section
variable{X:Cx}{pos:Pos}{e c:Expr}{st:cZ}{rest as bs:List cZ}{a b:FS}{m:FE}{t:FT}
theorem qQ:wI X [] nz:=⟨A1⟩
theorem qF(h1:XS X st a)(h2:wI X rest b):wI X (st::rest) (di a b):=⟨yv (h1:=h1.h) (h2:=h2.h)⟩
theorem qG(h1:XS X st a):wI X [st] a:=⟨A0 (h1:=h1.h)⟩
theorem l8(h:XE X e m)(hs:swapsWith e Y pos.line X.env=pure J:=by rfl):XS X (.Expr e pos) (eE m):=⟨A4 (h:=h.h) (hs:=hs)⟩
theorem qU(h:XE X e m):XS X (.Return (Z e) pos) (d7 m):=⟨DC (h:=h.h)⟩
theorem qV(hc:XT X c t)(ha:wI X as a)(hb:wI X bs b):XS X (.If c as bs pos) (gg t a b):=⟨FW (hc:=hc.h) (ha:=ha.h) (hb:=hb.h)⟩
end
section
variable{X:Cx}{pos:Pos}
theorem qO(i:Nat){x:Str}(hN:X.N.Nodup)(hi:X.N[i]?=Z x)(hx:uh X.env.scope x)(hf:X.fn x=M\/X.env.scope.names.lookup x=Z .local:=by first|exact .inl rfl|exact .inr rfl|assumption):XG X (.Name x pos) (gN i):=⟨Bb (i:=i) (hN:=hN) (hi:=hi) (hx:=hx) (hf:=hf)⟩
theorem fx:GX X [] gNl:=⟨Ba⟩
theorem dr{e:Expr}{es:List Expr}{g:FG}{a:zO}(h1:XG X e g)(h2:GX X es a)(hs:(assignEach (e::es) X.env).map (·.2)=assign e X.env::(assignEach es X.env).map (·.2):=by rfl):GX X (e::es) (gCs g a):=⟨yx (h1:=h1.h) (h2:=h2.h) (hs:=hs)⟩
theorem gn{es:List Expr}{k:Nat}{a:zO}{n:Nat}(hc:X.calm=M)(h:GX X es a)(hn:(assignEach es X.env).length=n:=by rfl)(hst:(assignEach es X.env).findIdx? (·.1)=Y:=by rfl):XG X (.Tuple es k pos) (gT n a):=⟨DM (hc:=hc) (h:=h.h) (hn:=hn) (hst:=hst)⟩
theorem jV{o i:Expr}{a b:FE}{f:FN}(ho:XE X o a)(hi:XE X i b)(hs:ug X (rU X.K f))(ha:∀ v,assign (.Subscript o i pos) X.env v=(do
   let ov<-holding [v] (eval o X.env)
   let iv<-holding [v,ov] (eval i X.env)
   standAt pos
   holding [v,ov,iv] (setItem ov iv v)
   release [v,ov,iv] []):=by intro _;rfl):XG X (.Subscript o i pos) (gS f a b):=⟨DN (ho:=ho.h) (hi:=hi.h) (hs:=hs) (ha:=ha)⟩
theorem qR{tg e:Expr}{m:FE}{g:FG}(he:XE X e m)(hg:XG X tg g)(hs:swapsWithSole [tg] e pos.line X.env=pure J:=by rfl)(hw:swappedStores [tg] e X.env=pure Y:=by rfl)(h1:(assignEach [tg] X.env).map (·.2)=[assign tg X.env]:=by rfl):XS X (.Assign [tg] e pos) (dk m g):=⟨DF (he:=he.h) (hg:=hg.h) (hs:=hs) (hw:=hw) (h1:=h1)⟩
theorem qY(i:Nat){x:Str}{e:Expr}{m:FE}{pos':Pos}(hN:X.N.Nodup)(hi:X.N[i]?=Z x)(hx:uh X.env.scope x)(he:XE X e m)(hs:swapsWith e (Z (.Name x pos')) pos.line X.env=pure J:=by rfl)(hf:X.fn x=M\/X.env.scope.names.lookup x=Z .local:=by first|exact .inl rfl|exact .inr rfl|assumption):XS X (.Assign [.Name x pos'] e pos) (dk m (gN i)):=⟨DB (i:=i) (hN:=hN) (hi:=hi) (hx:=hx) (he:=he.h) (hs:=hs) (hf:=hf)⟩
theorem zW(i:Nat){x:Str}{e:Expr}{m:FE}{op:Operator}{f:FN}{pos':Pos}(hN:X.N.Nodup)(hi:X.N[i]?=Z x)(hx:uh X.env.scope x)(he:XE X e m)(ho:GY X op (r2 X.K f))(hf:X.fn x=M\/X.env.scope.names.lookup x=Z .local:=by first|exact .inl rfl|exact .inr rfl|assumption):XS X (.AugAssign (.Name x pos') op e pos) (Bg i f m):=⟨DE (i:=i) (hN:=hN) (hi:=hi) (hx:=hx) (he:=he.h) (ho:=ho) (hf:=hf)⟩
end
section
theorem kG{X:Cx}{pos:Pos}(n:Nat){c:Expr}{a:List cZ}{t:FT}{b:FS}(hp:PassesOwn (model X.prog X.w) X.A X.env X.xe)(hc:XT X c t)(hb:wI X a b):XS X (.While c a [] pos) (qa t b n):=⟨yw (n:=n) (hp:=hp) (hc:=hc.h) (hb:=hb.h)⟩
theorem qW{X:Cx}{pos:Pos}{tg iter:Expr}{a:List cZ}{m:FI}{g:FG}{b:FS}(hp:PassesOwn (model X.prog X.w) X.A X.env X.xe)(hc:X.calm=M)(hi:XI X tg iter m)(hg:XG X tg g)(hb:wI X a b)(hs:∀x,foldedSetIterable iter X.env x=pure x:=by intro _;rfl):XS X (.For tg iter a [] pos) (fO m g b):=⟨DD (hp:=hp) (hc:=hc) (hi:=hi.h) (hg:=hg.h) (hb:=hb.h) (hs:=hs)⟩
end
section
variable{X:Cx}{es:List Expr}{pos:Pos}{a:FA}
theorem dg{x1}(h:XA X es a):XE X (.Tuple es x1 pos) (dS a):=⟨DQ (h:=h.h)⟩
theorem dY(h:XA X es a):XE X (.List es pos) (eW a):=⟨DU (h:=h.h)⟩
end
section
variable{X:Cx}{tg:Expr}
theorem qd{e:Expr}{m:FE}(h:XE X e m):XI X tg e (ge m):=⟨DL (h:=h.h)⟩
theorem sH {a:Expr}{m:FA}{p pos:Pos}(hg:Gl X "range")(hm:X.mg "range"=Y)(ha:XA X [a] m)(hs:cU [a] X.env=[(J,eval a X.env)]:=by rfl):XI X tg (.Call (.Name "range" p) [a] [] pos) (qc m):=⟨vZ (hg:=hg) (hm:=hm) (ha:=ha.h) (hs:=hs)⟩
theorem sG {a b:Expr}{m:FA}{p pos:Pos}(hg:Gl X "range")(hm:X.mg "range"=Y)(ha:XA X [a,b] m)(hs:cU [a,b] X.env=[(J,eval a X.env),(J,eval b X.env)]:=by rfl)(hs2:cU [b] X.env=[(J,eval b X.env)]:=by rfl):XI X tg (.Call (.Name "range" p) [a,b] [] pos) (EM m):=⟨vY (hg:=hg) (hm:=hm) (ha:=ha.h) (hs:=hs) (hs2:=hs2)⟩
end
section
variable{X:Cx}{tg:Expr}
variable{elts:List Expr}{k:Nat}{tpos:Pos}
theorem wX {a:Expr}{m:FA}{p pos:Pos}(hg:Gl X "enumerate")(hm:X.mg "enumerate"=Y)(ha:XA X [a] m)(hs:cU [a] X.env=[(J,eval a X.env)]:=by rfl):XI X (.Tuple elts k tpos) (.Call (.Name "enumerate" p) [a] [] pos) (wO m):=⟨A9 (hg:=hg) (hm:=hm) (ha:=ha.h) (hs:=hs)⟩
theorem oV {a b:Expr}{m:FA}{p pos:Pos}(hg:Gl X "zip")(hm:X.mg "zip"=Y)(ha:XA X [a,b] m)(hs:cU [a,b] X.env=[(J,eval a X.env),(J,eval b X.env)]:=by rfl)(hs2:cU [b] X.env=[(J,eval b X.env)]:=by rfl):XI X (.Tuple elts k tpos) (.Call (.Name "zip" p) [a,b] [] pos) (Ce m):=⟨DK (hg:=hg) (hm:=hm) (ha:=ha.h) (hs:=hs) (hs2:=hs2)⟩
end
section
variable{X:Cx}{ag:List (cP×Obj)}{σ:L2.St}{H:Hp}{s:cO}{mu:List cP}{S:c6}{K:Fg1}
end
section
variable{X:Cx}
theorem iL:XO X Y gh:=⟨A6⟩
theorem iK{e:Expr}{m:FE}(h:XE X e m):XO X (Z e) (fV m):=⟨A5 (h:=h.h)⟩
theorem jG {a:Expr}{m:FA}{d p2 b c:Pos}(hc:X.calm=M)(hg:Gl X "range")(hm:X.mg "range"=Y)(hg2:Gl X "list")(hm2:X.mg "list"=Y)(ha:XA X [a] m)(hs:cU [a] X.env=[(J,eval a X.env)]:=by rfl)(hs2:cU [.Call (.Name "range" d) [a] [] b] X.env=[(J,eval (.Call (.Name "range" d) [a] [] b) X.env)]:=by rfl):XE X (.Call (.Name "list" p2) [.Call (.Name "range" d) [a] [] b] [] c) (tL m):=⟨v4 (hc:=hc) (hg:=hg) (hm:=hm) (hg2:=hg2) (hm2:=hm2) (ha:=ha.h) (hs:=hs) (hs2:=hs2)⟩
theorem qe {o e:Expr}{es:List Expr}{m:FE}{a:FA}{f:FN}{name:Str}{apos cpos:Pos}{id:String}(slot:Slot "list" name id)(hty:typeOf (.builtin id)=pure (.type "method_descriptor"))(hm:EQ X id (λx xs H Q=>rN X.K f (x::xs) H Q))(ho:XE X o m)(ha:XA X (e::es) a)(hbase:attributeBase o name X.env (eval o X.env)=eval o X.env:=by rfl)(hfew:((backTo cpos (cU (e::es) X.env)).all (λx=> !x.1)&&(backToKw cpos (keywordEach [] X.env)).all (λx=>x.1.isSome)&&decide ((e::es).length+([]:List Keyword).length+(if([]:List Keyword).isEmpty then 0 else 1)<30))=M:=by rfl)(hline:(apos.endLine == cpos.line)=M:=by rfl)(hs:cU (e::es) X.env=(J,eval e X.env)::cU es X.env:=by rfl)(hplain:(backTo cpos (cU es X.env)).any (·.1)=J:=by rfl):XE X (.Call (.Attribute o name apos) (e::es) [] cpos) (ri f m a):=⟨yB (slot:=slot) (hty:=hty) (hm:=hm) (ho:=ho.h) (ha:=ha.h) (hbase:=hbase) (hfew:=hfew) (hline:=hline) (hs:=hs) (hplain:=hplain)⟩
theorem IA (i:Nat){x:Str}{pos:Pos}(hN:X.N[i]?=Z x:=by rfl)(hv:Vis X.env.scope x:=by first|exact Or.inl rfl|exact Or.inr (Or.inl rfl)|exact Or.inr (Or.inr rfl))(hd:(x == ("__debug__":Str))=J:=by decide)(hcd:(x == ("__classdict__":Str))=J:=by decide):XE X (.Name x pos) (mV i):=⟨mv (i:=i) (hN:=hN) (hv:=hv) (hd:=hd) (hcd:=hcd)⟩
end
section
theorem qH {X:Cx}{k k' n:Nat}{x:Str}{m:FN}{p pos:Pos}{e:Expr}{es:List Expr}{a:FA}(h:et X.prog X.w X.K X.mg X.base k x n m)(hr:fb k' X.A)(hk:k<=k')(hg:Gl X x)(ha:XA X (e::es) a)(hdb:(x == ("__debug__":Str))=J:=by decide)(he:cU (e::es) X.env=(J,eval e X.env)::cU es X.env:=by rfl)(hpl:(backTo pos (cU es X.env)).any (·.1)=J:=by rfl):XE X (.Call (.Name x p) (e::es) [] pos) (mN (c7 n m) a):=⟨DS (h:=h) (hr:=hr) (hk:=hk) (hg:=hg) (ha:=ha.h) (hdb:=hdb) (he:=he) (hpl:=hpl)⟩
theorem wZ {X:Cx}{x:Str}{d:D}{pos:Pos}(h:CGl X.K X.mg x d)(hg:Gl X x)(hd:(x == ("__debug__":Str))=J:=by decide):XE X (.Name x pos) (mC d):=⟨Bc (h:=h) (hg:=hg) (hd:=hd)⟩
end
section
variable{X:Cx}
structure HP (X:Cx)(K:Fg1)(tg:Expr)(ifs:List Expr)(elt:Expr)(g:FG)(t:FT)(e:FE):Prop where
 g:XG X tg g
 t:XF X K ifs t
 e:XE X elt e
end
theorem zV{P:cQ}{w:cS}{K:Fg1}{mg:Str->Option cN}{base:cX}{x c:Str}{st:cZ}{f:cP}{fd:cY}{N ps:List Str}{k n:Nat}{b:FS}(F:wT K x c st f fd)(hb:kF K fd ps [])(hm:mg x=some (.ref f))(S:fS N ps (dz st))(hn:ps.length=n)(e:∀(d:cN) (A:cR) (a:List Env) (s:cO) (H:Hp) (E:XK),fb k (A.deeper (envOfC c (dz st) s.heap.objs.size f d)) ->
   wI (lI sy P w K mg base N c (dz st) f d A a s H E).nox (eI st) b):et P w K mg base (k+1) x n (gL N.length b):=
 Dh F hb hm S hn λd A a s H E g=>(e d A a s H E g).h
theorem Cp{P:cQ}{w:cS}{K:Fg1}{mg:Str->Option cN}{base:cX}{x c:Str}{st:cZ}{f:cP}{fd:cY}{N ps:List Str}{k n:Nat}{b:FS}(F:wT K x c st f fd)(S:fS N ps (dz st))(hn:ps.length=n)(e:∀(d:cN) (A:cR) (a:List Env) (s:cO) (H:Hp) (E:XK),fb k (A.deeper (envOfC c (dz st) s.heap.objs.size f d)) ->
   wI (lI sy P w K mg base N c (dz st) f d A a s H E).nox (eI st) b):jp P w K mg base sy (k+1) f fd ps (zP K n (gL N.length b)):=by
 subst hn;exact Gh F S λd A a s H E g=>(e d A a s H E g).h
abbrev FV:=Ev->c6->Option (List D×Ev×c6)
noncomputable def fr (c:List (Nat×List D))(g:FG)(t:FT)(b:FV):List D->FV
 |[]=>λr S=>if n9 S c=true then some ([],r,S)else none
 |d::ds=>λr S=>if n9 S c=true then(g d r S).bind λp=>(t p.1 p.2).bind λk=>if k.1=true then(b p.1 k.2).bind λq=>(fr c g t b ds q.2.1 q.2.2).map λz=>(q.1++z.1,z.2)else fr c g t b ds p.1 k.2 else none
noncomputable def dW (m:FE):FV:=λr S=>(m r S).map λq=>([q.1],r,q.2)
noncomputable def d4 (k:Nat)(keep:List Nat)(m:FI)(g:FG)(t:FT)(b:FV):FE:=λr S=>(m r S).bind λp=>
 (fr p.1.chk g t b p.1.items (rB k keep r) p.2).bind λq=>if q.1.length<=cV then some (.ref q.2.2.length,q.2.2++[.lst q.1])else none
section
variable{K:Fg1}{H H' H1:Hp}{mu mu' mu1:List cP}{S:c6}{a:cP}
theorem Ext.aside(x:Ext mu mu' H H'):Ext (a::mu) (a::mu') H H' where
 pre:=bS.mpr ⟨O,x.pre⟩
 old:=λb o h n=>x.old b o h λz=>n (mC1 _ z)
 tup:=x.tup
 frz:=x.frz
 new:=λb h=>by
  rcases aE.mp h with h|h
  ·exact .inl (by rw[h];exact mS1)
  ·rcases x.new b h with q|q
   ·exact .inl (mC1 _ q)
   ·exact .inr q
theorem Ext.inner(x:Ext (a::mu) (a::mu') H H'):qg mu mu' H H':=⟨(bS.mp x.pre).2,x.tup,x.frz⟩
theorem Ext.held{o:HO}(x:Ext mu mu' H H')(ha:H a=Z o)(hn:a∉mu):H' a=Z o/\a∉mu':=by
 refine⟨x.old a o ha hn,λz=>?_⟩;rcases x.new a z with q|q
 ·exact hn q
 ·rw[ha]at q;cases q
theorem fc.exw{r:Ev}{σ:L2.St}(e:qg mu mu' H H')(h:fc K H mu r σ):fc K H' mu' r σ:=⟨h.len,λi d q=>by
 obtain⟨v,a,b⟩:=h.val i d q;exact⟨v,a,b.exw e⟩⟩
theorem lB.exw{b:cP}(e:qg mu mu' H H')(h:∀o,H b=Z o->H' b=Z o):∀{o:Ob},lB K H mu b o->lB K H' mu' b o
 | .lst _,⟨vs,q,r⟩=>⟨vs,h _ q,r.exw e⟩
 | .dct _,⟨ws,q,r⟩=>⟨ws,h _ q,Paired.mapP r λ_ _ z=>⟨z.1,z.2.exw e⟩⟩
 | .dcT _,⟨ws,q,r,l⟩=>⟨ws,h _ q,Paired.mapP r λ_ _ ⟨z,d,k,v,a,r⟩=>⟨z,d,k.exw e,v,a,r.exw e⟩,l⟩
 | .iset _,q=>⟨h _ q.1,q.2⟩
 | .dcF _,⟨ws,⟨o,u,c,f⟩,r,l⟩=>⟨ws,⟨o,u,h _ c,f⟩,Paired.mapP r λ_ _ ⟨z,d,k,v,a,r⟩=>⟨z,d,k.exw e,v,a,r.exw e⟩,l⟩
 | .tst _,⟨ws,q,r⟩=>⟨ws,h _ q,Paired.mapP r λ_ _ ⟨z,d,k,v,a,r⟩=>⟨z,d,k.exw e,v,a,r.exw e⟩⟩
theorem eF.aside{u:HO}(s:eF K H mu S)(e:qg mu mu H (upd H a u))(hn:a∉mu):eF K (upd H a u) mu S:=
 ⟨s.len,s.nd,λk o b h1 h2=>(s.ob k o b h1 h2).exw e λo' q=>by rw[dB (λz=>hn (by rw[<- z];exact gM1 h2))];exact q⟩
end
inductive GL (K:Fg1)(a:cP)(m:FV)(E:jr)(σ:L2.St)(H:Hp):Prop
 |mk (r:Ev) (mu:List cP) (S:c6) (acc:List D) (vs:List V) (xs:List D) (r':Ev) (S':c6):H a=some (.lst vs)->a∉mu->df K H mu acc vs->fc K H mu r σ->eF K H mu S->m r S=some (xs,r',S')->vs.length+xs.length<=cV ->
 (∀ σ' H' mu' vs',Ext (a::mu) (a::mu') H H'->H' a=some (.lst vs')->a∉mu'->df K H' mu' (acc++xs) vs'->fc K H' mu' r' σ'->eF K H' mu' S'->E.nx σ' H')->GL K a m E σ H
theorem rR{K:Fg1}{a:cP}{m:FE}{E:jr}{σ:L2.St}{H:Hp}(h:GL K a (dW m) E σ H):uy a (tM K m) E σ H:=by
 obtain⟨r,mu,S,k,vs,xs,u,w,s,f,q,i,p,g,o,hc⟩:=h;obtain⟨⟨d,t⟩,l,g⟩:=oM1.mp g;cases g;refine⟨r,mu,S,d,t,i,p,l,λv H1 mu1 e j n=>?_⟩;obtain⟨b,c⟩:=e.held s f;have put:Ext (a::mu1) (a::mu1) H1 (upd H1 a (.lst (vs++[v]))):=Ext.put b trivial mS1;refine⟨vs,b,o,?_⟩;exact hc σ _ mu1 (vs++[v]) (e.aside.trans put) dD c (((q.ext e).append (.cons j .nil)).exw put.inner) ((i.ext e).exw put.inner) (n.aside put.inner c)
inductive HW (K:Fg1)(a:cP)(mu2:List cP)(H:Hp)(c:List (Nat×List D))(g:FG)(t:FT)(b:FV)(r':Ev)(S':c6)(tot:List D)(L:List D)(σ':L2.St)(H':Hp):Prop
 |mk (r3:Ev) (mu3:List cP) (S3:c6) (acc3:List D) (vs3:List V) (xs3:List D):Ext (a::mu2) (a::mu3) H H'->H' a=some (.lst vs3)->a∉mu3->df K H' mu3 acc3 vs3->fc K H' mu3 r3 σ'->eF K H' mu3 S3->fr c g t b L r3 S3=some (xs3,r',S')->acc3++xs3=tot->vs3.length+xs3.length<=cV->HW K a mu2 H c g t b r' S' tot L σ' H'
theorem yL{K:Fg1}{a:cP}{j:It}{am:wS}{g:FG}{t:FT}{b:FV}{tb:TS}{D:jr}(hb:∀ E σ H,GL K a b E σ H->tb E σ H){mu1 e:List cP}{H1 H:Hp}{r ao:Ev}{S S':c6}{σ:L2.St}{acc xs:List Mi.D}{vs:List V}(hJ:HX K j am mu1 H1)(x:qg mu1 e H1 H)(ha:H a=Z (.lst vs))(aq:a∉e)(hr:df K H e acc vs)(he:fc K H e r σ)(hs:eF K H e S)(hm:fr am.chk g t b am.items r S=Z (xs,ao,S'))(hl:vs.length+xs.length<=cV)(hc:∀h H' mu' A,Ext (a::e) (a::mu') H H'->H' a=Z (.lst A)->a∉mu'->df K H' mu' (acc++xs) A->fc K H' mu' ao h->eF K H' mu' S'->D.nx h H'):B6 j (E8 K g) (Ad K t) tb D σ H:=by
 refine⟨λi k h H'=>k=(am.items.drop i).length/\HW K a e H am.chk g t b ao S' (acc++xs) (am.items.drop i) h H',
  ⟨_,O,r,e,S,acc,vs,xs,.refl _ _,ha,aq,hr,he,hs,hm,O,hl⟩,?_⟩
 rintro i k σ3 H3 ⟨rfl,r3,m,S3,f,vs3,xs3,I,s,u,w,F,au,c,o,l⟩;cases hd0:am.items.drop i with
 |nil=>
  left;rw[hd0,fr]at c;dsimp only at c;split at c
  ·rename_i ok;cases c;refine⟨(hJ i H3 m _ (x.trans I.inner) au ok).2 (List.drop_eq_nil_iff.mp hd0),hc σ3 H3 m vs3 I s u ?_ F au⟩;rw[<- o,aL];exact w
  ·cases c
 |cons d ds=>
  right;rw[hd0]at c;obtain⟨hi,hd⟩:=ll hd0;rw[fr]at c;dsimp only at c;split at c
  ·rename_i ok;obtain⟨⟨G,S4⟩,e4,c⟩:=oB1.mp c;obtain⟨⟨k5,S5⟩,e5,c⟩:=oB1.mp c;obtain⟨go,yl⟩:=(hJ i H3 m _ (x.trans I.inner) au ok).1 d hi;refine⟨go,HW K a e H am.chk g t b ao S' (acc++xs) ds,?_,λy H4 yy=>?_⟩
   ·intro h H' h6;exact⟨ds.length,bC _,(congrArg List.length hd).symm,hd.symm ▸ h6⟩
   ·obtain⟨L,s4,q4⟩:=yl y H4 yy;obtain⟨T,P⟩:=L.held s u;refine⟨r3,m,S3,d,G,S4,F.ext L,s4,q4,e4,fun σ5 H5 wq x5 n s5=>?_⟩;obtain⟨N,W⟩:=x5.held T P;refine⟨G,wq,S4,k5,S5,n,s5,e5,λH6 q v s6=>?_⟩;obtain⟨C,z⟩:=v.held N W;have xx:=((I.trans L.aside).trans x5.aside).trans v.aside;have p:df K H6 q f vs3:=((w.ext L).ext x5).ext v;cases k5 with
    |true=>
     obtain⟨⟨q1,r7,S7⟩,e7,c⟩:=oB1.mp c;obtain⟨⟨z1,r8,S8⟩,e8,c⟩:=oM1.mp c;cases c;refine hb _ _ _ ⟨G,q,S5,f,vs3,q1,r7,S7,C,z,p,n.ext v,s6,e7,?_,fun σ8 H8 R vs8 x8 Q X B U s8=>⟨r7,R,S7,f++q1,vs8,z1,xx.trans x8,Q,X,B,U,s8,e8,?_,?_⟩⟩
     ·rw[lA1]at l;dsimp only at l;lia
     ·rw[<- o,aY]
     ·have:=B.length;have h3:=p.length;rw[lA1]at this l;dsimp only at l;lia
    |false=>exact⟨G,q,S5,f,vs3,xs3,xx,C,z,p,n.ext v,s6,c,o,l⟩
  ·cases c
theorem sb{K:Fg1}{k:Nat}{keep:List Nat}{m:FI}{g:FG}{t:FT}{b:FV}{tb:cP->TS}(hb:∀ a E σ H,GL K a b E σ H->tb a E σ H){σ:L2.St}{H:Hp}{Q:VK}(h:tM K (d4 k keep m g t b) σ H Q):
  xr k keep (Hc K m) (E8 K g) (Ad K t) tb σ H Q:=by
 obtain⟨r,mu,S,d,aq,I,R,f,hc⟩:=h;obtain⟨⟨am,X⟩,T,f⟩:=oB1.mp f;obtain⟨⟨xs,r2,N⟩,W,f⟩:=oB1.mp f;dsimp only at f;split at f
 ·rename_i U;cases f;refine ⟨r,mu,S,am,X,I,R,T,fun j H1 mu1 ao P L p i=>?_⟩;have w:Ext mu1 mu1 H1 (upd H1 p (.lst [])):=Ext.fresh i;refine yL (hb p) P w.w dD (L.notin i) .nil ((F9 k keep (I.ext ao)).ext w) (L.fresh i) W (by simpa using U) fun V H' mu' l v C A D au s'=>?_;have y:Ext mu1 (mu'++[p]) H1 H':=by
   refine⟨((bS.mp v.pre).2).trans (bv _ _),λb o e n=>?_,λb ys e=>v.tup b ys (w.tup b ys e),λb o u e=>v.frz b o u (w.frz b o u e),λb B=>?_⟩
   ·have G:b≠p:=dP e i;exact v.old b o (by rw [dB G];exact e) fun z=>by
     rcases aE.mp z with z|z
     ·exact G z
     ·exact n z
   ·rcases aF.mp B with z|z
    ·rcases v.new b (mC1 _ z)with q|q
     ·rcases aE.mp q with q|q
      ·exact .inr (by rw[q];exact i)
      ·exact .inl q
     ·by_cases s:b=p
      ·exact .inr (by rw[s];exact i)
      ·rw[dB s]at q;exact .inr q
    ·have:b=p:=by simpa using z
     exact .inr (by rw[this];exact i)
  refine hc _ H' (mu'++[p]) (ao.trans y) (.ref (gf s'.len p)) ⟨by rw[lA1,lA1,s'.len];rfl,?_,λn o b h1 h2=>?_⟩
  ·rw[bx];refine⟨s'.nd,by simp,λb hb c hc e=>?_⟩;have:c=p:=by simpa using hc
   subst this;subst e;exact A hb
  ·by_cases F:n<N.length
   ·rw[gL1 F]at h1;rw[gL1 (by rw[s'.len];exact F)]at h2;exact(s'.ob n o b h1 h2).mor [p]
   ·have x:n=N.length:=by
     have:=(gE1.mp h1).1;rw[lA1]at this;simp at this;lia
    subst x;rw[gR1 (nR1 _)]at h1;rw[<- s'.len,gR1 (nR1 _)]at h2;simp at h1 h2;subst h1;subst h2;exact⟨l,C,(by simpa using D:df K H' mu' xs l).mor [p]⟩
 ·cases f
section
variable{X:Cx}
theorem qZ{elt tg iter:Expr}{ifs:List Expr}{scope:c3}{pos:Pos}{T:List Str}{keep:List Nat}{i:List (Str×cP)}{m:FI}{g:FG}{t:FT}{e:FE}(hc:X.calm=M)(C:GH X scope T keep)(f:jn X.env.cells scope.names []=Z i)(hi:XI X tg iter m)(hb:∀s H b,HP (cxC X scope i T keep s H b) X.K tg ifs elt g t e)(hs:∀x,foldedSetIterable iter X.env x=pure x:=by intro _;rfl):XE X (.ListComp elt [⟨tg,iter,ifs,0⟩] scope pos) (d4 T.length keep m g t (dW e)):=
 ⟨em (AI (emit:=rS elt) (tb:=λp=>uy p (tM X.K e)) hc (λit c d=>xc elt tg iter ifs scope pos it c d) C f hi.h (λs H b p=>⟨(hb s H b).g.h,(hb s H b).t.h,uF (hb s H b).e.h p⟩) hs)
  fun σ H Q h=>sb (λa E σ H q=>rR q) h⟩
theorem fI{elt tg iter:Expr}{ifs:List Expr}{scope:c3}{pos b l:Pos}{y:Str}(i:Nat){T:List Str}{keep:List Nat}{n:List (Str×cP)}{m:FI}{g:FG}{t:FT}{e:FE}(hc:X.calm=M)(C:GH X scope T keep)(k:jn X.env.cells scope.names []=Z n)(hi:XI X tg iter m)(hb:∀s H c,HP (cxC X scope n T keep s H c) X.K tg ifs elt g t e)(hN:X.N.Nodup)(hy:X.N[i]?=Z y)(hx:uh X.env.scope y)(f:swapsWith (.ListComp elt [⟨tg,iter,ifs,0⟩] scope pos) (Z (.Name y l)) b.line X.env=pure M:=by rfl)(hf:X.fn y=M\/X.env.scope.names.lookup y=Z .local:=by first|exact .inl rfl|exact .inr rfl|assumption)(hs:∀x,foldedSetIterable iter X.env x=pure x:=by intro _;rfl):XS X (.Assign [.Name y l] (.ListComp elt [⟨tg,iter,ifs,0⟩] scope pos) b) (dk (d4 T.length keep m g t (dW e)) (gN i)):=
 ⟨g9 (Ax (emit:=rS elt) (tb:=λp=>uy p (tM X.K e)) hc f (λit d j=>xc elt tg iter ifs scope pos it d j) C k hi.h (λs H c p=>⟨(hb s H c).g.h,(hb s H c).t.h,uF (hb s H c).e.h p⟩) hN hy hx hf hs)
  λE σ H h=>Er (fun σ H Q q=>sb (λa E σ H q=>rR q) q) h⟩
end
noncomputable def pE:D->Option Key
 | .int i=>Z (.inl i)
 | .str x=>Z (.inr x)
 |_=>Y
noncomputable def dH{κ:Type}[DecidableEq κ](kvs:List (κ×D))(k:κ):Option D:=(kvs.find? λp=>decide (p.1=k)).map (·.2)
noncomputable def fG{κ:Type}[DecidableEq κ](kvs:List (κ×D))(k:κ)(d:D):List (κ×D):=
 if(kvs.any λp=>decide (p.1=k))=M then kvs.map (λp=>if p.1=k then(p.1,d)else p)else kvs++[(k,d)]
section
variable{K:Fg1}{H:Hp}{mu:List cP}
theorem kh{d:D}{v:V}{k:Key}(r:d3 K H mu d v)(h:pE d=Z k):v=kV k:=by
 cases r with
 |int i=>cases h;rfl
 |str x=>cases h;rfl
 |_=>cases h
end
section
variable{κ:Type} [DecidableEq κ] {K:Fg1}{H:Hp}{mu:List cP}
theorem KR.length:∀{ks:List (κ×D)} {ws:List (κ×V)},KR K H mu ks ws->ks.length=ws.length:=λh=>Paired.length h
theorem KR.look{k:κ}:∀ {ks:List (κ×D)} {ws:List (κ×V)},KR K H mu ks ws ->
  (∀d,dH ks k=Z d -> ∃v,il ws k=Z v/\d3 K H mu d v)/\(dH ks k=Y->il ws k=Y):=by
 intro ks ws h
 induction h with
 |nil=>exact⟨λd h=>by simp[dH]at h,λ_=>rfl⟩
 | @cons p q ks ws r t ih=>
  obtain⟨b,f⟩:=p;obtain⟨j,c⟩:=q;obtain⟨e,r⟩:=r;dsimp only at e r;subst e;obtain⟨h1,h2⟩:=ih;by_cases a:b=k
  ·subst a;refine⟨λd h=>?_,λh=>?_⟩
   ·have:f=d:=by simpa[dH]using h
    subst this;exact⟨c,by simp[il],r⟩
   ·simp[dH]at h
  ·have g:dH ((b,f)::ks) k=dH ks k:=by simp[dH,bf,a]
   have i:il ((b,c)::ws) k=il ws k:=by simp[il,bf,a]
   rw[g,i];exact⟨h1,h2⟩
theorem KR.any{k:κ}:∀{ks:List (κ×D)} {ws:List (κ×V)},KR K H mu ks ws->(ks.any λp=>decide (p.1=k))=ws.any λp=>decide (p.1=k):=by
 intro ks ws h
 induction h with
 |nil=>rfl
 |cons r t ih=>rw[bg,bg,ih,r.1]
theorem KR.repl{k:κ}{d:D}{v:V}(q:d3 K H mu d v):∀ {ks:List (κ×D)} {ws:List (κ×V)},KR K H mu ks ws ->
  KR K H mu (ks.map λp=>if p.1=k then(p.1,d)else p) (ws.map λp=>if p.1=k then(p.1,v)else p):=by
 intro ks ws h
 induction h with
 |nil=>exact .nil
 | @cons a b ks ws r t ih=>
  refine .cons ?_ ih;obtain⟨e,r⟩:=r;dsimp only;by_cases h:a.1=k
  ·rw[ak h,ak (e ▸ h)];exact⟨e,q⟩
  ·rw[aj h,aj (e ▸ h)];exact⟨e,r⟩
theorem KR.snoc{k:κ}{d:D}{v:V}(q:d3 K H mu d v):∀{ks:List (κ×D)} {ws:List (κ×V)},KR K H mu ks ws->KR K H mu (ks++[(k,d)]) (ws++[(k,v)]):=by
 intro ks ws h
 induction h with
 |nil=>exact .cons ⟨O,q⟩ .nil
 |cons r t ih=>exact .cons r ih
theorem KR.put{k:κ}{d:D}{v:V}(q:d3 K H mu d v){ks:List (κ×D)}{ws:List (κ×V)}(h:KR K H mu ks ws):KR K H mu (fG ks k d) (ia ws k v):=by
 unfold fG ia;rw[h.any];split
 ·exact h.repl q
 ·exact h.snoc q
end
noncomputable def tU:G2:=λd e S=>match e with
 | .ref n=>match S[n]? with
  |some (.dct kvs)=>(pE d).map λk=>(.bl (dH kvs k).isSome,S)
  |_=>EN d e S
 |_=>EN d e S
noncomputable def jj:G2:=λd e S=>match e with
 | .ref n=>match S[n]? with
  |some (.dct kvs)=>(pE d).map λk=>(.bl (!(dH kvs k).isSome),S)
  |_=>m6 d e S
 |_=>m6 d e S
noncomputable def kO:G2:=λd e S=>match d with
 | .ref n=>match S[n]? with
  |some (.dct kvs)=>(pE e).bind λk=>(dH kvs k).map λx=>(x,S)
  |_=>zf d e S
 |_=>zf d e S
noncomputable def kl:G3:=λo i v S=>match o with
 | .ref n=>match S[n]? with
  |some (.dct kvs)=>(pE i).bind λk=>if kvs.length<cV then Z (.non,S.set n (.dct (fG kvs k v)))else Y
  |_=>i4 o i v S
 |_=>i4 o i v S
section
variable{X:Cx}
theorem mW{K:Fg1}{H:Hp}{mu:List cP}{S:c6}(hs:eF K H mu S){n:Nat}{a:cP}{kvs:List (Key×D)}{k:Key}{y:V}(hn:mu[n]? = some a)(he:S[n]? = some (.dct kvs))(hy:y=kV k):
  ∃o:Option V,nP H a y o/\(∀d,dH kvs k=Z d -> ∃v,o=Z v/\d3 K H mu d v)/\(dH kvs k=Y->o=Y)/\o.isSome=(dH kvs k).isSome:=by
 obtain⟨ws,c,f⟩:=hs.dct he hn;subst hy;obtain⟨h1,h2⟩:=f.look (k:=k);refine⟨il ws k,nP.k c,h1,h2,?_⟩;cases e:dH kvs k with
 |none=>rw[h2 e];rfl
 |some d=>obtain⟨v,b,_⟩:=h1 d e;rw[b];rfl
theorem FP(t:X.A.units+64<cLine):fj X (compareOp .In) (r2 X.K (b2 tU)):=by
 intro ag s σ H x y u w Q I j l h;obtain⟨mu,S,d,e,r,i,f,b,c,a,hc⟩:=nC h;have back:EN d e S=Z (r,i)->cW (model X.prog X.w) X.A (compareOp .In u w) (EP X ag σ Q) X.xe s:=λa=>Hw t ag s σ H x y u w Q I j l ⟨mu,S,[d,e],r,i,.cons f (.cons b .nil),c,a,hc⟩;unfold tU at a;split at a
 ·rename_i n;split at a
  ·rename_i kvs m;obtain⟨k,q,a⟩:=oM1.mp a;cases a;cases b with
   |ref p=>
    cases l;obtain⟨o,g,_,_,hi⟩:=mW c p m (kh f q);exact HI (by lia) I g j λs' v=>⟨.bl o.isSome,H,v,O,by rw[hi];exact hc.now (.bl _) c⟩
  ·exact back a
 ·exact back a
theorem yi(t:X.A.units+64<cLine):fj X (compareOp .NotIn) (r2 X.K (b2 jj)):=by
 intro ag s σ H x y u w Q I j l h;obtain⟨mu,S,d,e,r,i,f,b,c,a,hc⟩:=nC h;have back:m6 d e S=Z (r,i)->cW (model X.prog X.w) X.A (compareOp .NotIn u w) (EP X ag σ Q) X.xe s:=λa=>AV t ag s σ H x y u w Q I j l ⟨mu,S,[d,e],r,i,.cons f (.cons b .nil),c,a,hc⟩;unfold jj at a;split at a
 ·rename_i n;split at a
  ·rename_i kvs m;obtain⟨k,q,a⟩:=oM1.mp a;cases a;cases b with
   |ref p=>
    cases l;obtain⟨o,g,_,_,hi⟩:=mW c p m (kh f q);exact BF (by lia) I g j λs' v=>⟨.bl (!o.isSome),H,v,O,by rw[hi];exact hc.now (.bl _) c⟩
  ·exact back a
 ·exact back a
theorem ER(P:X.A.units+64<cLine):Cm X (r2 X.K (b2 kO)):=by
 intro value b ag s σ H x y v u Q I w B h m;obtain⟨mu,S,d,e,r,C,t,j,p,c,hc⟩:=nC h;have back:zf d e S=Z (r,C)->cW (model X.prog X.w) X.A (subscriptTail value b v u) (EP X ag σ Q) X.xe s:=λc=>G0 value b ag s σ H x y v u Q I w B ⟨mu,S,[d,e],r,C,.cons t (.cons j .nil),p,c,hc⟩ m;unfold kO at c;split at c
 ·rename_i n;split at c
  ·rename_i kvs G;obtain⟨k,ao,c⟩:=oB1.mp c;obtain⟨z,F,c⟩:=oM1.mp c;cases c;cases t with
   | @ref _ a K=>
    cases w;obtain⟨o,g,h1,_,_⟩:=mW p K G (kh j ao);obtain⟨E,au,N⟩:=h1 _ F;subst au;have A:=rX I g;unfold subscriptTail;refine wB1 ?_;rw[getitemInPython_of_ne A.not_modules];refine wB1 (wpAny_specialOf A PySem.F.slot_dict_getitem.lookup ?_);have i:cW (model X.prog X.w) X.A (subscripted b J (.ref a) u) (λr f=>cW (model X.prog X.w) X.A (letTemporaryGo value (.ref a) r >>= λ_=>pure r) (EP X ag σ Q) X.xe f) X.xe s:=by
     rw[m];exact wpAny_operating (wpAny_mono (wx (by lia) I g B λL D am q=>(⟨E,H,am,q,hc.now N p⟩:EP X ag σ Q L D)) (λr f l=>wB1 (wpAny_letTemporaryGo (wP1 l))) λ_ _ x=>x)
    first
     |exact wP1 (wB1 i)
     |exact wB1 i
     |exact i
  ·exact back c
 ·exact back c
theorem CI(L:X.A.units+64<cLine):ug X (rU X.K (b3 kl)):=by
 intro ag s σ H o i v t m u Q I j q y h;obtain⟨mu,S,ds,d,z,F,b,a,hc⟩:=id h;cases F with
 |cons l am=>cases am with
  |cons x A=>cases A with
   |cons w B=>
    cases B;rename_i g r f;dsimp only[b3]at a;have back:i4 g r f S=Z (d,z)->cW (model X.prog X.w) X.A (setItem t m u) (λ_ s'=>∃H',Inv X ag σ H' s'/\Q H') X.xe s:=λa=>Fg ag s σ H o i v t m u Q I j q y ⟨mu,S,[g,r,f],d,z,.cons l (.cons x (.cons w .nil)),b,a,hc⟩;unfold kl at a;split at a
    ·rename_i n;split at a
     ·rename_i kvs D;obtain⟨k,K,a⟩:=oB1.mp a;split at a
      ·rename_i E;cases a;cases l with
       |ref c=>
        cases j;obtain⟨ws,e,p⟩:=b.dct D c;have C:=kh x K;subst C;refine ww (by lia) I (wK.k e (by rw[<- p.length];exact E)) q y λs' G=>⟨_,G,?_⟩;have put:Ext mu mu H (upd H _ (.dK (ia ws k v))):=Ext.put e trivial (gM1 c);exact hc _ mu put (b.put c e trivial ⟨_,dD,(p.put w).ext put⟩)
      ·cases a
     ·exact back a
    ·exact back a
noncomputable def Bx:G2:=λd e S=>match e with
 | .non=>Z (.bl (ou d),S)
 | .bl b=>match d with
  | .bl c=>Z (.bl (c == b),S)
  |_=>Y
 |_=>Y
noncomputable def lS:G2:=λd e S=>match e with
 | .non=>Z (.bl (!ou d),S)
 | .bl b=>match d with
  | .bl c=>Z (.bl (!(c == b)),S)
  |_=>Y
 |_=>Y
theorem FL:fj X (compareOp .Is) (r2 X.K (b2 Bx)):=by
 intro ag s σ H x y u w Q I j k h;obtain⟨mu,S,d,e,r,l,g,a,i,f,hc⟩:=nC h;cases e with
 |non=>exact FM ag s σ H x y u w Q I j k ⟨mu,S,[d,.non],r,l,.cons g (.cons a .nil),i,f,hc⟩
 |bl b=>
  cases d with
  |bl c=>
   cases f;cases g;cases a;cases j;cases k;exact is_bool ⟨.bl (c == b),H,I,O,hc.now (.bl _) i⟩
  |_=>cases f
 |_=>cases f
theorem yk:fj X (compareOp .IsNot) (r2 X.K (b2 lS)):=by
 intro ag s σ H x y u w Q I j k h;obtain⟨mu,S,d,e,r,l,g,a,i,f,hc⟩:=nC h;cases e with
 |non=>exact Ds ag s σ H x y u w Q I j k ⟨mu,S,[d,.non],r,l,.cons g (.cons a .nil),i,f,hc⟩
 |bl b=>
  cases d with
  |bl c=>
   cases f;cases g;cases a;cases j;cases k;exact isnot_bool ⟨.bl (!(c == b)),H,I,O,hc.now (.bl _) i⟩
  |_=>cases f
 |_=>cases f
noncomputable def yH:FE:=λ_ S=>Z (.ref S.length,S++[.dct []])
theorem w1{pos:Pos}:XE X (.Dict [] [] pos) yH:=⟨em ya <| by
 rintro σ H Q ⟨r,mu,S,d,f,e,a,c,hc⟩ p b;cases c;exact hc _ _ (mu++[p]) (Ext.new_ b) (.ref (gf a.len p)) (a.new b ⟨[],dD,.nil⟩)⟩
noncomputable def yF:List (FE×FE)->Ev->c6->Option (List (D×D)×c6)
 |[],_,S=>Z ([],S)
 |(a,b)::l,r,S=>(a r S).bind λp=>(b r p.2).bind λq=>(yF l r q.2).map λt=>((p.1,q.1)::t.1,t.2)
noncomputable def rq:List (D×D)->Option (List (Key×D))
 |[]=>Z []
 |(k,d)::l=>(pE k).bind λk=>(rq l).map λt=>(k,d)::t
noncomputable def mU(l:List (FE×FE)):FE:=λr S=>(yF l r S).bind λp=>(rq p.1).bind λkvs=>if kvs.length<=15 then Z (.ref p.2.length,p.2++[.dct (kvs.foldl (λacc kv=>fG acc kv.1 kv.2) [])])else Y
structure XP (X:Cx)(pos:Pos)(ks:List (Option Expr))(vs:List Expr)(l:List (FE×FE)):Prop where
 h:GC X pos ks vs (l.map λp=>(tM X.K p.1,tM X.K p.2))
theorem uo{pos:Pos}:XP X pos [] [] []:=⟨Az⟩
theorem fT{pos:Pos}{k v:Expr}{ks:List (Option Expr)}{vs:List Expr}{a b:FE}{l:List (FE×FE)}(hk:XE X k a)(hv:XE X v b)(t:XP X pos ks vs l):XP X pos (Z k::ks) (v::vs) ((a,b)::l):=⟨xT hk.h hv.h t.h⟩
theorem xS{K:Fg1}{σ:L2.St}:∀ {l:List (FE×FE)} {r:Ev} {mu:List cP} {H:Hp} {S S':c6} {ps:List (D×D)} {Q:List (V×V)->Hp->Prop},fc K H mu r σ->eF K H mu S->yF l r S=some (ps,S') ->
  (∀vs H' mu',Ext mu mu' H H'->Paired (λ(p:D×D) (q:V×V)=>d3 K H' mu' p.1 q.1/\d3 K H' mu' p.2 q.2) ps vs->eF K H' mu' S'->Q vs H')->oZ (l.map λp=>(tM K p.1,tM K p.2)) σ H Q
 |[],r,mu,H,S,S',ps,Q,he,hs,c,hc=>by cases c;exact hc [] H mu (.refl _ _) .nil hs
 |(a,b)::l,r,mu,H,S,S',ps,Q,he,hs,c,hc=>by
  obtain⟨⟨d,i⟩,o,c⟩:=oB1.mp c;obtain⟨⟨m,z⟩,w,c⟩:=oB1.mp c;obtain⟨⟨t,C⟩,u,c⟩:=oM1.mp c;cases c;refine⟨r,mu,S,d,i,he,hs,o,λv H1 mu1 h n x=>⟨r,mu1,i,m,z,he.ext h,x,w,λB H2 A g r2 j=>?_⟩⟩;refine xS ((he.ext h).ext g) j u λvs y f e s k=>hc _ y f ((h.trans g).trans e) (.cons ⟨(n.ext g).ext e,r2.ext e⟩ s) k
theorem yP{K:Fg1}{H:Hp}{mu:List cP}:∀ {ps:List (D×D)} {vs:List (V×V)} {kvs:List (Key×D)},Paired (fun (p:D×D) (q:V×V)=>d3 K H mu p.1 q.1/\d3 K H mu p.2 q.2) ps vs->rq ps=some kvs ->
  ∃ws:List (Key×V),vs=ws.map (λc=>(kV c.1,c.2))/\KR K H mu kvs ws:=by
 intro ps vs kvs i h
 induction i generalizing kvs with
 |nil=>cases h;exact⟨[],O,.nil⟩
 | @cons a b ps vs q t ih=>
  obtain⟨k,d⟩:=a;obtain⟨m,f⟩:=b;obtain⟨j,l,h⟩:=oB1.mp h;obtain⟨rest,g,h⟩:=oM1.mp h;cases h;obtain⟨ws,e,r⟩:=ih g;have:=kh q.1 l;dsimp only at this;subst this;exact⟨(j,f)::ws,by rw[mP1,<- e],.cons ⟨O,q.2⟩ r⟩
theorem yz{K:Fg1}{H:Hp}{mu:List cP}:∀{kvs:List (Key×D)} {ws:List (Key×V)} {acc:List (Key×D)} {acw:List (Key×V)},KR K H mu kvs ws->KR K H mu acc acw->KR K H mu (kvs.foldl (λacc c=>fG acc c.1 c.2) acc) (iu acw ws):=by
 intro kvs ws acc acw f h
 induction f generalizing acc acw with
 |nil=>exact h
 | @cons a b kvs ws r t ih=>
  obtain⟨k,d⟩:=a;obtain⟨g,v⟩:=b;obtain⟨e,r⟩:=r;dsimp only at e r;subst e;show KR K H mu (kvs.foldl _ (fG acc k d)) (iu (ia acw k v) ws);exact ih (h.put r)
theorem qh{pos:Pos}{ks:List (Option Expr)}{vs:List Expr}{l:List (FE×FE)}(h:XP X pos ks vs l)(m:ks.all (·.isSome)=M:=by rfl)(ao:ks.length=vs.length:=by rfl)(h0:ks≠[]:=by(intro z;cases z))(A:ks.length<=15:=by decide):XE X (.Dict ks vs pos) (mU l):=
 ⟨em (AH h.h m ao h0 A) <| by
  rintro σ H Q ⟨r,mu,S,d,R,au,D,f,hc⟩ p j;obtain⟨⟨ps,G⟩,L,f⟩:=oB1.mp f;obtain⟨kvs,N,f⟩:=oB1.mp f;dsimp only at f;split at f
  ·rename_i v;cases f;have B:Ext mu mu H (upd H p (.dK [])):=Ext.fresh j;refine xS (au.ext B) (D.fresh j) L fun vs H1 mu1 i am g=>?_;obtain ⟨s,k⟩:=i.held (a:=p) (o:=.dK []) dD (D.notin j);obtain ⟨ws,P,rk⟩:=yP am N;refine ⟨s,ws,P,by rw [<- rk.length];exact v,?_⟩;have put:Ext (p::mu1) (p::mu1) H1 (upd H1 p (.dK (iu [] ws))):=Ext.put s trivial mS1;have I:=g.aside put.inner k;have y:Ext mu (mu1++[p]) H (upd H1 p (.dK (iu [] ws))):=by
    refine⟨i.pre.trans (bv _ _),λb o e n=>?_,λb ys e=>put.tup b ys (i.tup b ys (B.tup b ys e)),λb o u e=>put.frz b o u (i.frz b o u (B.frz b o u e)),λb x=>?_⟩
    ·have F:b≠p:=dP e j;rw[dB F];exact i.old b o (by rw[dB F];exact e) n
    ·rcases aF.mp x with z|z
     ·rcases i.new b z with q|q
      ·exact .inl q
      ·by_cases t:b=p
       ·exact .inr (by rw[t];exact j)
       ·rw[dB t]at q;exact .inr q
     ·have:b=p:=by simpa using z
      exact .inr (by rw[this];exact j)
   have C:=yz rk (acc:=[]) (acw:=[]) .nil;refine hc _ _ (mu1++[p]) y (.ref (gf g.len p)) ⟨by rw[lA1,lA1,g.len];rfl,?_,λn o b h1 h2=>?_⟩
   ·rw[bx];refine⟨g.nd,by simp,λb K c hc e=>?_⟩;have:c=p:=by simpa using hc
    subst this;subst e;exact k K
   ·by_cases E:n<G.length
    ·rw[gL1 E]at h1;rw[gL1 (by rw[g.len];exact E)]at h2;exact(I.ob n o b h1 h2).mor [p]
    ·have w:n=G.length:=by
      have:=(gE1.mp h1).1;rw[lA1]at this;simp at this;lia
     subst w;rw[gR1 (nR1 _)]at h1;rw[<- g.len,gR1 (nR1 _)]at h2;simp at h1 h2;subst h1;subst h2;exact⟨_,dD,KR.mor [p] (Paired.mapP C λ_ _ z=>⟨z.1,z.2.exw put.inner⟩)⟩
  ·cases f⟩
end
section
variable{K:Fg1}{H H':Hp}{mu mu':List cP}{S:c6}
end
theorem jU{X:Cx}(i j:Nat){x y:Str}{a b:Expr}{m:FA}{n k pt pos:Pos}{kt k2 pt2}(hc:X.calm=true)(hN:X.N.Nodup)(hi:X.N[i]? = some x)(s:X.N[j]? = some y)(l:i≠j)(hx:X.env.scope.names.lookup x=some .local)(hy:X.env.scope.names.lookup y=some .local)(ha:XA X [a,b] m)(hw:swappedStores [.Tuple [.Name x n,.Name y k] kt pt] (.Tuple [a,b] k2 pt2) X.env=pure (some [x,y]):=by rfl)(hs:swapsWithSole [.Tuple [.Name x n,.Name y k] kt pt] (.Tuple [a,b] k2 pt2) pos.line X.env=pure false:=by rfl):
  XS X (.Assign [.Tuple [.Name x n,.Name y k] kt pt] (.Tuple [a,b] k2 pt2) pos) (dk (dS m) (gT 2 (gCs (gN i) (gCs (gN j) gNl)))):=
 ⟨g9 (C1 hc hN hi s l hx hy ha.h hw hs) <| by
  rintro E σ H ⟨r,mu,S,f,A,C,o,hs,h,hc⟩;obtain⟨⟨d,z⟩,e,h⟩:=oB1.mp h;obtain⟨⟨r2,B⟩,c,h⟩:=oB1.mp h;cases h;obtain⟨⟨ds,w⟩,t,e⟩:=oB1.mp e;dsimp only at e;split at e
  ·cases e;refine⟨r,mu,S,ds,_,o,hs,t,λvs H1 mu1 p g v=>?_⟩;dsimp only at c;rw[gT]at c;split at c
   ·cases g with
    |nil=>cases c
    |cons q g=>cases g with
     |nil=>cases c
     |cons u g=>cases g with
      |nil=>
       cases c;exact⟨_,_,O,hc _ H1 mu1 p (((o.ext p).set q).set u) v⟩
      |cons _ _=>cases c
   ·cases c
  ·cases e⟩
noncomputable def zg:G2:=λd e S=>match d,e with
 | .int i,.int j=>Z (.int (i+j),S)
 |_,_=>Y
theorem Bp{X:Cx}:GY X .Add (r2 X.K (b2 zg)):=by
 intro ag s σ H x y v u Q I g k h;obtain⟨mu,S,d,e,r,l,c,b,f,a,hc⟩:=nC h;unfold zg at a;split at a
 ·rename_i i j;cases a;cases c;cases b;exact Bq ag s σ H _ _ v u Q I g k ⟨i,j,O,O,hc.now (.int _) f⟩
 ·cases a
end Mi
namespace HT
open PySem PySem.Spec PyProof.Rows
variable{prog:cQ}{w:cS}{A:cR}{E:cN->cO->Prop}{s:cO}
theorem jl{t sl:cP}{items:Array cN}{f e:cN}{lo hi:Option Int}{Q:cN->cO->Prop}(ht:IsTup s.heap t items)(hs:s.heap.IsSliceOf sl f e .none)(pl:IsPart f lo)(g:IsPart e hi)(hw:sIx items.size 0 lo=0/\sIx items.size items.size hi=items.size)(h:Q (.ref t) s):cW (model prog w) A (getItem (.ref t) (.ref sl)) Q E s:=by
 obtain⟨j,c,d,i⟩:=id hs;have b:s.TypeIs (.ref sl) "slice":=⟨j,c,d⟩;unfold getItem
 try with_reducible refine wpAny_holding ?_
 first|refine wB1 (wP1 ?_)|skip
 refine wB1 (wpAny_sequenceKey ht.typeIs (by decide) ?_);refine wB1 (wpAny_callSpecial?_slot (name:=Str.ofString "__getitem__") ht.typeIs PyProof.Rows.slot_tuple_getitem
  (wE1 PyProof.Rows.slot_tuple_getitem ht.typeIs entry_tuple_getitem ?_ (args_tuple_getitem _ _)))
 show cW _ _ (Builtin.Tuple.tupleItemsOf (.ref t) >>= _) _ _ s;refine wB1 (tupleItemsOf_ ht ?_);refine wB1 (wpAny_typeOf b ?_);rw[ak (by decide)];refine wB1 (hY hs pl g ?_);have a:((((sIx items.size 0 lo:Nat):Int) == 0&&(1:Int) == 1&&(sIx items.size items.size hi-sIx items.size 0 lo) == items.size)=M):=by
  rw[hw.1,hw.2];simp
 show cW _ _ (if(((sIx items.size 0 lo:Nat):Int) == 0&&(1:Int) == 1&&(sIx items.size items.size hi-sIx items.size 0 lo) == items.size)=M then _ else _) _ _ s;rw[ak a];refine wB1 ?_;unfold Builtin.Tuple.tupleIsExact;refine wB1 (wpAny_typeOf ht.typeIs (wP1 ?_));rw[ak (by decide)]
 first
  |exact wB1 (wpAny_rule (wP1 ⟨_,rfl,wP1 h⟩))
  |exact wB1 (wpAny_rule (wB1 (wP1 ⟨_,rfl,wP1 h⟩)))
end HT
namespace Mi
open PySem PySem.Spec PyProof.Rows L2
def Hq(K:Fg1):V->Option Int->Option Int->Hp->VK->Prop:=λx lo hi H Q=>∃a xs,x = .ref a/\iI K H a xs/\(HT.sIx xs.length 0 lo=0/\HT.sIx xs.length xs.length hi=xs.length)/\Q (.ref a) H
section
variable{X:Cx}
theorem Af:zS X (Hq X.K):=by
 intro ag s σ H x v m l lo hi k Q I j f pl i h;obtain⟨a,xs,rfl,g,e,q⟩:=h;cases j;obtain⟨c,r,d,n⟩:=I.tuple g;have b:c.toArray.size=xs.length:=by rw[sT1];exact r.length.symm
 refine⟨"tuple",_,PyProof.Rows.slot_tuple_getitem.lookup,d.typeIs,?_⟩;exact HT.jl d f pl i (by rw[b];exact e) ⟨.ref a,H,I,O,q⟩
noncomputable def sR(S:c6)(d:D)(lo hi:Option Int):Option (D×c6):=(dn S d).map λp=>if p.1=M then(.ref S.length,S++[.lst (Mi.sa p.2 lo hi)])else(.tup (Mi.sa p.2 lo hi),S)
noncomputable def jK(m:FE)(lo hi:FO):FE:=λr S=>(m r S).bind λp=>(lo r p.2).bind λa=>(hi r a.2).bind λb=>sR b.2 p.1 a.1 b.1
theorem wy{xs:List D}{lo hi:Option Int}(h:HT.sIx xs.length 0 lo=0/\HT.sIx xs.length xs.length hi=xs.length):Mi.sa xs lo hi=xs:=by
 unfold Mi.sa;rw[h.1,h.2,List.drop_zero,Nat.sub_zero,bT]
theorem gB{e:Expr}{lo hi:Option Expr}{m:FE}{a b:FO}{pos p2:Pos}(h:XE X e m)(am:XO X lo a)(F:XO X hi b):XE X (.Subscript e (.Slice lo hi Y p2) pos) (jK m a b):=
 ⟨em (x4 (zS.or Af (zS.or CG Ag)) h.h am.h F.h) <| by
  rintro σ H Q ⟨r,mu,S,d,R,s,E,f,hc⟩;obtain⟨⟨D,A⟩,I,f⟩:=oB1.mp f;obtain⟨⟨n,B⟩,ao,f⟩:=oB1.mp f;obtain⟨⟨l,L⟩,K,f⟩:=oB1.mp f;refine⟨r,mu,S,D,A,s,E,I,λv H1 mu1 x G au=>?_⟩;refine⟨r,mu1,A,n,B,s.ext x,au,ao,λH2 y u C=>?_⟩;refine⟨r,y,B,l,L,(s.ext x).ext u,C,K,λP g z j=>?_⟩;obtain⟨⟨k,xs⟩,N,f⟩:=oM1.mp f;have o:=(x.trans u).trans z;obtain⟨c,vs,rfl,q,t⟩:=dw ((G.ext u).ext z) j N;cases k with
  |true=>
   cases f;right;right;exact⟨c,vs,O,q,λp i=>hc _ _ (g++[p]) (o.trans (Ext.new_ i)) (.ref (gf j.len p)) (j.newL (vg t n l) i)⟩
  |false=>
   simp only[bF1,if_false]at f;cases f;by_cases w:HT.sIx xs.length 0 n=0/\HT.sIx xs.length xs.length l=xs.length
   ·left;rw[wy w]at hc;exact⟨c,vs,O,q,by rw[<- t.length];exact w,hc _ _ g o (.tup q t) j⟩
   ·right;left;exact⟨c,vs,O,q,by rw[<- t.length];exact w,λp i=>hc _ _ g (o.trans (Ext.fresh i)) (.tup (iI.of dD) ((vg t n l).ext (Ext.fresh i))) (j.fresh i)⟩⟩
end
mutual
inductive fu (h:cX):TK->cN->Prop
 |non:fu h .non .none
 |int (i t):fu h (.int i) (.int i t)
 |tup {a o items n xs}:h.get? a=some o->o.cls = .type "tuple"->o.data = .seq items n->gl h xs items.toList->fu h (.tup xs) (.ref a)
inductive gl (h:cX):List TK->List cN->Prop
 |nil:gl h [] []
 |cons {k v ks vs}:fu h k v->gl h ks vs->gl h (k::ks) (v::vs)
end
section
variable{prog:cQ}{w:cS}{A:cR}{E:cN->cO->Prop}{s:cO}
theorem qy{Q:Int->cO->Prop}(h:Q 0xFCA86420 {s with toks:=s.toks+1}):cW (model prog w) A (pyHash .none) Q E s:=by
 have a:s.TypeIs .none "NoneType":=rfl;unfold pyHash
 first|unfold pyHashByItsType|skip
 have b:[Value.none].any Value.onHeap=J:=rfl;refine wB1 ?_;rw[cRoomFor,aj (by rw[b];exact aJ)];refine wP1 ?_;refine wB1 (wpAny_specialOf a F.slot_NoneType_hash.lookup ?_);show cW _ _ (if(Z (Value.builtin "NoneType.__hash__") == Z Value.none)=M then _ else _) Q E s;rw[aj (by rw[beq_builtin_none];exact aJ)];refine wB1 (wpAny_specialOf a F.slot_NoneType_hash.lookup ?_);show cW _ _ (callSpecialIfBoundUnlessNone? .none "__hash__" _ >>= _) Q E s;refine wB1 (wpAny_callSpecialIfBoundUnlessNone?_slot a F.slot_NoneType_hash (wE1 F.slot_NoneType_hash a F.entry_NoneType_hash (show cW _ _ (retInt 0xFCA86420) _ _ s from wpAny_ret_mkInt ?_) (F.args_NoneType_hash_1 _)));exact wP1 h
def pZ(prog:cQ)(w:cS)(k:TK):Prop:=∀{A:cR} {E:cN->cO->Prop} {s:cO} {v:cN} {Q:Int->cO->Prop},A.units+k.dep<cLine->fu s.heap k v->Q k.hash {s with toks:=s.toks+k.draws}->cW (model prog w) A (pyHash v) Q E s
theorem gl.split{h:cX}:∀{ks:List TK} {vs:List cN},gl h ks vs->ks.length=vs.length:=λa=>a.rec (motive_1:=λ_ _ _=>True) (motive_2:=λks vs _=>ks.length=vs.length) trivial (λ_ _=>trivial) (λ_ _ _ _ _=>trivial) O (λ_ _ _ ih=>congrArg (· + 1) ih)
theorem yZ{xs:List TK}(all:∀k∈xs,pZ prog w k):pZ prog w (.tup xs):=by
 intro A E s v Q t r h;cases r with
 | @tup a o m n _ q hc u hi=>
  have j:s.TypeIs (.ref a) "tuple":=⟨o,q,hc⟩;rw[TK.dep]at t;unfold pyHash
  first|unfold pyHashByItsType|skip
  first|refine wB1 (wpAny_cRoomFor_or (.inr (by lia)) ?_)|skip
  refine wB1 (wpAny_specialOf j F.slot_tuple_hash.lookup ?_);show cW _ _ (if(Z (Value.builtin "tuple.__hash__") == Z Value.none)=M then _ else _) Q E s;rw[aj (by rw[beq_builtin_none];exact aJ)];refine wB1 (wpAny_specialOf j F.slot_tuple_hash.lookup ?_);show cW _ _ (callSpecialIfBoundUnlessNone? (.ref a) "__hash__" _ >>= _) Q E s;refine wB1 (wpAny_callSpecialIfBoundUnlessNone?_slot j F.slot_tuple_hash (wE1 F.slot_tuple_hash j F.entry_tuple_hash ?_ (F.args_tuple_hash_1 _)));show cW _ _ (Builtin.Tuple.tupleItemsOf (.ref a) >>= _) _ _ s;refine wB1 (wpAny_tupleItemsOf q u ?_);refine wB1 ?_;rw[<- Array.forIn_toList];refine wpAny_forIn_list _
   (λrest (b:Array Int) s'=>∃done c,xs=done++c/\gl s.heap c rest/\b.toList=TK.hashes done/\s'={s with toks:=s.toks+TK.drawsAll done})
   _ ?_ ?_ _ _ ⟨[],xs,O,hi,O,O⟩
  ·rintro x rest b s' ⟨done,c,e,l,g,rfl⟩;cases l with
   | @cons k _ f _ h1 d=>
    have p:k∈xs:=by rw[e];simp
    refine wB1 (all k p (show A.in1.units+k.dep<cLine by have:=TK.dep_mem p;rw[show A.in1.units=A.units+1 from rfl];lia) h1 ?_)
    first
     |exact wP1 ⟨done++[k],f,by simp[e],d,by rw[TK.hashes_app];simp[g,TK.hashes],by rw[TK.draws_app];simp[TK.drawsAll,bo]⟩
     |exact wB1 (wP1 (wP1 ⟨done++[k],f,by simp[e],d,by rw[TK.hashes_app];simp[g,TK.hashes],by rw[TK.draws_app];simp[TK.drawsAll,bo]⟩))
  ·rintro b s' ⟨done,c,e,l,g,rfl⟩;cases l;rw[aL]at e;subst e;show cW _ _ (retInt (Builtin.Tuple.tupleHashOf b.toList)) _ _ _;rw[g];refine wpAny_ret_mkInt ?_;show cW _ _ (if(decide (-(2:Int)^63<=Builtin.Tuple.tupleHashOf (TK.hashes xs))&&decide (Builtin.Tuple.tupleHashOf (TK.hashes xs)<2^63))=M then _ else _) Q E _;rw[TK.hash,TK.draws]at h;unfold reduceHash at h;by_cases i:(decide (-(2:Int)^63<=Builtin.Tuple.tupleHashOf (TK.hashes xs))&&decide (Builtin.Tuple.tupleHashOf (TK.hashes xs)<2^63))=M
   ·rw[ak i];rw[ak i]at h;exact wP1 (by simpa[bo]using h)
   ·rw[aj i];rw[aj i]at h;exact wB1 (wpAny_rule (wP1 (by simpa[bo]using h)))
mutual
theorem u5:∀k:TK,pZ prog w k
 | .non=>λb a h=>by cases a;exact qy h
 | .int i=>λb a h=>by cases a;exact wpAny_pyHash_int h
 | .tup xs=>yZ (rE xs)
theorem rE:∀ks:List TK,∀k∈ks,pZ prog w k
 |[],k,h=>by simp at h
 |x::xs,k,h=>by
  by_cases e:k=x
  ·rw[e];exact u5 x
  ·exact rE xs k ((aE.mp h).resolve_left e)
end
end
theorem fu.inj{h:cX}:∀ {k k':TK} {v:cN},fu h k v->fu h k' v->k=k':=fun j=>j.rec (motive_1:=fun k v _=>∀ k',fu h k' v->k=k') (motive_2:=fun k v _=>∀ k',gl h k' v->k=k')
  (λk' g=>by cases g;rfl) (λ_ _ k' g=>by cases g;rfl)
  (λi l f n ih k' g=>by
   cases g with
   |tup d m c e=>
    rw[i]at d;cases d;rw[f]at c;cases c;rw[ih _ e])
  (λk' g=>by cases g;rfl) (λ_ _ a b k' g=>by cases g with|cons r' t'=>rw[a _ r',b _ t']) _
theorem fu.keeps{h h':cX}{d:cP}{o:Obj}{es ep}(ho:h.get? d=some o)(hd:o.data = .dict es ep)(hs:Heap.SameBut d h h'):∀ {k:TK} {v:cN},fu h k v->fu h' k v:=fun f=>f.rec (motive_1:=fun k v _=>fu h' k v) (motive_2:=fun k v _=>gl h' k v) .non .int
  (λ{a} _ _ _ _ e g c _ ih=>.tup ((hs.2 a (λz=>by subst z;rw[e]at ho;cases ho;rw[c]at hd;cases hd)).trans e) g c ih) .nil (λ_ _ a b=>.cons a b)
theorem gl.at{h:cX}:∀{ks:List TK} {vs:List cN} (j:Nat) (h1:j<ks.length) (h2:j<vs.length),gl h ks vs->fu h ks[j] vs[j]
 |_::_,_::_,0,_,_,.cons r _=>r
 |_::ks,_::vs,j+1,h1,h2,.cons _ t=>gl.at j (by simpa using h1) (by simpa using h2) t
theorem zD{xs ys:List TK}(b:xs.length=ys.length):((af (min xs.length ys.length)).all λj=>decide (xs[j]?=ys[j]?))=decide (xs=ys):=by
 by_cases h:xs=ys
 ·subst h;simp
 ·rw[ai h,List.all_eq_false];have:∃j,xs[j]? ≠ ys[j]?:=Classical.byContradiction λz=>h (List.ext_getElem? λj=>Classical.byContradiction λq=>z ⟨j,q⟩);obtain⟨j,a⟩:=this;refine⟨j,?_,by simpa using a⟩;rw[aB,b,Nat.min_self];apply Classical.byContradiction;intro c;exact a (by rw[bU (by lia),bU (by lia)])
theorem Gj:∀(n:Nat) {k k':TK} {A:cR} {s:cO} {u v:cN},k.dep<=n->A.units+n<cLine->fu s.heap k u->fu s.heap k' v->SeqAt.EqAt A s u v (decide (k=k')):=by
 intro n
 induction n with
 |zero=>
  intro k k' A s u v G Q r g;cases r with
  |tup _ _ _ _=>simp[TK.dep]at G
  |non=>
   cases g with
   |non=>simpa using SeqAt.EqAt.same (A:=A) (s:=s) Value.none
   |int i t=>simpa[sA]using jO (A:=A) (s:=s) (y:=.non) (x:=.int i) O ⟨t,O⟩ O O
   |tup e c d t=>simpa using(eD (A:=A) (s:=s) (b:=J) (v:=.non) (u:=.none) ⟨_,e,c,_,d⟩ O O (by lia)).2.1
  |int i t=>
   cases g with
   |non=>simpa[sA]using jO (A:=A) (s:=s) (y:=.int i) (x:=.non) ⟨t,O⟩ O O O
   |int j I=>
    have:=jO (A:=A) (s:=s) (y:=.int i) (x:=.int j) ⟨t,O⟩ ⟨I,O⟩ O O;have e:sA (.int i) (.int j)=decide (TK.int i=TK.int j):=by
     by_cases h:i=j
     ·subst h;simp[sA]
     ·rw[ai (λz=>h (by injection z))];simp[sA,h]
    rw[e]at this;exact this
   |tup e c d q=>simpa using(eD (A:=A) (s:=s) (b:=J) (v:=.int i) (u:=.int i t) ⟨_,e,c,_,d⟩ ⟨t,O⟩ O (by lia)).2.1
 |succ n ih=>
  intro k k' A s u v G Q r g;cases r with
  |non=>
   cases g with
   |non=>simpa using SeqAt.EqAt.same (A:=A) (s:=s) Value.none
   |int i t=>simpa[sA]using jO (A:=A) (s:=s) (y:=.non) (x:=.int i) O ⟨t,O⟩ O O
   |tup e c d t=>simpa using(eD (A:=A) (s:=s) (b:=J) (v:=.non) (u:=.none) ⟨_,e,c,_,d⟩ O O (by lia)).2.1
  |int i t=>
   cases g with
   |non=>simpa[sA]using jO (A:=A) (s:=s) (y:=.int i) (x:=.non) ⟨t,O⟩ O O O
   |int j I=>
    have:=jO (A:=A) (s:=s) (y:=.int i) (x:=.int j) ⟨t,O⟩ ⟨I,O⟩ O O;have e:sA (.int i) (.int j)=decide (TK.int i=TK.int j):=by
     by_cases h:i=j
     ·subst h;simp[sA]
     ·rw[ai (λz=>h (by injection z))];simp[sA,h]
    rw[e]at this;exact this
   |tup e c d q=>simpa using(eD (A:=A) (s:=s) (b:=J) (v:=.int i) (u:=.int i t) ⟨_,e,c,_,d⟩ ⟨t,O⟩ O (by lia)).2.1
  | @tup a o f m xs w p l F=>
   cases g with
   |non=>simpa using(eD (A:=A) (s:=s) (b:=J) (v:=.non) (u:=.none) ⟨_,w,p,_,l⟩ O O (by lia)).1
   |int i t=>simpa using(eD (A:=A) (s:=s) (b:=J) (v:=.int i) (u:=.int i t) ⟨_,w,p,_,l⟩ ⟨t,O⟩ O (by lia)).1
   | @tup a2 S items2 m2 ys au P L C=>
    by_cases K:a=a2
    ·subst K;have:TK.tup xs=TK.tup ys:=fu.inj (.tup w p l F) (.tup au P L C);rw[ah this];exact .same _
    ·refine .of_refs K ?_;have am:=F.split;have N:=C.split;have D:=SeqAt.RcAt.tuples (A:=A) (s:=s) (e:=fun j=>decide (xs[j]? = ys[j]?)) ⟨o,w,p,m,l⟩ ⟨S,au,P,m2,L⟩ (by lia) (fun j h1 h2=>by
      have H:j<xs.length:=by rw[am];simpa using h1
      have ao:j<ys.length:=by rw[N];simpa using h2
      rw[TK.dep]at G;have V:=TK.dep_mem (bP H);have q:=ih (k:=xs[j]) (k':=ys[j]) (A:=A.in1) (s:=s) (by lia) (by show A.units+1+n<cLine;lia) (F.at j H (by simpa using h1)) (C.at j ao (by simpa using h2));have e:decide (xs[j]?=ys[j]?)=decide (xs[j]=ys[j]):=by
       rw[gG1 H,gG1 ao];simp
      rw[e];simpa using q)
     have U:f.size=xs.length:=by rw[am];simp
     have T:items2.size=ys.length:=by rw[N];simp
     rw[U,T]at D;have E:((af (min xs.length ys.length)).all (λj=>decide (xs[j]?=ys[j]?))&&xs.length == ys.length)=decide (TK.tup xs=TK.tup ys):=by
      by_cases B:xs.length=ys.length
      ·rw[zD B,B,beq_self_eq_true,bJ];by_cases h:xs=ys
       ·subst h;simp
       ·rw[ai h,ai (λz=>h (by injection z))]
      ·have R:(xs.length == ys.length)=J:=by simpa using B
       rw[R,Bool.and_false,ai (λz=>B (by injection z with z;rw[z]))]
     rw[E]at D;exact D
theorem xN{prog:cQ}{w:cS}:∀(n:Nat) {k:TK} {A:cR} {E:cN->cO->Prop} {s:cO} {v:cN} {Q:Bool->cO->Prop},k.dep<=n->fu s.heap k v->Q M s->cW (model prog w) A (eqIsQuiet n v) Q E s:=by
 intro n
 induction n with
 |zero=>
  intro k A E s v Q d r h;cases r with
  |non=>rw[eqIsQuiet_byValue 0 O];exact wP1 h
  |int i t=>rw[eqIsQuiet_byValue 0 O];exact wP1 h
  |tup _ _ _ _=>simp[TK.dep]at d
 |succ n ih=>
  intro k A E s v Q d r h;cases r with
  |non=>rw[eqIsQuiet_byValue _ O];exact wP1 h
  |int i t=>rw[eqIsQuiet_byValue _ O];exact wP1 h
  | @tup a o b m xs f q p y=>
   have g:s.TypeIs (.ref a) "tuple":=⟨o,f,q⟩;rw[TK.dep]at d;unfold eqIsQuiet;refine wB1 (wpAny_specialOf g F.slot_tuple_eq.lookup ?_);show cW _ _ (isInstance (.ref a) (.type "tuple") >>= _) _ _ s;refine wB1 (wpAny_isInstance g isSubtype_tuple_tuple ?_);simp only[bV,bF1,if_false];refine wB1 (wpAny_seqItems f p ?_);refine wB1 ?_;show cW _ _ (forIn b _ _) _ _ s;rw[<- Array.forIn_toList];refine wpAny_forIn_list _ (λrest r s'=>r.1=Y/\s'=s /\ ∃ks,gl s.heap ks rest/\TK.depAll ks<=n) _ ?_ ?_ _ _ ⟨O,O,xs,y,by lia⟩
   ·rintro v rest r s' ⟨c,rfl,ks,x,l⟩;cases x with
    | @cons z _ e _ u j=>
     rw[TK.depAll]at l;refine wB1 (ih (k:=z) (by lia) u ?_);simp only[bV,bF1,if_false];exact wP1 ⟨O,O,e,j,by lia⟩
   ·rintro⟨B,r2⟩ s' ⟨c,rfl,_⟩;simp only at c;subst c;exact wP1 h
noncomputable def fy(prog:cQ)(w:cS):HeapKind prog w TK where
 is:=λh k a=>fu h k (.ref a)/\k.dep<=8
 hash:=TK.hash
 draws:=TK.draws
 room:=λA=>A.units+8<cLine
 inj:=λhx hy=>hx.1.inj hy.1
 keeps:=λx ho hd hs=>⟨x.1.keeps ho hd hs,x.2⟩
 pyHash:=λhu hk h=>u5 _ (by have:=hk.2;omega) hk.1 h
 eqBool:=λhu hx hy h=>Gj 8 hx.2 hu hx.1 hy.1 _ _ _ _ h
 quiet:=λhk h=>xN 8 hk.2 hk.1 h
section
open PySem.MeetsSeq PySem.MeetsSeq2 PySem.MeetsSeq3 PySem.SeqRoads2
end
section
variable{X:Cx}
end
mutual
noncomputable def kD:D->Option TK
 | .non=>Z .non
 | .int i=>Z (.int i)
 | .tup xs=>(F7 xs).map .tup
 |_=>Y
noncomputable def F7:List D->Option (List TK)
 |[]=>Z []
 |x::xs=>(kD x).bind λk=>(F7 xs).map (k :: ·)
end
noncomputable def keyT:D->Option TK
 | .tup xs=>(F7 xs).bind λks=>if(TK.tup ks).dep<=8 then Z (.tup ks)else Y
 |_=>Y
mutual
theorem F8:∀{d:D} {k:TK},kD d=Z k->tkD k=d
 | .non,k,h=>by cases h;rfl
 | .int i,k,h=>by cases h;rfl
 | .tup xs,k,h=>by
  rw[kD]at h;obtain⟨ks,e,h⟩:=oM1.mp h;subst h;rw[tkD,tO e]
 | .bl _,k,h=>by simp[kD]at h
 | .str _,k,h=>by simp[kD]at h
 | .rol _,k,h=>by simp[kD]at h
 | .fn _,k,h=>by simp[kD]at h
 | .ref _,k,h=>by simp[kD]at h
theorem tO:∀{ds:List D} {ks:List TK},F7 ds=Z ks->iM ks=ds
 |[],ks,h=>by cases h;rfl
 |x::xs,ks,h=>by
  rw[F7]at h;obtain⟨k,a,h⟩:=oB1.mp h;obtain⟨t,b,h⟩:=oM1.mp h;subst h;rw[iM,F8 a,tO b]
end
theorem uU{d:D}{k:TK}(h:keyT d=Z k):tkD k=d/\k.dep<=8 /\ ∃xs,k = .tup xs:=by
 cases d with
 |tup xs=>
  rw[keyT]at h;obtain⟨ks,e,h⟩:=oB1.mp h;split at h
  ·rename_i a;cases h;exact⟨by rw[tkD,tO e],a,ks,O⟩
  ·cases h
 |_=>cases h
section
variable{X:Cx}{ag:List (cP×Obj)}{σ:L2.St}{H:Hp}{s:cO}{mu:List cP}
mutual
theorem uv(I:Inv X ag σ H s):∀(k:TK) {v:V} {u:cN},d3 X.K H mu (tkD k) v->dy v u->fu s.heap k u
 | .non,v,u,r,q=>by
  rw[tkD]at r;cases r;cases q;exact .non
 | .int i,v,u,r,q=>by
  rw[tkD]at r;cases r;obtain⟨t,rfl⟩:=q;exact .int i t
 | .tup xs,v,u,r,q=>by
  rw[tkD]at r;cases r with
  |tup h t=>
   cases q;obtain⟨a,c,⟨o,b,e,n,d⟩,_⟩:=I.tuple h;exact .tup b e d (by simpa using xm I xs t c)
theorem xm(I:Inv X ag σ H s):∀(ks:List TK) {vs:List V} {a:List cN},df X.K H mu (iM ks) vs->dG vs a->gl s.heap ks a
 |[],vs,a,r,q=>by rw[iM]at r;cases r;cases q;exact .nil
 |k::ks,vs,a,r,q=>by
  rw[iM]at r;cases r with
  |cons r t=>cases q with
   |cons q p=>exact .cons (uv I k r q) (xm I ks t p)
end
theorem tj{α β γ δ:Type}{F:α->β->Prop}{G:γ->δ->Prop}{f:α->γ}{g:β->δ}:∀{l₁:List α} {l₂:List β},Paired F l₁ l₂->(∀a b,F a b->G (f a) (g b))->Paired G (l₁.map f) (l₂.map g):=by
 intro a b h g
 induction h with
 |nil=>exact .nil
 |cons r t ih=>exact .cons (g _ _ r) ih
theorem tm{α β:Type}{F:α->β->Prop}:∀{l₁ f:List α} {l₂ e:List β},Paired F l₁ l₂->Paired F f e->Paired F (l₁++f) (l₂++e):=by
 intro a b c d h g
 induction h with
 |nil=>exact g
 |cons r t ih=>exact .cons r ih
theorem KT.length{K:Fg1}:∀{ks:List (TK×D)} {ws:List (TK×cP×cN)},KT K H mu ks ws->ks.length=ws.length:=λh=>Paired.length h
theorem KT.mem{K:Fg1}:∀{ks:List (TK×D)} {ws:List (TK×cP×cN)},KT K H mu ks ws -> ∀x∈ws,x.1.dep<=8/\d3 K H mu (tkD x.1) (.ref x.2.1):=by
 intro ks ws a x h
 induction a with
 |nil=>cases h
 |cons r t ih=>
  rcases aE.mp h with e|e
  ·subst e;rw[<- r.1];exact⟨r.2.1,r.2.2.1⟩
  ·exact ih e
theorem KT.look{K:Fg1}{k:TK}:∀ {ks:List (TK×D)} {ws:List (TK×cP×cN)},KT K H mu ks ws ->
  (∀d,dH ks k=Z d -> ∃p v,atKey ws k=Z p/\dy v p.2/\d3 K H mu d v)/\(atKey ws k).isSome=(dH ks k).isSome:=by
 intro ks ws h
 induction h with
 |nil=>exact⟨λd h=>by simp[dH]at h,O⟩
 | @cons p i ks ws r t ih=>
  obtain⟨b,e⟩:=p;obtain⟨l,a2,c⟩:=i;obtain⟨z,d,q,v,f,r⟩:=r;dsimp only at z q f r;subst z;obtain⟨h1,h2⟩:=ih;by_cases a:b=k
  ·subst a;refine⟨λd h=>?_,by simp[atKey,dH]⟩;have:e=d:=by simpa[dH]using h
   subst this;exact⟨(a2,c),v,by simp[atKey],f,r⟩
  ·have g:dH ((b,e)::ks) k=dH ks k:=by simp[dH,bf,a]
   have j:atKey ((b,a2,c)::ws) k=atKey ws k:=by simp[atKey,bf,a]
   rw[g,j];exact⟨h1,h2⟩
theorem KT.put{K:Fg1}{k:TK}{d:D}{v:V}{a:cP}{u:cN}(hk:k.dep<=8)(l:d3 K H mu (tkD k) (.ref a))(f:dy v u)(q:d3 K H mu d v){ks:List (TK×D)}{ws:List (TK×cP×cN)}(h:KT K H mu ks ws):KT K H mu (fG ks k d) (storedH ws k a u):=by
 unfold fG storedH;have e:(ks.any λp=>decide (p.1=k))=(atKey ws k).isSome:=by
  rw[h.look.2];unfold dH;rw[bi,bN,List.find?_isSome,bO]
 rw[e];split
 ·clear e;refine tj h λp w ⟨z,g,i,m,c,j⟩=>?_;unfold putAt;by_cases b:p.1=k
  ·rw[ak b,ak (by rw[<- z];exact b)];exact⟨z,g,i,v,f,q⟩
  ·rw[aj b,aj (by rw[<- z];exact b)];exact⟨z,g,i,m,c,j⟩
 ·exact tm h (.cons ⟨O,hk,l,v,f,q⟩ .nil)
theorem rY(I:Inv X ag σ H s){a:cP}{xs:List (TK×cP×cN)}{kvs:List (TK×D)}(e:H a=Z (.ext (hR a xs)))(h:KT X.K H mu kvs xs):(a == sysModules)=J/\s.heap.DictOfH (fy X.prog X.w) a xs:=by
 obtain⟨⟨h1,h2,o,es,ep,g,d,c,f⟩,_⟩:=(show ev X.prog X.w H s.heap a (.ext (hR a xs))from I.hok a _ e);exact⟨h1,o,es,ep,g,d,c,f,λx b=>⟨uv I _ (h.mem x b).2 O,(h.mem x b).1⟩,h2⟩
theorem pM{h:cX}{a:cP}{xs:List (TK×cP×cN)}(hd:(a == sysModules)=J)(hm:h.DictOfH (fy X.prog X.w) a xs):ev X.prog X.w H h a (.ext (hR a xs)):=by
 obtain⟨o,es,ep,d,f,e,g,n,k⟩:=hm;refine⟨⟨hd,k,o,es,ep,d,f,e,g⟩,⟨o,d⟩,λp m ⟨a1,a2,o',b,c,b3,j,i,l⟩ st=>⟨a1,a2,o',b,c,st _ b3,j,i,l⟩⟩
end
noncomputable def hK:G2:=λd e S=>match e with
 | .ref n=>match S[n]? with
  |some (.dcT kvs)=>(keyT d).map λk=>(.bl (dH kvs k).isSome,S)
  |_=>tU d e S
 |_=>tU d e S
noncomputable def iB:G2:=λd e S=>match e with
 | .ref n=>match S[n]? with
  |some (.dcT kvs)=>(keyT d).map λk=>(.bl (!(dH kvs k).isSome),S)
  |_=>jj d e S
 |_=>jj d e S
noncomputable def da:G2:=λd e S=>match d with
 | .ref n=>match S[n]? with
  |some (.dcT kvs)=>(keyT e).bind λk=>(dH kvs k).map λx=>(x,S)
  |some (.dcF kvs)=>(keyT e).bind λk=>(dH kvs k).map λx=>(x,S)
  |_=>kO d e S
 |_=>kO d e S
noncomputable def gW:G3:=λo i v S=>match o with
 | .ref n=>match S[n]? with
  |some (.dcT kvs)=>(keyT i).bind λk=>if kvs.length<cV then Z (.non,S.set n (.dcT (fG kvs k v)))else Y
  |some (.dct [])=>match keyT i with
   |some k=>Z (.non,S.set n (.dcT [(k,v)]))
   |none=>kl o i v S
  |_=>kl o i v S
 |_=>kl o i v S
section
variable{X:Cx}
theorem li{κ:Type}[DecidableEq κ](kvs:List (κ×D))(k:κ)(d:D):(fG kvs k d).length<=kvs.length+1:=by
 unfold fG;split
 ·rw[lM1];lia
 ·simp
theorem zq{h:cX}{a:cP}(dd:h.DictOf (ew X.prog X.w) a []):h.DictOfH (fy X.prog X.w) a []:=by
 obtain⟨o,es,ep,h1,h2,c,_,b,_⟩:=dd;have e:es.toList=[]:=by
  generalize es.toList=l at b;cases b;rfl
 exact⟨o,es,ep,h1,h2,c,e,(λx d=>by simp at d),bq⟩
theorem je{A:cR}(a:A.units+64<cLine):(fy X.prog X.w).room A.in1:=by
 show A.units+1+8<cLine;lia
theorem jM{ag:List (cP×Obj)}{σ:L2.St}{H:Hp}{s:cO}{mu:List cP}(I:Inv X ag σ H s){d:D}{v:V}{u:cN}{k:TK}(r:d3 X.K H mu d v)(q:dy v u)(h:keyT d=some k):
  ∃a,u = .ref a/\v = .ref a/\d3 X.K H mu (tkD k) (.ref a)/\k.dep<=8/\(fy X.prog X.w).is s.heap k a:=by
 obtain⟨e,b,xs,ex⟩:=uU h;subst e;have is:=uv I k r q;subst ex;cases id is with
 | @tup a _ _ _ _ _ _ _ _=>
  rw[tkD]at r;cases r with
  |tup h1 h2=>
   cases q;exact⟨a,O,O,by rw[tkD];exact .tup h1 h2,b,is,b⟩
theorem lf(m:X.A.units+64<cLine):fj X (compareOp .In) (r2 X.K (b2 hK)):=by
 intro ag s σ H x y u w Q I l o h;obtain⟨mu,S,d,e,r,i,g,c,f,b,hc⟩:=nC h;have back:tU d e S=Z (r,i)->cW (model X.prog X.w) X.A (compareOp .In u w) (EP X ag σ Q) X.xe s:=λb=>FP m ag s σ H x y u w Q I l o ⟨mu,S,[d,e],r,i,.cons g (.cons c .nil),f,b,hc⟩;unfold hK at b;split at b
 ·rename_i n;split at b
  ·rename_i kvs p;obtain⟨k,A,b⟩:=oM1.mp b;cases b;cases c with
   |ref q=>
    cases o;obtain⟨xs,v,j,_⟩:=f.dcT p q;obtain⟨z,t⟩:=rY I v j;obtain⟨a,rfl,rfl,_,_,hi⟩:=jM I g l A;refine wpAny_in_heap (je m) hi z t ?_;exact⟨.bl (atKey xs k).isSome,H,I.tok _,O,by rw[j.look.2];exact hc.now (.bl _) f⟩
  ·exact back b
 ·exact back b
theorem q0(m:X.A.units+64<cLine):fj X (compareOp .NotIn) (r2 X.K (b2 iB)):=by
 intro ag s σ H x y u w Q I l o h;obtain⟨mu,S,d,e,r,i,g,c,f,b,hc⟩:=nC h;have back:jj d e S=Z (r,i)->cW (model X.prog X.w) X.A (compareOp .NotIn u w) (EP X ag σ Q) X.xe s:=λb=>yi m ag s σ H x y u w Q I l o ⟨mu,S,[d,e],r,i,.cons g (.cons c .nil),f,b,hc⟩;unfold iB at b;split at b
 ·rename_i n;split at b
  ·rename_i kvs p;obtain⟨k,A,b⟩:=oM1.mp b;cases b;cases c with
   |ref q=>
    cases o;obtain⟨xs,v,j,_⟩:=f.dcT p q;obtain⟨z,t⟩:=rY I v j;obtain⟨a,rfl,rfl,_,_,hi⟩:=jM I g l A;refine wpAny_notIn_heap (je m) hi z t ?_;exact⟨.bl (!(atKey xs k).isSome),H,I.tok _,O,by rw[j.look.2];exact hc.now (.bl _) f⟩
  ·exact back b
 ·exact back b
theorem Ef{ag:List (cP×Obj)}{σ:L2.St}{H:Hp}{s:cO}{mu:List cP}(I:Inv X ag σ H s){a:cP}{xs:List (TK×cP×cN)}{kvs:List (TK×D)}(e:∃o u,H a=Z (.frz o u)/\Co a xs o)(h:KT X.K H mu kvs xs):(a == sysModules)=J/\s.heap.DictOfH (fy X.prog X.w) a xs:=by
 obtain⟨o,u,e,h1,h2,d,es,ep,c,f⟩:=e;obtain⟨g,_⟩:=(show ev X.prog X.w H s.heap a (.frz o u)from I.hok a _ e);exact⟨h1,o,es,ep,g,d,c,f,λx b=>⟨uv I _ (h.mem x b).2 O,(h.mem x b).1⟩,h2⟩
theorem qP(G:X.A.units+64<cLine):Cm X (r2 X.K (b2 da)):=by
 intro value c ag s σ H x y v u Q I B K h q;obtain⟨mu,S,d,e,r,E,w,m,t,f,hc⟩:=nC h;have back:kO d e S=Z (r,E)->cW (model X.prog X.w) X.A (subscriptTail value c v u) (EP X ag σ Q) X.xe s:=λf=>ER G value c ag s σ H x y v u Q I B K ⟨mu,S,[d,e],r,E,.cons w (.cons m .nil),t,f,hc⟩ q;have i:∀kvs a xs,v = .ref a->KT X.K H mu kvs xs->s.heap.DictOfH (fy X.prog X.w) a xs->((keyT e).bind λk=>(dH kvs k).map λx=>(x,S))=Z (r,E)->cW (model X.prog X.w) X.A (subscriptTail value c v u) (EP X ag σ Q) X.xe s:=λkvs a xs P j F f=>by
  obtain⟨k,N,f⟩:=oB1.mp f;obtain⟨z,L,f⟩:=oM1.mp f;cases f;subst P;obtain⟨b,rfl,rfl,_,_,hi⟩:=jM I m K N;obtain⟨p,R,ep,au,ao⟩:=j.look.1 _ L;have am:=F.typeIs;unfold subscriptTail;refine wB1 ?_;rw[getitemInPython_of_ne am.not_modules];refine wB1 (wpAny_specialOf am PySem.F.slot_dict_getitem.lookup ?_);have l:cW (model X.prog X.w) X.A (subscripted c J (.ref a) (.ref b)) (λr g=>cW (model X.prog X.w) X.A (letTemporaryGo value (.ref a) r >>= λ_=>pure r) (EP X ag σ Q) X.xe g) X.xe s:=by
   rw[q];exact wpAny_operating (wpAny_mono (wpAny_getItem_heap (je G) hi F ep (show EP X ag σ Q p.2 _ from⟨R,H,I.tok _,au,hc.now ao t⟩)) (λr g o=>wB1 (wpAny_letTemporaryGo (wP1 o))) λ_ _ x=>x)
  first
   |exact wP1 (wB1 l)
   |exact wB1 l
   |exact l
 unfold da at f;split at f
 ·rename_i n;split at f
  ·rename_i kvs A;cases w with
   | @ref _ a C=>
    cases B;obtain⟨xs,D,j,_⟩:=t.dcT A C;exact i kvs a xs O j (rY I D j).2 f
  ·rename_i kvs A;cases w with
   | @ref _ a C=>
    cases B;obtain⟨xs,D,j,_⟩:=(show lB X.K H mu a (.dcF kvs)from t.ob n _ a A C);exact i kvs a xs O j (Ef I D j).2 f
  ·exact back f
 ·exact back f
theorem ml(E:X.A.units+64<cLine):ug X (rU X.K (b3 gW)):=by
 intro ag s σ H o i v R au u Q I B F w h;obtain⟨mu,S,ds,d,T,W,j,a,hc⟩:=id h;cases W with
 |cons C wq=>cases wq with
  |cons am U=>cases U with
   |cons p V=>
    cases V;rename_i N P y;dsimp only[b3]at a;have back:kl N P y S=Z (d,T)->cW (model X.prog X.w) X.A (setItem R au u) (λ_ s'=>∃H',Inv X ag σ H' s'/\Q H') X.xe s:=λa=>CI E ag s σ H o i v R au u Q I B F w ⟨mu,S,[N,P,y],d,T,.cons C (.cons am (.cons p .nil)),j,a,hc⟩;unfold gW at a;split at a
    ·rename_i n;split at a
     ·rename_i kvs G;obtain⟨k,ao,a⟩:=oB1.mp a;split at a
      ·rename_i hl;cases a;cases C with
       | @ref _ m g=>
        cases B;obtain⟨xs,t,l,aq⟩:=j.dcT G g;obtain⟨K,D⟩:=rY I t l;obtain⟨b,rfl,rfl,rk,x,hi⟩:=jM I am F ao;refine wpAny_setItem_heap (hsz:=aq) (je E) hi D λh' e c=>?_;have f:∃q,h'.get? _=Z q:=let ⟨q,_,_,f,_⟩:=e;⟨q,f⟩
        have put:Ext mu mu H (upd H m (.ext (hR m (storedH xs k b u)))):=Ext.put t trivial (gM1 g);refine⟨_,kq I (by rw[t];exact True.intro) c f (pM K e),hc _ mu put (j.put g t trivial ⟨_,dD,((l.put x rk w p).ext put),?_⟩)⟩;rw[<- (l.put x rk w p).length];have:=li kvs k y;lia
      ·cases a
     ·rename_i G;split at a
      ·rename_i k ao;cases a;cases C with
       | @ref _ m g=>
        cases B;obtain⟨ws,r,l⟩:=j.dct G g;cases l;obtain⟨z,K,vs,L,D⟩:=zr I.hok r;cases L;obtain⟨b,rfl,rfl,rk,x,hi⟩:=jM I am F ao;have A:s.heap.DictOfH (fy X.prog X.w) _ []:=zq D;refine wpAny_setItem_heap (hsz:=bm _) (je E) hi A λh' e c=>?_;have f:∃q,h'.get? _=Z q:=let ⟨q,_,_,f,_⟩:=e;⟨q,f⟩
        have put:Ext mu mu H (upd H m (.ext (hR m (storedH [] k b u)))):=Ext.put r trivial (gM1 g);exact⟨_,kq I (by rw[r];exact True.intro) c f (pM K e),hc _ mu put (j.put g r trivial ⟨_,dD,KT.ext put (.cons ⟨O,x,rk,v,w,p⟩ .nil),(show 1<=cV by decide)⟩)⟩
      ·exact back a
     ·exact back a
    ·exact back a
end
noncomputable def Ab(S:c6)(d:D):Option Bool:=match d with
 | .non=>Z J
 | .bl b=>Z b
 | .int i=>Z (i != 0)
 | .str y=>if y.length<=cV then Z ((y.length:Int) != 0)else Y
 | .ref n=>match S[n]? with
  |some (.dct kvs)=>Z (!kvs.isEmpty)
  |_=>(dn S d).map λp=> !p.2.isEmpty
 |_=>(dn S d).map λp=> !p.2.isEmpty
noncomputable def Jn (m:FE):FT:=λr S=>(m r S).bind λp=>(Ab p.2 p.1).map λb=>(b,p.2)
section
variable{K:Fg1}{H:Hp}{mu:List cP}{S:c6}
end
mutual
noncomputable def pyD:D->Option PyData
 | .non=>Z .none
 | .bl b=>Z (.bool b)
 | .int i=>Z (.int i)
 | .str x=>Z (.str x)
 | .tup xs=>(pyDs xs).map .tuple
 | .rol _=>Y
 | .fn _=>Y
 | .ref _=>Y
noncomputable def pyDs:List D->Option (List PyData)
 |[]=>Z []
 |d::ds=>(pyD d).bind λp=>(pyDs ds).map λps=>p::ps
end
mutual
theorem jI:∀{d:D} {p:PyData},pyD d=Z p->p.hasDict=J
 | .non,p,h=>by simp only[pyD]at h;cases h;rfl
 | .bl b,p,h=>by simp only[pyD]at h;cases h;rfl
 | .int i,p,h=>by simp only[pyD]at h;cases h;rfl
 | .str x,p,h=>by simp only[pyD]at h;cases h;rfl
 | .tup xs,p,h=>by
  simp only[pyD]at h;obtain⟨ps,e,h⟩:=oM1.mp h;cases h;simp only[PyData.hasDict];exact iS e
 | .rol _,p,h=>by simp only[pyD]at h;cases h
 | .fn _,p,h=>by simp only[pyD]at h;cases h
 | .ref _,p,h=>by simp only[pyD]at h;cases h
theorem iS:∀{ds:List D} {ps:List PyData},pyDs ds=Z ps->PyData.hasDictAll ps=J
 |[],ps,h=>by simp only[pyDs]at h;cases h;rfl
 |d::ds,ps,h=>by
  simp only[pyDs]at h;obtain⟨p,a,h⟩:=oB1.mp h;obtain⟨c,b,h⟩:=oM1.mp h;cases h;simp only[PyData.hasDictAll,jI a,iS b,Bool.or_self]
end
noncomputable def gj:G1:=λd S=>match d with
 | .tup xs=>(pyDs xs).bind λps=>if(PyData.tuple ps).showable=M/\(PyData.tuple ps).shown.length<=cV/\(PyData.tuple ps).depth<=60 then Z (.str (PyData.tuple ps).shown,S)else Y
 |_=>Y
section
variable{X:Cx}{ag:List (cP×Obj)}{σ:L2.St}{H:Hp}{s:cO}{mu:List cP}
theorem mG(I:Inv X ag σ H s):∀ {d:D} {v:V} {u:cN} {p:PyData},d3 X.K H mu d v->dy v u->pyD d=some p -> ∃ as,Reads s.heap u p as:=fun r=>r.rec (motive_1:=fun d v _=>∀ u p,dy v u->pyD d=some p -> ∃ as,Reads s.heap u p as) (motive_2:=fun ds vs _=>∀ f ps,dG vs f->pyDs ds=some ps -> ∃ as,ReadsAll s.heap f ps as)
  (λ_ _ c h=>by simp only[pyD]at h;cases h;cases c;exact⟨[],.none⟩)
  (λb _ _ c h=>by simp only[pyD]at h;cases h;cases c;exact⟨[],.bool b⟩)
  (λi _ _ c h=>by simp only[pyD]at h;cases h;obtain⟨t,rfl⟩:=c;exact⟨[],.int i t⟩)
  (λx _ _ c h=>by simp only[pyD]at h;cases h;obtain⟨t,rfl⟩:=c;exact⟨[],.str x t⟩)
  (λq _ ih _ _ c h=>by
   simp only[pyD]at h;obtain⟨ps,e,h⟩:=oM1.mp h;cases h;cases c;obtain⟨g,w,⟨o,k,hc,n,z⟩,_⟩:=I.tuple q;obtain⟨as,m⟩:=ih _ _ w e;exact⟨as,.tuple k hc z (by simpa using m)⟩)
  (λ_ _ _ _ _ _ h=>by simp only[pyD]at h;cases h) (λ_ _ _ _ h=>by simp only[pyD]at h;cases h) (λ_ _ _ _ h=>by simp only[pyD]at h;cases h)
  (λ_ _ tv h=>by simp only[pyDs]at h;cases h;cases tv;exact⟨[],.nil⟩)
  (λ_ _ a b _ _ tv h=>by
   simp only[pyDs]at h;obtain⟨p,l,h⟩:=oB1.mp h;obtain⟨A,y,h⟩:=oM1.mp h;cases h;cases tv with
   |cons v tv=>
    obtain⟨a1,j⟩:=a _ _ v l;obtain⟨a2,r2⟩:=b _ _ tv y;exact⟨_,.cons j r2⟩) _ _
theorem vQ(I:Inv X ag σ H s):∀{ds:List D} {vs:List V} {a:List cN} {ps:List PyData},df X.K H mu ds vs->dG vs a->pyDs ds=Z ps -> ∃as,ReadsAll s.heap a ps as:=by
 intro ds vs a ps d tv h
 induction d using df.ind generalizing a ps with
 |hn=>simp only[pyDs]at h;cases h;cases tv;exact⟨[],.nil⟩
 |hc r t ih=>
  simp only[pyDs]at h;obtain⟨p,c,h⟩:=oB1.mp h;obtain⟨f,e,h⟩:=oM1.mp h;cases h;cases tv with
  |cons v tv=>
   obtain⟨a1,b⟩:=mG I r v c;obtain⟨a2,r2⟩:=ih tv e;exact⟨_,.cons b r2⟩
end
section
variable{X:Cx}
theorem i9{k:Nat}(hr:fb k X.A):eG X (.builtin "repr") (rN X.K (b1 gj)):=by
 intro ag s σ H xs p Q I r h;obtain⟨x,mu,S,d,n,v,rfl,c,l,a,hc⟩:=zQ h;unfold gj at a;split at a
 ·rename_i ds;obtain⟨ps,e,a⟩:=oB1.mp a;split at a
  ·rename_i i;obtain⟨h1,h2,w⟩:=i;cases a;cases r with
   |cons f rt=>
    cases rt;have g:pyD (.tup ds)=Z (.tuple ps):=by simp only[pyD,e,oP1]
    obtain⟨as,j⟩:=mG I c f g;cases c with
    |tup q t=>
     cases f;refine repr_of_reads' j h1 (PyData.noDict_hsm (jI g)) hr.gd (by have:=hr.un;lia) (λb o z=>z) (λh' u tk m=>?_) h2;exact⟨.str _,H,I.kept m,⟨u,O⟩,hc.now (.str _) l⟩
  ·cases a
 ·cases a
noncomputable def m4:List D->Option (List Int)
 |[]=>Z []
 | .int i::ds=>(m4 ds).map λis=>i::is
 |_=>Y
noncomputable def ddI(ns:List Int):List Int:=ns.foldl step_dedup []
theorem r6:∀(ns acc:List Int),acc.Nodup->(ns.foldl step_dedup acc).Nodup
 |[],acc,h=>h
 |n::ns,acc,h=>by
  rw[aZ];refine r6 ns _ ?_;unfold step_dedup;split
  ·exact h
  ·rename_i f;rw[bx];refine⟨h,by simp,λa d b c e=>?_⟩;simp at c;apply f;rw[bO];exact⟨a,d,by simp[e,c]⟩
theorem wd{K:Fg1}{H:Hp}{mu:List cP}:∀{ds:List D} {vs:List V} {a:List cN} {ns:List Int},df K H mu ds vs->dG vs a->m4 ds=Z ns->IntsAre a ns/\ns.length=ds.length:=by
 intro ds vs a ns g b h
 induction g using df.ind generalizing a ns with
 |hn=>cases h;cases b;exact⟨.nil,O⟩
 | @hc d v ds vs r t ih=>
  cases d with
  |int i=>
   obtain⟨c,e,h⟩:=oM1.mp h;cases h;cases r;cases b with
   |cons r b=>
    obtain⟨f,j⟩:=ih b e;obtain⟨tk,rfl⟩:=r;exact⟨.cons _ _ f,by rw[lC1,lC1,j]⟩
  |_=>cases h
theorem df.rep{K:Fg1}{H:Hp}{mu:List cP}{ds:List D}{vs:List V}(r:df K H mu ds vs):∀k:Nat,df K H mu (aN k ds).flatten (aN k vs).flatten
 |0=>.nil
 |k+1=>by rw[aV,aV,aW,aW];exact df.append r (df.rep r k)
end
@[elab_as_elim] theorem I9 {P:List cN->Prop}{us:List cN}(l:us.length=0)(f:P []):P us:=by
 cases us with
 |nil=>exact f
 |cons _ _=>cases l
@[elab_as_elim] theorem Ij {P:List cN->Prop}{us:List cN}(l:us.length=1)(f:∀a,P [a]):P us:=by
 cases us with
 |nil=>cases l
 |cons a us=>exact I9 (P:=λus=>P (a::us)) (Nat.succ.inj l) (f a)
@[elab_as_elim] theorem Ii {P:List cN->Prop}{us:List cN}(l:us.length=2)(f:∀a b,P [a,b]):P us:=by
 cases us with
 |nil=>cases l
 |cons a us=>exact Ij (P:=λus=>P (a::us)) (Nat.succ.inj l) (f a)
@[elab_as_elim] theorem Ih {P:List cN->Prop}{us:List cN}(l:us.length=3)(f:∀a b c,P [a,b,c]):P us:=by
 cases us with
 |nil=>cases l
 |cons a us=>exact Ii (P:=λus=>P (a::us)) (Nat.succ.inj l) (f a)
@[elab_as_elim] theorem I7 {P:List cN->Prop}{us:List cN}(l:us.length=4)(f:∀a b c d,P [a,b,c,d]):P us:=by
 cases us with
 |nil=>cases l
 |cons a us=>exact Ih (P:=λus=>P (a::us)) (Nat.succ.inj l) (f a)
end Mi
namespace HT
open PySem PySem.Spec PyProof.Rows
variable{prog:cQ}{w:cS}{A:cR}{E:cN->cO->Prop}{s:cO}
end HT
namespace Mi
open PySem PySem.Spec PyProof.Rows L2
section
variable{X:Cx}
end
end Mi
namespace HT
open PySem PySem.Spec PyProof.Rows
section
variable{prog:cQ}{w:cS}{A:cR}{R:Result->cO->Prop}{I ax L:cP}{xs:Array cN}
end
section
variable{prog:cQ}{w:cS}{A:cR}{E:cN->cO->Prop}{s:cO}
end
end HT
namespace Mi
open PySem PySem.Spec PyProof.Rows L2
section
variable{X:Cx}
end
section
variable{elt tg iter tg2 iter2 tg3 iter3:Expr}{ifs ifs2 ifs3:List Expr}{scope:c3}{pos:Pos}
end
section
variable{X:Cx}
end
noncomputable def wf(a:Int):List Int->List Int
 |[]=>[a]
 |b::l=>if a<=b then a::b::l else b::wf a l
noncomputable def gO:List Int->List Int
 |[]=>[]
 |a::l=>wf a (gO l)
theorem kN(a:Int):∀l:List Int,(wf a l).Perm (a::l)
 |[]=>.refl _
 |b::l=>by
  rw[wf];split
  ·exact .refl _
  ·exact((kN a l).cons b).trans (.swap _ _ _)
theorem eS:∀l:List Int,(gO l).Perm l
 |[]=>.refl _
 |a::l=>(kN a _).trans ((eS l).cons a)
theorem uY{a:Int}:∀{l:List Int},l.Pairwise (· <= ·)->(wf a l).Pairwise (· <= ·)
 |[],_=>List.pairwise_singleton _ _
 |b::l,h=>by
  rw[bW]at h;rw[wf];split
  ·rename_i d;rw [bW,bW];exact ⟨fun x c=>by
    rcases aE.mp c with z|z
    ·lia
    ·have:=h.1 x z;lia,h.1,h.2⟩
  ·rename_i d;rw[bW];refine⟨λx c=>?_,uY h.2⟩;rcases aE.mp ((kN a l).mem_iff.mp c)with z|z
   ·lia
   ·exact h.1 x z
theorem jY:∀l:List Int,(gO l).Pairwise (· <= ·)
 |[]=>.nil
 |a::l=>uY (jY l)
theorem lP:∀{a b:List Int},a.Perm b->a.Pairwise (· <= ·)->b.Pairwise (· <= ·)->a=b
 |[],b,p,_,_=>(List.nil_perm.mp p).symm
 |x::a,[],p,_,_=>absurd p.length_eq (by simp)
 |x::a,y::b,p,h1,h2=>by
  rw[bW]at h1 h2;have e:x=y:=by
   have d:=p.mem_iff.mp (mS1 (a:=x) (l:=a));have f:=p.mem_iff.mpr (mS1 (a:=y) (l:=b));rcases aE.mp d with z|z
   ·exact z
   ·rcases aE.mp f with c|c
    ·exact c.symm
    ·have:=h2.1 x z;have:=h1.1 y c;lia
  subst e;rw[lP (List.perm_cons x |>.mp p) h1.2 h2.2]
noncomputable def ki:List D->Option (List Int)
 |[]=>Z []
 | .int i::l=>(ki l).map λt=>i::t
 |_=>Y
noncomputable def ji:G1:=λd S=>match d with
 | .ref n=>match S[n]? with
  |some (.lst xs)=>(ki xs).bind λns=>if ns.length<64 then Z (.ref S.length,S++[.lst ((gO ns).map D.int)])else Y
  |_=>Y
 |_=>Y
section
variable{X:Cx}
theorem ow{K:Fg1}{H:Hp}{mu:List cP}:∀{ds:List D} {vs:List V} {a:List cN} {ns:List Int},df K H mu ds vs->dG vs a->ki ds=Z ns->IntsAre a ns:=by
 intro ds
 induction ds with
 |nil=>intro vs a ns r v h;cases r;cases v;cases h;exact .nil
 |cons d ds ih=>
  intro vs a ns r v h;cases r with
  |cons f t=>
   cases v with
   |cons b c=>
    cases f
    case int i=>
     obtain⟨m,e,h⟩:=oM1.mp h;subst h;obtain⟨tk,rfl⟩:=b;exact .cons i tk (ih t c e)
    all_goals cases h
theorem oy:∀{us:List cN} {ns:List Int},IntsAre us ns->dG (ns.map V.int) us:=by
 intro us ns h
 induction h with
 |nil=>exact .nil
 |cons i t _ ih=>exact .cons ⟨t,O⟩ ih
theorem we:∀{ds:List D} {ns:List Int},ki ds=Z ns->ns.length=ds.length:=by
 intro ds
 induction ds with
 |nil=>intro ns h;cases h;rfl
 |cons d ds ih=>
  intro ns h;cases d with
  |int i=>
   obtain⟨m,e,h⟩:=oM1.mp h;subst h;rw[lC1,lC1,ih e]
  |_=>cases h
theorem sj:eG X (.builtin "sorted") (rN X.K (b1 ji)):=by
 intro ag s σ H xs E Q I r h;obtain⟨x,mu,S,d,K,L,rfl,A,i,c,hc⟩:=zQ h;cases d with
 |ref n=>
  dsimp only[ji]at c;split at c
  ·rename_i ds B;obtain⟨ns,v,c⟩:=oB1.mp c;split at c
   ·rename_i F;cases c;have e:dn S (.ref n)=Z (M,ds):=by simp only[dn,B]
    obtain⟨a,vs,rfl,q,t⟩:=dw A i e;obtain⟨u,rfl,r2⟩:=gM r;cases r2;obtain⟨g,w,z,am⟩:=I.list q;have D:=ow t w v;have y:g.length=ns.length:=by
     rw[<- w.length,<- t.length,we v]
    refine sorted_ints z.isList D (by lia) λout p k C l=>?_;have m:p=gO ns:=lP (C.trans (eS ns).symm) l (jY ns);subst m;obtain⟨ep,j⟩:=sortedAll_at s.heap g out;have f:=I.hok.fresh (aX s.heap.objs.size);refine⟨.ref (s.heap.objs.size+1),_,I.laid (t':=s.toks) (o:=.lst ((gO ns).map V.int)) (λb G q=>sortedAll_old q) (aX _) ?_,O,hc _ _ (mu++[_]) (Ext.new_ f) (.ref (gf i.len _)) (i.newL (jf _) f)⟩;refine⟨?_,out.toList,ep,oy k,by rw[bX];exact j⟩;rw[lM1,(eS ns).length_eq,sizeLine_eq];lia
   ·cases c
  ·cases c
 |_=>cases c
end
end Mi
namespace Mi
open PySem PySem.Spec PyProof.Rows L2
section
variable{X:Cx}
end
theorem nQ(n:Nat):∀ns:List Int,D.unds n (ns.map D.int)=M
 |[]=>rfl
 |_::ns=>by rw[mP1,D.unds,nQ n ns];rfl
theorem pJ{n:Nat}{d:D}{S:c6}(h:S.length=n):gc n (d,S)=(d,S):=by
 unfold gc;split
 ·rw[show(d,S).2=S from rfl,<- h,bT]
 ·rfl
theorem wB{n:Nat}{f:FN}{ds:List D}{S S1:c6}{d:D}(h:f ds []=Z (d,S1))(hn:ds.length=n)(a:D.unds 0 ds=M)(hd:d.und 0=M):c7 n f ds S=Z (d,S):=by
 unfold c7 lp;rw[ak hn,ak a,h,oP1,ak hd]
theorem i7{n:Nat}{f:FN}{ds:List D}{S S1:c6}{d:D}(h:f ds []=Z (d,S1))(hn:ds.length=n)(a:D.unds 0 ds=M)(hd:d.und 0=J):c7 n f ds S=Z (d.sh S.length,S++S1.map (Ob.sh S.length)):=by
 unfold c7 lp;rw[ak hn,ak a,h,oP1,aj (by dsimp only;rw[hd];decide)]
theorem oH{n:Nat}{f:FN}{ds:List D}{S S1:c6}{d:D}(h:f ds S=Z (d,S1))(hn:ds.length=n)(a:D.unds 0 ds=J):c7 n f ds S=Z (gc S.length (d,S1)):=by
 unfold c7 lp;rw[ak hn,aj (by rw[a];decide),h,oP1]
theorem wE{n:Nat}{f:FN}{ds:List D}{S S1:c6}{d:D}(h:f ds S=Z (d,S1))(hn:ds.length=n)(a:D.unds 0 ds=J)(b:S1.length=S.length):c7 n f ds S=Z (d,S1):=by
 rw[oH h hn a,pJ b]
theorem oh{i j:Int}(h1: -(2^64)<i)(h2:i<2^64):d8 i j=M:=by
 unfold d8;simp only[bL,bA1,al];exact .inl (.inl ⟨h1,h2⟩)
theorem rf{i j:Int}(h1: -(2^64)<j)(h2:j<2^64):d8 i j=M:=by
 unfold d8;simp only[bL,bA1,al];exact .inl (.inr ⟨h1,h2⟩)
theorem fi{S:c6}{n:Nat}{xs:List D}(h:S[n]?=Z (.lst xs)):n9 S [(n,xs)]=M:=by
 rw[n9,h];simp[D.sames_refl,n9]
noncomputable def gZ(n:Nat):Nat->List D
 |0=>[]
 |k+1=>.ref n::gZ (n+1) k
open Classical in
noncomputable def IY(ws:List cN)(x:cN):Nat:=ws.findIdx λy=>decide (y=x)
section
variable{prog:cQ}{w:cS}{A:cR}{E:cN->cO->Prop}{s:cO}{κ:SortKind}{ws:List cN}{a₀:Array Keyed}
end
section
variable{prog:cQ}{w:cS}{A:cR}{E:cN->cO->Prop}{s:cO}
end
section
variable{prog:cQ}{w:cS}{A:cR}{E:cN->cO->Prop}{R:Result->cO->Prop}
end
section
variable{prog:cQ}{w:cS}{A:cR}{E:cN->cO->Prop}{s:cO}
end
mutual
theorem xa{n:Nat}:∀k:TK,(tkD k).und n=M
 | .non=>rfl
 | .int _=>rfl
 | .tup xs=>by rw[tkD,D.und];exact ut xs
theorem ut{n:Nat}:∀ks:List TK,D.unds n (iM ks)=M
 |[]=>rfl
 |k::ks=>by rw[iM,D.unds,xa k,ut ks];rfl
end
structure Pr where
 k:TK
 d:D
 ka:cP
 u:cN
 vv:V
 a:cP
def Pr.Ok(K:Fg1)(H:Hp)(mu:List cP)(h:cX)(lo:Nat)(y:Pr):Prop:=lo<=y.a/\d3 K H mu (tkD y.k) (.ref y.ka)/\dy y.vv y.u/\d3 K H mu y.d y.vv/\h.get? y.a=Z {cls:=.type "tuple",data:=.seq #[.ref y.ka,y.u]}
section
variable{X:Cx}
end
def EI(H:Hp)(a:cP):Prop:=(∃kvs,H a=Z (.dK kvs)) \/ ∃xs,H a=Z (.ext (hR a xs))
section
variable{X:Cx}
theorem Bo{ag:List (cP×Obj)}{σ:L2.St}{H:Hp}{s:cO}{a:cP}(I:Inv X ag σ H s)(h:EI H a):(a == sysModules)=J /\ ∃o,s.heap.get? a=Z o/\o.ExactDict:=by
 rcases h with⟨kvs,e⟩|⟨xs,e⟩
 ·obtain⟨_,b,vs,_,o,es,ep,h1,h2,_⟩:=I.hok a _ e;exact⟨b,o,h1,h2⟩
 ·obtain⟨⟨b,_,o,es,ep,h1,h2,_⟩,_⟩:=(show ev X.prog X.w H s.heap a (.ext (hR a xs))from I.hok a _ e);exact⟨b,o,h1,h2⟩
end
section
variable{prog:cQ}{w:cS}{A:cR}{E:cN->cO->Prop}{s:cO}
end
section
variable{prog:cQ}{w:cS}{A:cR}{E:cN->cO->Prop}{R:Result->cO->Prop}
end
section
variable{X:Cx}
noncomputable def Hg(X:Cx)(td ty tx:TE):TE:=fun σ H Q=>td σ H λx H1=>∃a,x = .ref a/\EI H1 a/\ty σ H1 λy H2=>tx σ H2 λz H3=>
 ∀ag s u r,Inv X ag σ H3 s->dy y u->dy z r->cW (model X.prog X.w) X.A (call (.builtin "dict.get") [.ref a,u,r]) (EP X ag σ Q) X.xe s
theorem Dg {o e f:Expr}{apos cpos:Pos}{td ty tx:TE}(ho:PE X o td)(he:PE X e ty)(hf:PE X f tx)(m:M2 X o "get" apos e f cpos):PE X (.Call (.Attribute o "get" apos) [e,f] [] cpos) (Hg X td ty tx):=by
 intro ag s σ H Q I h;refine wpAny_Call_method m.base m.few m.line PySem.F.plainAttrs_dict PySem.F.slot_dict_get PySem.F.type_dict_get (eJ (ho ag s σ H _ I h) λu n ⟨x,H1,i,w,a,ex,d,r⟩=>?_);subst ex;obtain rfl:u=Value.ref a:=w;obtain⟨_,o',j,c⟩:=Bo i d;refine⟨⟨o',j,c.1⟩,λb D=>by cases D;exact⟨o',j,c.2.1⟩,?_⟩;rw[m.trees];refine Calls.callWith_builtin O (Calls.evalArgs_plain (Calls.spliced_cons (eJ (he ag n σ H1 _ i r) λt k ⟨y,H2,C,B,l⟩=>
  Calls.spliced_cons (eJ (hf ag k σ H2 _ C l) λA p ⟨z,E,v,q,g⟩=>Calls.spliced_nil ?_))))
 exact g ag p t A v B q
noncomputable def wv(S:c6)(n:Nat):Option (List (TK×D)):=match S[n]? with
 |some (.dcT kvs)=>Z kvs
 |some (.dct [])=>Z []
 |_=>Y
theorem ve{H:Hp}{mu:List cP}{S:c6}{n:Nat}{a:cP}{kvs:List (TK×D)}(hs:eF X.K H mu S)(hn:mu[n]? = some a)(h:wv S n=some kvs):
  EI H a /\ ∃xs,KT X.K H mu kvs xs /\ ∀ag σ s,Inv X ag σ H s->(a == sysModules)=J/\s.heap.DictOfH (fy X.prog X.w) a xs:=by
 unfold wv at h;split at h
 ·rename_i ks b;cases h;obtain⟨xs,h1,h2,l⟩:=hs.dcT b hn;exact⟨.inr ⟨xs,h1⟩,xs,h2,λag σ s I=>rY I h1 h2⟩
 ·rename_i b;cases h;obtain⟨ws,h1,h2⟩:=hs.dct b hn;cases h2;refine⟨.inl ⟨[],h1⟩,[],.nil,λag σ s I=>?_⟩;obtain⟨_,c,vs,e,o,es,ep,g,i,k,f⟩:=I.hok a _ h1;cases e;have d:es.toList=[]:=bY.mp (by have:=f.2.1.length;simpa using this);exact⟨c,o,es,ep,g,i,k,d,λx j=>(by cases j),bq⟩
 ·cases h
noncomputable def tN(m a b:FE):FE:=λr S=>(m r S).bind λp=>match p.1 with
 | .ref n=>(wv p.2 n).bind λ_=>(a r p.2).bind λq=>(b r q.2).bind λt=>(wv t.2 n).bind λkvs=>(keyT q.1).map λk=>((dH kvs k).getD t.1,t.2)
 |_=>Y
theorem vE {o e f:Expr}{apos cpos:Pos}{m a b:FE}(P:X.A.units+64<cLine)(ho:XE X o m)(he:XE X e a)(hf:XE X f b)(hm:M2 X o "get" apos e f cpos:=by exact⟨O,O,O,O⟩):XE X (.Call (.Attribute o "get" apos) [e,f] [] cpos) (tN m a b):=
 ⟨em (Dg ho.h he.h hf.h hm) <| by
  rintro σ H Q ⟨r,mu,S,d,S',he,au,hm,hc⟩;obtain⟨⟨N,E⟩,V,hm⟩:=oB1.mp hm;refine⟨r,mu,S,N,E,he,au,V,λv1 H1 mu1 j T am=>?_⟩;dsimp only at hm;split at hm
  ·rename_i n;obtain⟨kv0,y,hm⟩:=oB1.mp hm;cases T with
   | @ref _ F G=>
    refine⟨F,O,(ve am G y).1,?_⟩;obtain⟨⟨R,K⟩,wq,hm⟩:=oB1.mp hm;obtain⟨⟨ao,aq⟩,W,hm⟩:=oB1.mp hm;refine⟨r,mu1,E,R,K,he.ext j,am,wq,λv2 H2 B i r2 L=>?_⟩;refine⟨r,B,K,ao,aq,(he.ext j).ext i,L,W,λv3 l g h r3 q=>?_⟩;obtain⟨kvs,U,hm⟩:=oB1.mp hm;obtain⟨k,ek,hm⟩:=oM1.mp hm;cases hm;intro ag s u w I ru x;obtain⟨_,xs,D,hd⟩:=ve q (h.at (i.at G)) U;obtain⟨t,C⟩:=hd ag σ s I;obtain⟨b,rfl,rfl,_,_,hi⟩:=jM I (r2.ext h) ru ek;refine call_meetsIn PySem.F.slot_dict_get C.typeIs PySem.F.entry_dict_get (PySem.F.args_dict_get_3 _ _ _) (meetsH_dict_get_default (fy X.prog X.w) F b t w) ⟨je P,k,xs,hi,C,?_⟩;show EP X ag σ Q (((atKey xs k).map (·.2)).getD w) _;cases ez:dH kvs k with
    |none=>
     have c:=(D.look (k:=k)).2;rw[ez]at c hc;have A:atKey xs k=Y:=by
      cases A:atKey xs k with
      |none=>rfl
      |some _=>rw[A]at c;cases c
     rw[A];exact⟨v3,l,I.tok _,x,hc _ l g ((j.trans i).trans h) r3 q⟩
    |some z=>
     obtain⟨p,v,e4,rv,rd⟩:=D.look.1 z ez;rw[ez]at hc;rw[e4];exact⟨v,l,I.tok _,rv,hc _ l g ((j.trans i).trans h) rd q⟩
  ·cases hm⟩
end
section
variable{X:Cx}{ag:List (cP×Obj)}{σ:L2.St}{H:Hp}{s:cO}{a:cP}{u v:HO}
end
section
variable{K:Fg1}{H H':Hp}{mu mu':List cP}{S:c6}{n:Nat}{a:cP}{o:Obj}{u:HO}
end
theorem ue.lt{xs:Array Nat}(h:ue xs){a b u v:Nat}(e:a<b)(c:xs[a]?=Z u)(d:xs[b]?=Z v):u<v:=by
 rw[<- aT1]at c d;obtain⟨g,c⟩:=gE1.mp c;obtain⟨f,d⟩:=gE1.mp d;have:=List.pairwise_iff_getElem.mp h a b g f e;rw[c,d]at this;exact this
structure Bs (xs:Array Nat)(j i:Nat):Prop where
 le:i<=xs.size
 lo:∀k v,xs[k]?=some v->k<i->v<j
 hi:∀k v,xs[k]?=some v->i<=k->j<=v
theorem Bs.uniq{xs:Array Nat}{j i i':Nat}(h:Bs xs j i)(h':Bs xs j i'):i=i':=by
 rcases Nat.lt_trichotomy i i' with z|z|z
 ·have a:i<xs.size:=nL1 z h'.le;have e:=aG1 a;have:=h.hi _ _ e (nR1 _);have:=h'.lo _ _ e z;lia
 ·exact z
 ·have a:i'<xs.size:=nL1 z h.le;have e:=aG1 a;have:=h'.hi _ _ e (nR1 _);have:=h.lo _ _ e z;lia
theorem zx{xs:Array Nat}{j:Nat}(hr:ue xs):∀n lo hi:Nat,lo<=hi->hi<=xs.size->hi-lo<=n->(∀k v,xs[k]?=Z v->k<lo->v<j)->(∀k v,xs[k]?=Z v->hi<=k->j<=v)->Bs xs j (SetTable.below.go xs j n lo hi)
 |0,lo,hi,h1,h2,i,c,a=>by
  have:lo=hi:=by lia
  subst this;exact⟨h2,c,a⟩
 |n + 1,lo,hi,h1,h2,i,c,a=>by
  rw[SetTable.below.go];by_cases f:lo<hi
  ·rw[ak f];have d:(lo+hi)/2<xs.size:=by lia
   have b:=aG1 d;have g:xs.getD ((lo+hi)/2) j=xs[(lo+hi)/2]:=by simp[Array.getD,d]
   dsimp only;rw[g];by_cases hc:xs[(lo+hi)/2]<j
   ·rw[ak hc];refine zx hr n _ _ (by lia) h2 (by lia) (λk v e h=>?_) a;rcases bR k ((lo+hi)/2)with z|z
    ·have:=hr.lt z e b;lia
    ·have:k=(lo+hi)/2:=by lia
     subst this;rw[b]at e;cases e;exact hc
   ·rw[aj hc];refine zx hr n _ _ (by lia) (by lia) (by lia) c λk v e h=>?_;rcases bR ((lo+hi)/2) k with z|z
    ·have:=hr.lt z b e;lia
    ·have:k=(lo+hi)/2:=by lia
     subst this;rw[b]at e;cases e;lia
  ·rw[aj f];have:lo=hi:=by lia
   subst this;exact⟨h2,c,a⟩
theorem nq{xs:Array Nat}(hr:ue xs)(j:Nat):Bs xs j (SetTable.below xs j):=
 zx hr _ 0 _ (bm _) (nR1 _) (by lia) (λ_ _ _ h=>absurd h (bw _)) λk v e h=>by
  have:=(Array.getElem?_eq_some_iff.mp e).1;lia
theorem yT{α:Type}(xs:Array α)(p:Nat)(x:α):(SetTable.insertAt xs p x).toList=xs.toList.take p++x::xs.toList.drop p:=by
 unfold SetTable.insertAt;rw[Array.toList_append,bZ,Array.toList_extract,Array.toList_extract];simp[List.extract_eq_drop_take];rw[b0 (by simp)]
theorem Ak{xs:Array Nat}(hr:ue xs){j:Nat}(hn:xs[SetTable.below xs j]? ≠ Z j):ue (SetTable.insertAt xs (SetTable.below xs j) j):=by
 have b:=nq hr j;unfold ue;rw[yT,List.pairwise_append,bW];have lo:∀v∈xs.toList.take (SetTable.below xs j),v<j:=λv h=>by
  obtain⟨k,d⟩:=br h;rw[List.getElem?_take]at d;split at d
  ·rename_i g;exact b.lo k v (by rw[<- aT1];exact d) g
  ·cases d
 have hi:∀v∈xs.toList.drop (SetTable.below xs j),j<v:=λv h=>by
  obtain⟨k,d⟩:=br h;rw[List.getElem?_drop,aT1]at d;have h1:=b.hi _ v d (bt _ _);rcases bR j v with z|z
  ·exact z
  ·exfalso;have f:v=j:=by lia
   subst f;cases k with
   |zero=>exact hn d
   |succ k=>
    have l:SetTable.below xs v<xs.size:=by have:=(Array.getElem?_eq_some_iff.mp d).1;lia
    have e:=aG1 l;have:=b.hi _ _ e (nR1 _);have:=hr.lt (by lia) e d;lia
 refine⟨hr.sublist (aS _ _),⟨hi,hr.sublist (List.drop_sublist _ _)⟩,λa i c hc=>?_⟩;rcases aE.mp hc with z|z
 ·rw[z];exact lo a i
 ·exact bj (lo a i) (hi c z)
structure TS (l:Bool)(t:SetTable):Prop where
 up:ue t.place
 du:t.dummies = #[]
 ld:t.led=l
theorem re{t:SetTable}(hd:t.dummies = #[])(j:Nat):SetTable.has t.dummies j=J:=by rw[hd];rfl
theorem nT{t:SetTable}(hd:t.dummies = #[]){f:Nat->Int}{h:Int}:∀(n:Nat) (p:SetTable.Probe) (j:Nat) (d:Option Nat),p.dummy=Y->SetTable.probe.go t f h n p=Z (.empty j d)->d=Y/\t.place[SetTable.below t.place j]? ≠ Z j
 |0,p,j,d,_,e=>by rw[SetTable.probe.go]at e;cases e
 |n+1,p,j,d,hp,e=>by
  have a:(t.advance p).dummy=Y:=by
   unfold SetTable.advance;split
   ·exact hp
   ·dsimp only;exact hp
  rw[SetTable.probe.go]at e;unfold SetTable.slot at e;dsimp only at e;rw[re hd]at e;by_cases hc:(t.place[SetTable.below t.place p.j]? == Z p.j)=M
  ·rw[ak hc]at e;dsimp only at e;split at e
   ·cases e
   ·exact nT hd n _ j d a e
  ·rw[aj hc,aj (by decide)]at e;dsimp only at e;cases e;refine⟨hp,λz=>hc ?_⟩;rw[z];simp
theorem BA{t:SetTable}(hd:t.dummies = #[]){h:Int}{j:Nat}{b:Bool}(e:t.freeSlot h=Z (j,b)):t.place[SetTable.below t.place j]? ≠ Z j:=by
 unfold SetTable.freeSlot at e;split at e
 ·rename_i c d ep;obtain⟨rfl,a⟩:=nT hd _ _ _ _ O ep;cases e;exact a
 ·cases e
theorem jX{l:Bool}{t:SetTable}(h:TS l t)(n:Nat):TS l (t.standIn n):=by
 refine⟨?_,O,h.ld⟩;show(Array.range n).toList.Pairwise (· < ·);rw[Array.toList_range];exact b4
theorem EY{l:Bool}{t:SetTable}(h:TS l t)(n:Nat):TS l (t.orStandIn n):=by
 unfold SetTable.orStandIn;split
 ·exact h
 ·exact jX h n
theorem CA{l:Bool}{t:SetTable}(ht:TS l t)(es:Array (Int×cN))(h:Int)(x:cN):TS l (layNew t es h x).2.1:=by
 unfold layNew;split
 ·rename_i j b e;show TS l ((t.put j).1.orStandIn _);refine EY (t:=(t.put j).1) ⟨?_,?_,ht.ld⟩ _
  ·exact Ak ht.up (BA ht.du e)
  ·show(if SetTable.has t.dummies j=M then _ else t.dummies) = #[];rw[re ht.du,aj (by decide)];exact ht.du
 ·exact jX ht _
theorem pK{α:Type}(f:Nat->Option α):∀l:List Nat,((l.filterMap λj=>(f j).map (j,·)).map (·.1)).Sublist l
 |[]=>.slnil
 |a::l=>by
  rw[aD];cases f a with
  |none=>exact(pK f l).cons a
  |some x=>exact(pK f l).cons₂ a
theorem Aa{l p:Bool}{m d b:Nat}{hs:Array Int}{t:SetTable}{a:Array Nat}(e:SetTable.laid m d b l p hs=Z (t,a)):TS l t:=by
 unfold SetTable.laid at e;obtain⟨c,_,e⟩:=oB1.mp e;cases e;refine⟨?_,O,O⟩;unfold ue;dsimp only;exact List.pairwise_lt_range.sublist (by simpa using pK (λj=>c.getD j Y) (af (m+1)))
theorem xh{l:Bool}{t:SetTable}(ht:TS l t)(es:Array (Int×cN))(n:Nat):TS l (relayAll t es n).2.1:=by
 unfold relayAll;split
 ·rename_i b a e;dsimp only;split
  ·have:=Aa e;rw[ht.ld]at this;exact this
  ·exact jX ht _
 ·exact jX ht _
theorem xi(l:Bool):TS l (SetTable.fresh 0 0 l):=⟨List.Pairwise.nil,O,O⟩
theorem BN{xs:Array Nat}(hr:ue xs){i:Nat}(hi:i<xs.size):SetTable.below xs (xs[i]+1)=i+1:=by
 refine(nq hr _).uniq ⟨hi,λk v e a=>?_,λk v e a=>?_⟩
 ·rcases bR k i with z|z
  ·have:=hr.lt z e (aG1 hi);lia
  ·have:k=i:=by lia
   subst this;rw[aG1 hi]at e;cases e;lia
 ·have:=hr.lt (show i<k by lia) (aG1 hi) e;lia
theorem zw{xs:Array Nat}(hr:ue xs):SetTable.below xs 0=0:=
 (nq hr _).uniq ⟨bm _,λk v e a=>absurd a (bw _),λk v e a=>bm _⟩
noncomputable def Hz(e:Int×cN):Int:=match e.2 with
 | .int k _=>k
 |_=>0
structure Els (es:Array (Int×cN))(ns:List Int):Prop where
 el:∀e∈es.toList,∃k t,e=(hashInt k,Value.int k t)
 pm:(es.toList.map Hz).Perm ns
theorem Els.of{P:cQ}{w:cS}{es:Array (Int×cN)}{ns:List Int}(h:Els es ns):ElemsOf (intKind P w) es.toList:=λe a=>by
 obtain⟨k,t,rfl⟩:=h.el e a;exact⟨⟨k,intKind_is _ _ _ _,O⟩,O⟩
theorem Els.size{es:Array (Int×cN)}{ns:List Int}(h:Els es ns):es.size=ns.length:=by
 have:=h.pm.length_eq;rw[lM1,aI]at this;exact this
theorem Els.perm{es fs:Array (Int×cN)}{ns:List Int}(h:Els es ns)(p:fs.toList.Perm es.toList):Els fs ns:=
 ⟨λe a=>h.el e (p.mem_iff.mp a),(p.map _).trans h.pm⟩
theorem Els.add{es fs:Array (Int×cN)}{ns:List Int}(h:Els es ns){k:Int}{t:Tok}(p:fs.toList.Perm (es.push (hashInt k,.int k t)).toList):Els fs (ns++[k]):=by
 rw[bZ]at p;refine⟨λe a=>?_,?_⟩
 ·rcases aF.mp (p.mem_iff.mp a)with z|z
  ·exact h.el e z
  ·simp at z;exact⟨k,t,z⟩
 ·refine(p.map _).trans ?_;rw[b5];exact h.pm.append (.refl _)
def jc(b:Bool)(p:cP)(ns:List Int)(h:cX):Prop:=∃es ep t l,h.get? p=Z (stO es ep t)/\Els es ns/\es.size<scanBound/\t.fits es.size=M/\TS l t/\(b=J->l=M)
section
variable{P:cQ}{w:cS}{A:cR}{E:cN->cO->Prop}{s:cO}{b:Bool}{p:cP}{ns:List Int}
theorem xP{es fs:Array (Int×cN)}{ep:Nat}{t u:SetTable}{h:cX}(e:h.get? p=Z (stO es ep t)):(h.update p (Obj.putSet fs u)).get? p=Z (stO fs (ep+1) u):=by
 have:=hW1 (Obj.putSet fs u) e (by rw[putSet_of fs u O];rfl);rw[putSet_of fs u O]at this;exact this
theorem gw{c:Bool}{Q:Unit->cO->Prop}(q:Q () s):cW (model P w) A (match c with
  |true=>rule "set.scan.the-table-gave-way"
  |false=>pure ()) Q E s:=by cases c<;>first|exact wP1 q|exact wpAny_rule q
theorem HL{k:Int}{tk:Tok}{Q:Bool->cO->Prop}(W:jc b p ns s.heap)(hr:ns.length+1<scanBound)(q:∀c h',Heap.SameBut p s.heap h'->jc b p (step_dedup ns k) h'->Q c {s with heap:=h'}):cW (model P w) A (setAddHashed p (.int k tk) (hashInt k)) Q E s:=by
 obtain⟨es,ep,t,l,m,a,au,B,ao,H⟩:=W;have hz:=a.size;have el:ElemsOf (intKind P w) es.toList:=a.of;unfold setAddHashed setAddHashedIn;refine wpAny_holding (wB1 (wpAny_setState_of m O B ?_));dsimp only;rw[byScan_of (knd:=intKind P w) O au el,ak O];unfold setAddByScan;refine wB1 (wB1 (wpAny_rule (wB1 (wpAny_setScan_of (knd:=intKind P w) (k:=k) (intKind_is _ _ _ _) m O B el ?_))));cases hx:List.findIdx? (λe=>(intKind P w).is k e.2) es.toList with
 |some j=>
  obtain⟨N,i,_⟩:=List.findIdx?_eq_some_iff_getElem.mp hx;have D:k∈ns:=by
   refine a.pm.mem_iff.mp (b6.mpr ⟨_,bP N,?_⟩);obtain⟨k',aq,e⟩:=a.el _ (bP N);rw[e]at i ⊢;exact((intKind P w).inj _ _ _ i (intKind_is P w k' aq)).symm
  have am:step_dedup ns k=ns:=by unfold step_dedup;rw[ak (bO.mpr ⟨k,D,by simp⟩)]
  rw[am]at q;exact wP1 (wP1 (q _ s.heap (Heap.SameBut.refl p s.heap) ⟨es,ep,t,l,m,a,au,B,ao,H⟩))
 |none=>
  have am:step_dedup ns k=ns++[k]:=by
   unfold step_dedup;rw[aj λz=>?_];obtain⟨k',D,e⟩:=bO.mp z;have e:=beq_iff_eq.mp e;subst e;obtain⟨x,h,d⟩:=b6.mp (a.pm.mem_iff.mpr D);obtain⟨o,g,rfl⟩:=a.el x h;have d:o=k':=d;subst d;have:=List.findIdx?_eq_none_iff.mp hx _ h;rw[show(intKind P w).is o (hashInt o,Value.int o g).2=M from intKind_is _ _ _ _]at this;cases this
  rw[am]at q;have C:=layNew_perm t es (hashInt k) (.int k tk);have F:=layNew_fits t es (hashInt k) (.int k tk);have y:=CA ao es (hashInt k) (.int k tk);dsimp only;generalize layNew t es (hashInt k) (.int k tk)=L at C F y ⊢;obtain⟨fs,u,X,wq⟩:=L;dsimp only at C F y ⊢;have n:Els fs (ns++[k]):=a.add C;have I:fs.size<scanBound:=by rw[n.size,lA1];exact hr
  refine wB1 (gw ?_);have tail:∀ (c:Bool),cW (model P w) A (do
    storeSet p fs u
    if (!X&&u.tooFull)=true then do
      (match (relayAll u fs (SetTable.grown fs.size)).2.2 with
       |true=>rule "set.scan.the-table-gave-way"
       |false=>pure ())
      storeSet p (relayAll u fs (SetTable.grown fs.size)).1 (relayAll u fs (SetTable.grown fs.size)).2.1
      pure (Z M)
     else pure (Z M)) (λr s'=>cW (model P w) A (match r with
      |some f=>pure f
      |none=>setAddHashedIn p (.int k tk) (hashInt k) 99999) Q E s') E s:=λ_=>by
   refine wB1 (wpAny_storeSet_of m O ?_ (fits_of_scanBound I));have K:=xP (fs:=fs) (u:=u) m;have U:=Heap.SameBut.update s.heap p (Obj.putSet fs u);split
   ·have p2:=relayAll_perm u fs (SetTable.grown fs.size);have G:=relayAll_fits u fs (SetTable.grown fs.size);have g:=xh y fs (SetTable.grown fs.size);generalize relayAll u fs (SetTable.grown fs.size)=L2 at p2 G g ⊢;obtain⟨R,v,V⟩:=L2;dsimp only at p2 G g ⊢;have T:=n.perm p2;have S:R.size<scanBound:=by rw[T.size,<- n.size];exact I
    refine wB1 (gw (wB1 (wpAny_storeSet_of K O ?_ (fits_of_scanBound S))));exact wP1 (wP1 (q _ _ (U.trans (Heap.SameBut.update _ p _)) ⟨R,_,v,l,xP K,T,S,G,g,H⟩))
   ·exact wP1 (wP1 (q _ _ U ⟨fs,_,u,l,K,n,I,F,y,H⟩))
  split
  ·refine wB1 (wP1 ?_);exact tail M
  ·refine wB1 (wP1 ?_);exact tail M
end
section
variable{P:cQ}{w:cS}{A:cR}{E:cN->cO->Prop}{s:cO}
noncomputable def byT(w:cS):Bool:=w.params.followText "set-order"
theorem AW(x:cN){G:cN->cO->Prop}(q:G (.ref s.heap.objs.size) {s with heap:=s.heap.push (stO #[] 0 (.fresh 0 0 (!byT w)))}):
  codeAny (model P w) A (.call (.builtin "set.__new__") ⟨[.type "set",x],[]⟩) (wants G E) s:=by
 refine codeAny_of_tree (?_:cW _ A.in1 (do checkBuiltinCall "set.__new__" ⟨[.type "set",x],[]⟩;again (.builtin "set.__new__" ⟨[.type "set",x],[]⟩)) _ _ s);refine wB1 (wpAny_of_eq (PySem.F.newCall_set_1 x) (wP1 ⟨plainId_quiet PySem.F.plain_set_new _,wD1 PySem.F.entry_set_new (?_:_)⟩));rw[Around.under_plainId PySem.F.plain_set_new _];unfold Builtin.«set.__new__» Builtin.Frozenset.newClass;have a:=sub_set_self;obtain⟨b,g,d,tk,c⟩:=s;dsimp only
 wp_walk
 refine wpAny_askSetting (wP1 (?_:_));dsimp only;simp only[newObj];exact wB1 (wpAny_alloc (wP1 (wP1 q)))
set_option maxHeartbeats 3200000 in
theorem t0 {l:cP}{its:Array cN}{Q:cN->cO->Prop}(B:s.heap.IsList l its)
  (d:∀h:cR,h.handled=A.handled->h.units<=A.units+2 -> ∀R:Result->cO->Prop,(∀s',Q (.ref s.heap.objs.size) s'->R (.ok (.ret .none)) s') ->
   codeAny (model P w) h (.builtin "set.update.loop" ⟨[.ref s.heap.objs.size,.ref (s.heap.objs.size+1)],[]⟩) R {s with heap:=(s.heap.push (stO #[] 0 (.fresh 0 0 (!byT w)))).push {cls:=.type "list_iterator",data:=.fields #[.ref l,.int 0 0]}}):
  cW (model P w) A (call (.type "set") [.ref l]) Q E s:=by
 obtain⟨V,am,m⟩:=PySem.F.called_set.mro;have g:=PySem.F.called_set.made;have n:=PySem.F.called_set.sub
 refine wpAny_call (codeAny_of_tree (?_:cW _ _ (callAny (.type "set") _) _ _ _));refine wP1 ⟨Code.quiet_builtin _ (by decide+kernel),wD1 PySem.F.entry_type_call (?_:_)⟩;rw[Around.under_plain (weight_type_call_type "set" [.ref l] []) O];have K:=PySem.F.called_set.notType;have U:=PySem.F.called_set.canCreate;have T:=PySem.F.typeCall_set_1 (.ref l)
 repeat(any_goals (first|wp_step|assumption))
 refine codeAny_mono (AW (.ref l) (E:=E) (G:=λx p=>x = .ref s.heap.objs.size/\p={s with heap:=s.heap.push (stO #[] 0 (.fresh 0 0 (!byT w)))}) ⟨O,O⟩) λr p i=>?_;cases r with
 |error e=>exact i
 |ok y=>
  cases y with
  |ret x=>
   obtain⟨rfl,rfl⟩:=i;have o:(s.heap.push (stO #[] 0 (.fresh 0 0 (!byT w)))).get? s.heap.objs.size=Z (stO #[] 0 (.fresh 0 0 (!byT w))):=hS1 _ O;have C:Shared.TypeIs {s with heap:=s.heap.push (stO #[] 0 (.fresh 0 0 (!byT w)))} (.ref s.heap.objs.size) "set":=⟨_,o,O⟩;have L:=PySem.F.called_set.init.lookup;have ao:=PySem.F.called_set.init.bind (.ref s.heap.objs.size)
   repeat(any_goals (first|wp_step|assumption))
   refine codeAny_mono (codeAny_call_builtin (R:=wants (λr k=>r = .none/\Q (.ref s.heap.objs.size) k) E) PySem.F.called_set.init.plain PySem.F.entry_set_init (check_set_init_1 C (?_:_))) λr2 k a=>?_
   ·obtain⟨u,j,c,t,b⟩:=B;obtain⟨X,v,N,D⟩:=u;simp only at c b;subst c;subst b;have I:(s.heap.push (stO #[] 0 (.fresh 0 0 (!byT w)))).get? l=Z {cls:=.type "list",dict:=v,data:=.seq its t,slots:=D}:=hP1 _ j;have au:=PySem.F.sub_list_set;have W:=PySem.F.sub_list_frozenset;have S:(Value.type "list" == Value.type "dict")=J:=by decide
    have F:(s.heap.push (stO #[] 0 (.fresh 0 0 (!byT w)))).IsList l its:=⟨_,I,O,t,O⟩;have H:(s.heap.push (stO #[] 0 (.fresh 0 0 (!byT w)))).get? s.heap.objs.size=Z {cls:=.type "set",dict:=Y,data:=.set #[] 0 (.fresh 0 0 (!byT w)),slots:= #[]}:=o;unfold Builtin.«set.__init__» noKeywords Builtin.Frozenset.updateFrom;generalize f:pyIter=PI
    wp_walk
    subst f;refine wpAny_pyIter_list F (wB1 (wpAny_runValue (?_:_)));dsimp only;rw[show(s.heap.push (stO #[] 0 (.fresh 0 0 (!byT w)))).objs.size=s.heap.objs.size+1 from by rw[hZ1]];refine d A.in1.in1 (by simp) (nR1 _) _ λs' q=>?_;exact wP1 (wP1 ⟨O,q⟩)
   ·cases r2 with
    |error e=>exact a
    |ok z=>
     cases z with
     |ret r=>
      obtain⟨rfl,q⟩:=a
      repeat(any_goals (first|wp_step|assumption))
     |_=>exact a.elim
  |_=>exact i.elim
theorem wC {l:cP}{its:Array cN}{Q:cN->cO->Prop}(c:s.heap.IsList l its)
  (b:∀a:cR,a.handled=A.handled -> ∀R:Result->cO->Prop,(∀s',Q (.ref s.heap.objs.size) s'->R (.ok (.ret .none)) s') ->
   codeAny (model P w) a (.builtin "set.update.loop" ⟨[.ref s.heap.objs.size,.ref (s.heap.objs.size+1)],[]⟩) R {s with heap:=(s.heap.push (stO #[] 0 (.fresh 0 0 (!byT w)))).push {cls:=.type "list_iterator",data:=.fields #[.ref l,.int 0 0]}}):
  cW (model P w) A (call (.type "set") [.ref l]) Q E s:=t0 c λa h _=>b a h
end
section
variable{P:cQ}{w:cS}{A:cR}{E:cN->cO->Prop}{b:Bool}
theorem jc.old{p:cP}{ns:List Int}{h h':cX}(x:jc b p ns h)(k:∀o,h.get? p=Z o->h'.get? p=Z o):jc b p ns h':=by
 obtain⟨es,ep,t,l,e,r⟩:=x;exact⟨es,ep,t,l,k _ e,r⟩
theorem na:∀(ns acc:List Int),(ns.foldl step_dedup acc).length<=acc.length+ns.length
 |[],acc=>by simp
 |n::ns,acc=>by
  rw[aZ];have h1:=na ns (step_dedup acc n);have h2:(step_dedup acc n).length<=acc.length+1:=by unfold step_dedup;split<;>simp
  rw[lC1];lia
theorem xG{p l it:cP}{its:Array cN}{ns:List Int}{R:Result->cO->Prop}(G:A.handled=none)(D:IntsAre its.toList ns)(hb:ns.length+1<scanBound)(H:p≠l)(u:p≠it)(ao:it≠l):
  ∀(k i:Nat) (s:cO),its.size-i=k->i<=its.size->s.heap.IsListIter it l i->s.heap.IsList l its->jc b p ((ns.take i).foldl step_dedup []) s.heap ->
  (∀h' tk,(∀c o,c≠p->c≠it->s.heap.get? c=Z o->h'.get? c=Z o)->jc b p (ddI ns) h'->R (.ok (.ret .none)) {s with heap:=h',toks:=tk})->codeAny (model P w) A (.builtin "set.update.loop" ⟨[.ref p,.ref it],[]⟩) R s:=by
 have g:its.size=ns.length:=by rw[<- aI];exact D.length
 intro k
 induction k with
 |zero=>
  intro i s F hi st h m q;have e:i=its.size:=by lia
  subst e;refine wD1 PyProof.Rows.F.entry_set_update_loop (?_:_);rw[Around.under_plainId PyProof.Rows.F.plain_set_update_loop _];show cW _ A.in1 (pyNext (.ref it) >>= _) _ _ s;refine wB1 (wpAny_pyNext_list_end (by simpa using G) st h (by simp) λh' B=>wP1 ?_);refine q h' s.toks (λc o _ hc e=>B c o hc e) ?_;have:=m.old (h':=h') λo e=>B p o u e;rw[g,bT]at this;exact this
 |succ k ih=>
  intro i s F hi st h m q;have f:i<its.size:=by lia
  have z:=aG1 f;obtain⟨t,am⟩:=PyProof.Rows.IntsAre.int_at D i its[i] (by rw[aT1];exact z);refine wD1 PyProof.Rows.F.entry_set_update_loop (?_:_);rw[Around.under_plainId PyProof.Rows.F.plain_set_update_loop _];show cW _ A.in1 (pyNext (.ref it) >>= _) _ _ s;refine wB1 (wpAny_pyNext_list_item st h z λh' st' y=>?_);rw[am];show cW _ A.in1 (holding [Value.int (ns.getD i 0) t] (setAdd p (.int (ns.getD i 0) t)) >>= _) _ _ _;refine wB1 (wpAny_holding ?_);unfold setAdd;refine wpAny_holding (wB1 (wpAny_pyHash_int ?_));have j:jc b p ((ns.take i).foldl step_dedup []) h':=m.old λo e=>by rw[y.2 p u];exact e
  have n:=na (ns.take i) [];refine HL (s:={s with heap:=h',toks:=s.toks+1}) (k:=ns.getD i 0) j (by rw[aP,bh]at n;lia) λc h2 a d=>?_;have K:ns[i]?=Z (ns.getD i 0):=by rw[gG1 (by lia)];simp[List.getD,show i<ns.length by lia]
  have E:step_dedup ((ns.take i).foldl step_dedup []) (ns.getD i 0)=(ns.take (i+1)).foldl step_dedup []:=by
   rw[b7,K,List.foldl_append];rfl
  rw[E]at d;have x:∀c o,c≠p->c≠it->s.heap.get? c=Z o->h2.get? c=Z o:=λc o h1 v e=>by rw[a.2 c h1];show h'.get? c=_;rw[y.2 c v];exact e
  have keepIt:∀o,h'.get? it=Z o->h2.get? it=Z o:=λo e=>by rw[a.2 it (Ne.symm u)];exact e
  refine wP1 ⟨plainId_quiet PyProof.Rows.F.plain_set_update_loop _,ih (i+1) {s with heap:=h2,toks:=s.toks+1} (by lia) f (st'.at keepIt) ?_ d λv tk L I=>?_⟩
  ·obtain⟨o,e,r⟩:=h;exact⟨o,x l o (Ne.symm H) (Ne.symm ao) e,r⟩
  ·exact q v tk (λc o h1 C e=>L c o h1 C (x c o h1 C e)) I
theorem wD{s:cO}{l:cP}{its:Array cN}{ns:List Int}{Q:cN->cO->Prop}(g:A.handled=Y)(d:s.heap.IsList l its)(m:IntsAre its.toList ns)(hb:ns.length+1<scanBound)(q:∀h' tk,(∀c o,s.heap.get? c=Z o->h'.get? c=Z o)->jc (byT w) s.heap.objs.size (ddI ns) h'->Q (.ref s.heap.objs.size) {s with heap:=h',toks:=tk}):cW (model P w) A (call (.type "set") [.ref l]) Q E s:=by
 have a:l<s.heap.objs.size:=by obtain⟨o,e,_⟩:=d;exact hL1 e
 refine wC d λt f R n=>?_;have p:(s.heap.push (stO #[] 0 (.fresh 0 0 (!byT w)))).objs.size=s.heap.objs.size+1:=by rw[hZ1]
 have j:(s.heap.push (stO #[] 0 (.fresh 0 0 (!byT w)))).get? s.heap.objs.size=Z (stO #[] 0 (.fresh 0 0 (!byT w))):=hS1 _ O;refine xG (its:=its) (ns:=ns) (b:=byT w) (f.trans g) m hb (nG1 a) (nN1 (bC _)) (nG1 (Nat.lt_succ_of_lt a)) _ 0 _ O (bm _) ?_ ?_ ?_ λh' tk k x=>n _ (q h' tk (λc o e=>k c o (nN1 (hL1 e)) (nN1 (Nat.lt_succ_of_lt (hL1 e))) (hP1 _ (hP1 _ e))) x)
 ·refine⟨{cls:=.type "list_iterator",data:=.fields #[.ref l,.int 0 0]},?_,O,O⟩;have this:((s.heap.push (stO #[] 0 (.fresh 0 0 (!byT w)))).push {cls:=.type "list_iterator",data:=.fields #[.ref l,.int 0 0]}).get? (s.heap.push (stO #[] 0 (.fresh 0 0 (!byT w)))).objs.size=Z {cls:=.type "list_iterator",data:=.fields #[.ref l,.int 0 0]}:=hS1 _ O;rw[p]at this;exact this
 ·obtain⟨o,e,r⟩:=d;exact⟨o,hP1 _ (hP1 _ e),r⟩
 ·refine⟨#[],0,_,!byT w,hP1 _ j,⟨λe i=>by simp at i,.refl _⟩,by decide,O,xi _,λh=>by rw[h];rfl⟩
end
theorem iO:Slot "set_iterator" "__next__" "set_iterator.__next__":=
 .of (owner:="set_iterator") (n:="__next__") (by rw[typeLookup_type,builtinLookup_eq_fast];kernel_rfl) (by decide+kernel) (by decide+kernel) (by decide+kernel) (by first|exact .inl (by decide+kernel)|exact .inr (by decide+kernel)) (by rw[isSubtype_type];kernel_rfl)
theorem oE:entryFor table "set_iterator.__next__"=Z Builtin.«set_iterator.__next__» :=entryFor_of_tree (by kernel_rfl)
theorem sr(x:cN):argsOk "set_iterator.__next__" ⟨[x],[]⟩:=by unfold argsOk;kernel_rfl
theorem rQ:entryFor table "set.__iter__"=Z Builtin.«frozenset.__iter__» :=entryFor_alias (id':="frozenset.__iter__") (by kernel_rfl) O (by decide+kernel) (by kernel_rfl)
abbrev ED(h:cX)(it a:cP)(f:cN)(i n ep:Nat):Prop:=h.get? it=Z {cls:=.type "set_iterator",dict:=Y,data:=.fields #[f,.int i 0,.ref a,.int n 0,.int ep 0],slots:= #[]}
noncomputable def kH(t:SetTable)(i:Nat):Nat:=match i with
 |0=>0
 |i+1=>t.place.getD i 0+1
inductive sv (w:cS)(h:cX)(a:cP)(es:Array (Int×cN))(ep:Nat)(t:SetTable):cN->Nat->List cN->Prop
 |txt (b:byT w=true) (i:Nat) (sl:Nat):sv w h a es ep t (.int sl 0) i ((pickOrder (w.params.setOrder a ep) es).toList.map (·.2))
 |drw (b:byT w=false) (d:(!t.plain&&decide (es.size>1))=true) (i:Nat) (tp:cP) (ps:List Nat) (e:h.get? tp=some {cls:=.type "tuple",data:=.seq (ps.map λj=>Value.int (j:Nat) 0).toArray}) (pm:ps.Perm (af es.size)):sv w h a es ep t (.ref tp) i (ps.map λj=>(es[j]?.map (·.2)).getD .none)
 |plc (b:byT w=false) (d:(!t.plain&&decide (es.size>1))=false) (ld:t.led=true) (up:ue t.place) (i:Nat):sv w h a es ep t (.int (kH t i) 0) i (es.toList.map (·.2))
theorem n3{α:Type}(f:Nat->Nat):∀(n k:Nat) (l:List α) (out:Array α),l.length=n->(pickOrder.go f n k l out).toList.Perm (out.toList++l)
 |0,k,l,out,h=>by
  rw[pickOrder.go,bY.mp h,aL]
 |n+1,k,l,out,h=>by
  have b:f k%l.length<l.length:=Nat.mod_lt _ (by lia);rw[pickOrder.go,gG1 b];refine(n3 f n (k+1) _ _ (by rw[b8 b];lia)).trans ?_;rw[bZ,aY];refine List.Perm.append_left _ ?_;have c:l=l.take (f k%l.length)++l[f k%l.length]::l.drop (f k%l.length+1):=by rw[List.getElem_cons_drop,List.take_append_drop]
  rw[List.eraseIdx_eq_take_drop_succ];refine List.Perm.trans ?_ (List.Perm.of_eq c.symm);exact(b9 (l₁:=l.take (f k%l.length)) (l₂:=l.drop (f k%l.length+1)) (a:=l[f k%l.length])).symm
theorem sv.perm{w:cS}{h:cX}{a:cP}{es:Array (Int×cN)}{ep:Nat}{t:SetTable}{f:cN}{i:Nat}{pl:List cN}(y:sv w h a es ep t f i pl):pl.Perm (es.toList.map (·.2)):=by
 cases y with
 |txt=>exact(n3 _ _ _ _ _ O).map _
 |drw _ _ _ d ps e c=>
  refine(c.map _).trans ?_;have:(af es.size).map (λj=>(es[j]?.map (·.2)).getD .none)=es.toList.map (·.2):=by
   apply List.ext_getElem?;intro j;rw[gP1,gP1,aT1 (xs:=es)];by_cases b:j<es.size
   ·rw[ca b,oP1,aG1 b];rfl
   ·rw[bU (by simpa using b),cb (by lia)];rfl
  rw[this]
 |plc=>exact .refl _
theorem sv.len{w:cS}{h:cX}{a:cP}{es:Array (Int×cN)}{ep:Nat}{t:SetTable}{f:cN}{i:Nat}{pl:List cN}(y:sv w h a es ep t f i pl):pl.length=es.size:=by
 rw[y.perm.length_eq,lM1,aI]
section
variable{P:cQ}{w:cS}{A:cR}{E:cN->cO->Prop}{s:cO}{it a:cP}{f:cN}{i ep:Nat}{es:Array (Int×cN)}{t:SetTable}{pl:List cN}
theorem oW{Q:Bool->cO->Prop}(q:Q (byT w) s):cW (model P w) A setsByText Q E s:=by unfold setsByText;exact wB1 (wpAny_askSetting (wP1 q))
theorem xA{sl:Nat}{Q:Option (cN×Nat)->cO->Prop}(b:byT w=M)(ho:s.heap.get? a=Z (stO es ep t))(hf:t.fits es.size=M)(q:Q (((pickOrder (w.params.setOrder a ep) es)[i]?).map λe=>(e.2,sl)) s):cW (model P w) A (setNext a sl i ep) Q E s:=by
 unfold setNext;refine wB1 (wpAny_setState_of ho O hf (wB1 (oW ?_)));rw[b,ak O,aj (by simp)];refine wB1 ?_;unfold setWalk;refine wB1 (wpAny_setState_of ho O hf (wB1 (oW ?_)));rw[b,ak O];exact wB1 (wpAny_askSetting (wP1 (wP1 q)))
theorem BO(a:ue t.place)(hi:i<=t.place.size):SetTable.below t.place (kH t i)=i:=by
 cases i with
 |zero=>exact zw a
 |succ j=>
  have b:j<t.place.size:=hi;show SetTable.below t.place (t.place.getD j 0+1)=j+1;rw[show t.place.getD j 0=t.place[j]from by simp[Array.getD,b]];exact BN a b
theorem xB{Q:Option (cN×Nat)->cO->Prop}(b:byT w=J)(d:(!t.plain&&decide (es.size>1))=J)(g:t.led=M)(j:ue t.place)(ho:s.heap.get? a=Z (stO es ep t))(hf:t.fits es.size=M)(hi:i<=es.size)(q:Q ((es[i]?).map λe=>(e.2,kH t (i+1))) s):cW (model P w) A (setNext a (kH t i) i ep) Q E s:=by
 have k:t.place.size=es.size:=by
  unfold SetTable.fits at hf;rw[bA1,beq_iff_eq]at hf;exact hf.1
 unfold setNext;refine wB1 (wpAny_setState_of ho O hf (wB1 (oW ?_)));rw[b,aj (by decide)];rw[aj (λz=>by have f:(!t.plain&&decide (es.size>1))=M:=z;rw[d]at f;cases f)];refine wB1 ?_;show cW _ _ (if(!t.led && !es.isEmpty)=M then _ else _) _ _ _;rw[aj (by rw[g];simp)];refine wP1 ?_;dsimp only;rw[BO j (by omega)];by_cases c:i<es.size
 ·rw [aG1 c] at q ⊢;rw [aG1 (show i<t.place.size by omega)];have h:kH t (i+1)=t.place[i]+1:=by
   show t.place.getD i 0+1=_;rw[show t.place.getD i 0=t.place[i]from by simp[Array.getD,show i<t.place.size by omega]]
  rw[h]at q;exact wP1 q
 ·rw[cb (by omega)]at q ⊢;exact wP1 q
theorem zY{Q:Option cN->cO->Prop}(h:ED s.heap it a f i es.size ep)(ho:s.heap.get? a=Z (stO es ep t))(hf:t.fits es.size=M)(y:sv w s.heap a es ep t f i pl){x:cN}(hx:pl[i]? = Z x)(N:∀ g,f = .ref g->g≠it)(q:∀h' k,ED h' it a k (i+1) es.size ep->(∀c o,c≠it->s.heap.get? c=Z o->h'.get? c=Z o)->sv w h' a es ep t k (i+1) pl->(∀g,k = .ref g->f = .ref g)->Q (Z x) {s with heap:=h'}):cW (model P w) A (pyNext (.ref it)) Q E s:=by
 have I:s.TypeIs (.ref it) "set_iterator":=⟨_,h,O⟩;unfold pyNext;refine wB1 (wpAny_attempt (wpAny_callSpecial?_slot (name:=Str.ofString "__next__") I iO (wE1 iO I oE ?_ (sr _))));refine wB1 (wP1 (wB1 (wpAny_fieldsOf h O ?_)));dsimp only;refine wB1 (wpAny_setEntries_of ho O hf ?_);rw[aj (by simp)];have ao:i<es.size:=by have:=(gE1.mp hx).1;rw[y.len]at this;exact this
 have n:∀ (k:cN),(∀ g,k = .ref g->f = .ref g)->(∀ h',(∀ c o,c≠it->s.heap.get? c=some o->h'.get? c=some o)->sv w h' a es ep t k (i+1) pl) ->
   cW (model P w) A.in1 (setField (.ref it) 0 k >>= fun _=>setField (.ref it) 1 (rawInt ((i:Int)+1)) >>= fun _=>ret x) (fun D s'=>∃ v,D=Fin.done (Flow.ret v)/\cW (model P w) A (pure (some v)) Q E s') (fun e s'=>cW (model P w) A (do
     let y<-isInstance e (.type "StopIteration")
     if y=M then pure Y else throw e) Q E s') s:=λk S au=>by
  refine wB1 (wS1 h (by simp) λh1 R B=>wB1 (wS1 (s:={s with heap:=h1}) R (by simp) λh2 u l=>wP1 ⟨_,O,wP1 ?_⟩));have m:∀c o,c≠it->s.heap.get? c=Z o->h2.get? c=Z o:=λc o hc e=>l.extBut c o hc (B.extBut c o hc e);refine q h2 k ?_ m (au h2 m) S;have e:((i+1:Nat):Int)=(i:Int)+1:=by lia
  unfold ED;rw[e];simpa[rawInt]using u
 cases y with
 |txt b _ r=>
  refine wB1 (xA (i:=i) (sl:=r) (ep:=ep) b ho hf ?_);rw[gP1,aT1]at hx;obtain⟨e,C,rfl⟩:=oM1.mp hx;rw[C];exact n (.int r 0) (λg z=>by cases z) λh' _=>.txt b _ r
 |plc b d K am _=>
  refine wB1 (xB (i:=i) b d K am ho hf (by lia) ?_);rw[gP1,aT1]at hx;obtain⟨e,C,rfl⟩:=oM1.mp hx;rw[C];exact n (.int (kH t (i+1)) 0) (λg z=>by cases z) λh' _=>.plc b d K am _
 |drw b d _ g ps e L=>
  rw[gP1]at hx;obtain⟨j,G,rfl⟩:=oM1.mp hx;have p:j<es.size:=by have:=L.mem_iff.mp (gM1 G);simpa using this
  refine wB1 (wpAny_seqItems e O ?_);have F:((ps.map λj=>Value.int (j:Nat) 0).toArray)[((i:Int)).toNat]?=Z (.int (j:Nat) 0):=by
   rw[Int.toNat_natCast,cc,gP1,G];rfl
  dsimp only;rw[F];dsimp only;refine wB1 ?_;unfold setNextDrawn;refine wB1 (wpAny_setState_of ho O hf ?_);dsimp only;rw[aj (by simp),Int.toNat_natCast,aG1 p];refine wP1 (wB1 (wS1 h (by simp) λh2 u l=>wP1 ⟨_,O,wP1 ?_⟩));have m:∀c o,c≠it->s.heap.get? c=Z o->h2.get? c=Z o:=λc o hc e=>l.extBut c o hc e;have H:=q h2 (.ref g) ?_ m (.drw b d _ g ps (m g _ (N g O) e) L) λ_ z=>z
  ·rw[aG1 p]at H;exact H
  ·have e:((i+1:Nat):Int)=(i:Int)+1:=by lia
   unfold ED;rw[e];simpa[rawInt]using u
theorem sP{Q:Option cN->cO->Prop}{G:Fin->cO->Prop}(d:A.handled=none)(q:∀ h',(∀ c o,s.heap.get? c=some o->h'.get? c=some o)->Q none {s with heap:=h'}):
  cW (model P w) A.in1 (newExc (.type "StopIteration") [] >>= fun e=>raiseNew e) G (fun e s'=>cW (model P w) A (do
     let y<-isInstance e (.type "StopIteration")
     if y=M then pure Y else throw e) Q E s') s:=by
 refine wB1 ?_;simp only[newExc,newTuple];refine wB1 (wO1 ?_ (by size_fits));refine wB1 (m:=firstArgMember _ _) (wpAny_of_eq (a:=Value.none) (by first|rfl|(simp only[firstArgMember];rfl)) ?_);refine wO1 ?_ (by size_fits);simp only[raiseNew];refine wB1 (wpAny_handled ?_);rw[show A.in1.handled=Y from d];refine wB1 (wP1 (wpAny_throw (?_:_)));refine wB1 (wpAny_isInstance (b:=M) (T:="StopIteration") ⟨_,hS1 _ O,O⟩ isSubtype_stop (?_:_));exact wP1 (q _ λb o e=>hP1 _ (hP1 _ e))
theorem Cq{Q:Option cN->cO->Prop}(m:A.handled=Y)(g:ED s.heap it a f es.size es.size ep)(ho:s.heap.get? a=Z (stO es ep t))(hf:t.fits es.size=M)(y:sv w s.heap a es ep t f es.size pl)(q:∀h',(∀c o,c≠it->s.heap.get? c=Z o->h'.get? c=Z o)->Q Y {s with heap:=h'}):cW (model P w) A (pyNext (.ref it)) Q E s:=by
 have u:s.TypeIs (.ref it) "set_iterator":=⟨_,g,O⟩;unfold pyNext;refine wB1 (wpAny_attempt (wpAny_callSpecial?_slot (name:=Str.ofString "__next__") u iO (wE1 iO u oE ?_ (sr _))));refine wB1 (wP1 (wB1 (wpAny_fieldsOf g O ?_)));dsimp only;refine wB1 (wpAny_setEntries_of ho O hf ?_);rw[aj (by simp)];have l:=y.len;cases y with
 |txt b _ v=>
  refine wB1 (xA (i:=es.size) (sl:=v) (ep:=ep) b ho hf ?_);rw[cb (by rw[lM1,aI]at l;lia)];refine wB1 (wS1 g (by simp) λh1 p h=>?_);exact sP (s:={s with heap:=h1}) m λh' k=>q h' λc o hc e=>k c o (h.extBut c o hc e)
 |plc b d z x _=>
  refine wB1 (xB (i:=es.size) (ep:=ep) b d z x ho hf (nR1 _) ?_);rw[cb (nR1 _)];refine wB1 (wS1 g (by simp) λh1 p h=>?_);exact sP (s:={s with heap:=h1}) m λh' k=>q h' λc o hc e=>k c o (h.extBut c o hc e)
 |drw b d _ D ps e C=>
  refine wB1 (wpAny_seqItems e O ?_);have n:((ps.map λj=>Value.int (j:Nat) 0).toArray)[((es.size:Int)).toNat]?=Y:=by
   rw[Int.toNat_natCast,cc,bU (by rw[lM1]at l ⊢;lia)]
  dsimp only;rw[n];dsimp only;refine wB1 (wS1 g (by simp) λh1 p h=>?_);refine wB1 (wS1 (s:={s with heap:=h1}) p (by simp) λh2 B r=>?_);exact sP (s:={s with heap:=h2}) m λh' k=>q h' λc o hc e=>k c o (r.extBut c o hc (h.extBut c o hc e))
theorem zv{b:Source}{n:Nat}{Q:Nat->cO->Prop}(hn:n≠0)(q:∀i c,i<n->Q i {s with drawn:=c}):cW (model P w) A (choose b n) Q E s:=fun Γ p a=>by
 unfold choose;rw[Sem.wp_choose];refine⟨hn,?_⟩;exact wP1 (A:=A) (E:=E) (q _ _ (Nat.mod_lt _ (Nat.pos_of_ne_zero hn))) Γ p a
theorem draw_W{α:Type}:∀(n:Nat) (xs:List α) (s:cO) (Q:List α->cO->Prop),xs.length=n->(∀ys b,ys.Perm xs->Q ys {s with drawn:=b})->cW (model P w) A (drawOrder n xs) Q E s
 |0,xs,s,Q,h,q=>by
  have:=bY.mp h;subst this;exact wP1 (q [] s.drawn (.refl _))
 |n+1,[],s,Q,h,q=>by simp at h
 |n+1,x::xs,s,Q,h,q=>by
  rw[drawOrder];refine wB1 (zv (by simp) λi b hi=>?_);rw[gG1 hi];dsimp only;refine wB1 (draw_W n _ _ _ (by rw[b8 hi];lia) λys a d=>wP1 (q _ a ?_));refine(d.cons _).trans ?_;have c:x::xs=(x::xs).take i++(x::xs)[i]::(x::xs).drop (i+1):=by rw[List.getElem_cons_drop,List.take_append_drop]
  rw[List.eraseIdx_eq_take_drop_succ];refine List.Perm.trans ?_ (List.Perm.of_eq c.symm);exact b9.symm
  all_goals simp
theorem z0{l:Bool}{Q:cN->cO->Prop}(ho:s.heap.get? a=some (stO es ep t))(hf:t.fits es.size=true)(H:es.size<scanBound)(B:TS l t)(F:byT w=false->l=true)(q:∀it h' n f pl,(∀c o,s.heap.get? c=some o->h'.get? c=some o)->s.heap.objs.size<=it->ED h' it a f 0 es.size ep->sv w h' a es ep t f 0 pl->(∀b,f = .ref b->b≠it/\s.heap.objs.size<=b)->Q (.ref it) {s with heap:=h',drawn:=n}):
  cW (model P w) A (pyIter (.ref a)) Q E s:=by
 have C:s.TypeIs (.ref a) "set":=⟨_,ho,rfl⟩;refine wpAny_pyIter_slot C PySem.F.slot_set_iter (wE1 PySem.F.slot_set_iter C rQ ?_ (PySem.F.args_set_iter_1 _));unfold Builtin.«frozenset.__iter__»;refine wB1 (m:=Builtin.Frozenset.slot0 _ _) (wP1 ?_);unfold Builtin.Frozenset.sizeOf;refine wB1 (wB1 (wpAny_setEntries_of ho rfl hf (wP1 ?_)));unfold setDrawn;refine wB1 (wB1 (wpAny_setState_of ho rfl hf (wB1 (oW (wP1 ?_)))));show cW _ _ (if (!byT w&&(!t.plain&&decide (es.size>1)))=true then _ else _) _ _ _;have d:∀ (h1:cX) (n:Drawn) (f:cN) (pl:List cN),(∀ c o,s.heap.get? c=some o->h1.get? c=some o)->s.heap.objs.size<=h1.objs.size->(∀ b,f = .ref b->b<h1.objs.size/\s.heap.objs.size<=b)->(∀ h',(∀ c o,h1.get? c=some o->h'.get? c=some o)->sv w h' a es ep t f 0 pl) ->
   cW (model P w) A.in1 (setEpoch a >>= λe=>newFields "set_iterator" [f,rawInt 0,.ref a,rawInt es.size,rawInt e] >>= λr=>ret r) (λd s'=>∃r,d=Fin.done (Flow.ret r) /\ ∃T g,s'.TypeIs r T/\typeLookup (.type T) "__next__"=pure (Z g)/\Q r s') E {s with heap:=h1,drawn:=n}:=by
  intro h1 n f pl D v u G;refine wB1 (wpAny_setEpoch_of (D a _ ho) O hf (wB1 (wO1 (wP1 ⟨_,O,"set_iterator",_,⟨_,hS1 _ O,O⟩,iO.lookup,?_⟩) (by size_fits))));refine q h1.objs.size _ n f pl (λc o e=>hP1 _ (D c o e)) v ?_ (G _ λc o e=>hP1 _ e) λb e=>⟨nN1 (u b e).1,(u b e).2⟩;have:=hS1 h1 (o:={cls:=.type "set_iterator",data:=.fields #[f,.int 0 0,.ref a,.int es.size 0,.int ep 0]}) O;exact this
 by_cases h:byT w=M
 ·rw[aj (by rw[h];simp)];refine wB1 (wP1 ?_);exact d s.heap s.drawn _ _ (λ_ _ e=>e) (nR1 _) (λb z=>by cases z) λh' _=>.txt h 0 0
 ·have h:byT w=J:=by simpa using h
  by_cases p:(!t.plain&&decide (es.size>1))=M
  ·rw[ak (by rw[h,p];rfl)];refine wB1 (draw_W es.size (af es.size) s _ (by simp) λys n y=>?_);refine wB1 (m:=newTuple _) (wO1 (s:={s with drawn:=n}) ?_ ?_)
   ·refine d (s.heap.push {cls:=.type "tuple",data:=.seq (ys.map λ(i:Nat)=>rawInt i).toArray}) n (.ref s.heap.objs.size) (ys.map λj=>(es[j]?.map (·.2)).getD .none) (λc o e=>hP1 _ e) (by rw[hZ1];exact aX _) (λb z=>by cases z;exact⟨by rw[hZ1];exact bC _,nR1 _⟩) λh' k=>?_;exact .drw h p 0 _ ys (k _ _ (hS1 _ O)) y
   ·have:=y.length_eq;have x:=fits_of_scanBound H;simp[sizeOk,this,x]
  ·have p:(!t.plain&&decide (es.size>1))=J:=by simpa using p
   rw[aj (by rw[p];simp)];refine wB1 (wP1 ?_);exact d s.heap s.drawn _ _ (λ_ _ e=>e) (nR1 _) (λb z=>by cases z) λh' _=>.plc h p (by rw[B.ld];exact F h) B.up 0
end
theorem sv.keep{w:cS}{h h':cX}{a:cP}{es:Array (Int×cN)}{ep:Nat}{t:SetTable}{f:cN}{i:Nat}{pl:List cN}(y:sv w h a es ep t f i pl)(k:∀c o,f = .ref c->h.get? c=Z o->h'.get? c=Z o):sv w h' a es ep t f i pl:=by
 cases y with
 |txt b _ g=>exact .txt b _ g
 |drw b d _ c ps e j=>exact .drw b d _ c ps (k c _ O e) j
 |plc b d m l _=>exact .plc b d m l _
section
variable{P:cQ}{w:cS}{A:cR}{E:cN->cO->Prop}
theorem zZ{it a S:cP}{ep:Nat}{es:Array (Int×cN)}{t:SetTable}{pl:List cN}{p:cN}{R:Result->cO->Prop}(Q:A.handled=none)(hf:t.fits es.size=true)(h1:it≠a)(h2:S≠a)(L:S≠it)(hn:es.size<=cV):
  ∀(k i:Nat) (s:cO) (f:cN) (acc:Array cN) (c:Nat),es.size-i=k->i<=es.size->ED s.heap it a f i es.size ep->s.heap.get? a=Z (stO es ep t)->sv w s.heap a es ep t f i pl->(∀g,f = .ref g->g≠it/\g≠S) ->
  s.heap.get? S=Z {cls:=.type "list",dict:=Y,data:=.seq acc c,slots:= #[]}->acc.toList=pl.take i ->
  (∀h' d c',(∀b u,b≠it->b≠S->s.heap.get? b=Z u->h'.get? b=Z u)->h'.get? S=Z {cls:=.type "list",dict:=Y,data:=.seq d c',slots:= #[]}->d.toList=pl->R (.ok (.ret p)) {s with heap:=h'}) ->
  codeAny (model P w) A (.builtin "list.extend.loop" ⟨[.ref S,.ref it,p],[]⟩) R s:=by
 intro k
 induction k with
 |zero=>
  intro i s f acc c au hi m C y E am D F;have e:i=es.size:=by lia
  subst e;have j:=y.len;refine wD1 PySem.F.entry_extend_loop (?_:_);rw[Around.under_plainId PySem.F.plain_extend_loop _];show cW _ A.in1 (pyNext (.ref it) >>= _) _ _ s;refine wB1 (Cq Q m C hf y λh' keep=>wP1 ?_);exact F h' acc c (λb u n _ e=>keep b u n e) (keep S _ L am) (by rw[D,<- j,bT])
 |succ k ih=>
  intro i s f acc c au hi m C y E am D F;have K:i<es.size:=by lia
  have j:=y.len;obtain⟨x,ao⟩:∃x,pl[i]?=some x:=⟨_,gG1 (by lia)⟩;have B:acc.size=i:=by rw[<- aI,D,aP];lia
  refine wD1 PySem.F.entry_extend_loop (?_:_);rw[Around.under_plainId PySem.F.plain_extend_loop _];show cW _ A.in1 (pyNext (.ref it) >>= _) _ _ s;refine wB1 (zY m C hf y ao (λg e=>(E g e).1) λh' T v keep U N=>?_);have r:=keep S _ L am;show cW _ A.in1 (updateSeq S (·.push x) >>= _) _ _ _;refine wB1 (wpAny_updateSeq (s:={s with heap:=h'}) r O ?_ (by rw[B];lia) (by show(acc.push _).size<=cV+1;rw[Array.size_push,B];lia));have h:∀b u,b≠S->h'.get? b=Z u->(h'.update S (Obj.mapSeq (·.push x))).get? b=Z u:=λb u n e=>by rw[hU1 _ _ _ _ n];exact e
  refine wP1 ⟨plainId_quiet PySem.F.plain_extend_loop _,ih (i+1) {s with heap:=h'.update S (Obj.mapSeq (·.push x))} T (acc.push x) _ (by lia) K (h it _ (Ne.symm L) v) (h a _ (Ne.symm h2) (keep a _ (Ne.symm h1) C)) (U.keep λg o e q=>h g o (E g (N g e)).2 q) (λg e=>E g (N g e)) (hW1 _ r O) ?_ ?_⟩
  ·rw[bZ,D,b7,ao];rfl
  ·intro G d c' l I H;exact F G d c' (λb u n z e=>l b u n z (h b u z (keep b u n e))) I H
theorem xI:typeLookup (.type "set") "__len__"=pure (Z (.builtin "set.__len__")):=by rw[typeLookup_type,builtinLookup_eq_fast];kernel_rfl
theorem z4 {s:cO}{v:cP}{Q:Bool->cO->Prop}(c:s.TypeIs (.ref v) "set")(q:Q J s):cW (model P w) A (Builtin.List.listLengthHint (.ref v)) Q E s:=by
 unfold Builtin.List.listLengthHint;refine wB1 (wpAny_specialOf c xI (?_:_));generalize a:("set.__len__":String)=id0
 wp_delta
 rw[show splitId id0=Z ("set","__len__")from by subst a;decide+kernel];subst a;refine wB1 (wpAny_isInstance (b:=M) c (by rw[isSubtype_type];kernel_rfl) (?_:_));rw[aj (by decide)];dsimp only;rw[ak (by decide+kernel)];exact wB1 (wpAny_typeOf c (wP1 q))
theorem sJ{s:cO}{a:cP}{ns:List Int}{Q:List cN->cO->Prop}(W:A.handled=Y)(hx:jc (byT w) a ns s.heap)(q:∀h' p vs S,(∀b u,s.heap.get? b=Z u->h'.get? b=Z u)->s.heap.objs.size<=h'.objs.size->IntsAre vs S->S.Perm ns->Q vs {s with heap:=h',drawn:=p}):cW (model P w) A (collect (.ref a)) Q E s:=by
 obtain⟨es,ep,t,l,F,ao,au,N,U,X⟩:=hx;have n:a<s.heap.objs.size:=hL1 F;unfold collect;refine wB1 (wpAny_runValue (wD1 PySem.F.entry_proto_collect (?_:_)));rw[Around.under_plainId PySem.F.plain_proto_collect _];show cW _ A.in1 (newList [] >>= λl=>again (.builtin "list.__iadd__" ⟨[l,.ref a],[]⟩)) _ _ s;refine wB1 (wO1 (?_:_));refine wP1 ⟨plainId_quiet PySem.F.plain_list_iadd _,wD1 PySem.F.entry_list_iadd (?_:_)⟩;rw[Around.under_plainId PySem.F.plain_list_iadd _];have r:(s.heap.push {cls:=.type "list",data:=.seq ([]:List cN).toArray}).get? s.heap.objs.size=Z {cls:=.type "list",data:=.seq ([]:List cN).toArray}:=hS1 _ O;have h:∀b u,s.heap.get? b=Z u->(s.heap.push {cls:=.type "list",data:=.seq ([]:List cN).toArray}).get? b=Z u:=λb u e=>hP1 _ e;have B:(s.heap.push {cls:=.type "list",data:=.seq ([]:List cN).toArray}).objs.size=s.heap.objs.size+1:=by rw[hZ1]
 have L:s.heap.objs.size≠a:=nG1 n;have h1:Builtin.List.listSameRef (.ref s.heap.objs.size) (.ref a)=J:=by simp[Builtin.List.listSameRef,L]
 show cW _ A.in1 (Builtin.List.listExtendWith (.ref s.heap.objs.size) (.ref a) (.ref s.heap.objs.size)) _ _ {s with heap:=s.heap.push {cls:=.type "list",data:=.seq ([]:List cN).toArray}};generalize s.heap.push {cls:=.type "list",data:=.seq ([]:List cN).toArray}=h₁ at *
 unfold Builtin.List.listExtendWith;refine wB1 (wpAny_typeOf (T:="set") ⟨_,h a _ F,O⟩ ?_);rw[aj (by rw[h1];decide)];refine wB1 (z0 (s:={s with heap:=h₁}) (h a _ F) N au U X λit d p f pl g c K y I=>?_);dsimp only at g c I;have i:=g _ _ r;have z:Shared.TypeIs {s with heap:=d,drawn:=p} (.ref a) "set":=⟨_,g _ _ (h a _ F),O⟩;refine wB1 (wpAny_holding (z4 z ?_));rw[ak (by decide+kernel)];refine wB1 (wpAny_rule (wB1 ?_));show cW _ A.in1 (updateSeq s.heap.objs.size (·.push .none) >>= λ_=>updateSeq s.heap.objs.size (·.pop)) _ _ _;refine wB1 (wpAny_updateSeq (s:={s with heap:=d,drawn:=p}) i O ?_);have j:=hW1 (Obj.mapSeq (·.push Value.none)) i O;refine wpAny_updateSeq (s:={s with heap:=d.update s.heap.objs.size (Obj.mapSeq (·.push Value.none)),drawn:=p}) j O ?_;have x:=hW1 (Obj.mapSeq (·.pop)) j O;have m:∀b u,b≠s.heap.objs.size->d.get? b=Z u->((d.update s.heap.objs.size (Obj.mapSeq (·.push Value.none))).update s.heap.objs.size (Obj.mapSeq (·.pop))).get? b=Z u:=λb u C e=>by
  rw[hU1 _ _ _ _ C,hU1 _ _ _ _ C];exact e
 rw[B]at c I;have R:=y.perm;refine wP1 ⟨plainId_quiet PySem.F.plain_extend_loop _,zZ (it:=it) (pl:=pl) W N (nG1 (bj n c)) (nG1 n) (nN1 c) (fits_of_scanBound au) es.size 0
  {s with heap:=(d.update s.heap.objs.size (Obj.mapSeq (·.push Value.none))).update s.heap.objs.size (Obj.mapSeq (·.pop)),drawn:=p} f _ _ O (bm _) (m _ _ (nG1 c) K) (m a _ (nN1 n) (g _ _ (h a _ F))) (y.keep λG o e q=>m G o (nG1 (I G e).2) q) (λG e=>⟨(I G e).1,nG1 (I G e).2⟩) x O λh' D c' keep H wq=>?_⟩
 show cW _ A (load s.heap.objs.size >>= _) _ _ {s with heap:=h',drawn:=p};refine wB1 (wpAny_load H ?_);have hI:∀v∈pl,∃k t,v=Value.int k t:=λv am=>by
  obtain⟨e,aq,rfl⟩:=b6.mp (R.mem_iff.mp am);obtain⟨k,t,rfl⟩:=ao.el e aq;exact⟨k,t,O⟩
 have all:∀vs:List cN,(∀v∈vs,∃k t,v=Value.int k t)->IntsAre vs (vs.map λv=>Hz (0,v)):=by
  intro vs
  induction vs with
  |nil=>intro _;exact .nil
  |cons v vs ih=>
   intro am;obtain⟨k,t,rfl⟩:=am v mS1;exact .cons k t (ih λu V=>am u (mC1 _ V))
 refine wP1 (q h' p D.toList (pl.map λv=>Hz (0,v)) (λb u e=>?_) (Nat.le_of_lt (hL1 H)) (by rw[wq];exact all pl hI) ?_)
 ·have C:=hL1 e;exact keep b u (nN1 (bj C c)) (nN1 C) (m b u (nN1 C) (g _ _ (h b u e)))
 ·refine(R.map _).trans ?_;rw[bu];exact ao.pm
theorem qp {s:cO}{a:cP}{ns:List Int}{Q:cN->cO->Prop}(o:A.handled=none)(hx:jc (byT w) a ns s.heap)(h:ns.length<64)
  (q:∀h' f L n out,(∀b u,s.heap.get? b=Z u->h'.get? b=Z u)->s.heap.objs.size<=L->h'.get? L=Z (seqObj "list" out n)->IntsAre out.toList (gO ns)->Q (.ref L) {s with heap:=h',drawn:=f}):
  cW (model P w) A (call (.builtin "sorted") [.ref a]) Q E s:=by
 refine Calls.call_function_entry kind_sorted plain_sorted entry_sorted (args_sorted1 _) (?_:_);unfold Builtin.«sorted»;refine wB1 (m:=checkCount "sorted" 1 1 _) (wP1 (wB1 (sJ o hx λh' f vs t keep r l k=>?_)));have d:vs.length<64:=by rw[l.length,k.length_eq];exact h
 refine wB1 (wpAny_newList (hsz:=by rw[sizeLine_eq];lia) ?_);have c:(h'.push (seqObj "list" vs.toArray 0)).get? h'.objs.size=Z (seqObj "list" vs.toArray 0):=hS1 _ O;show cW _ _ _ _ _ {s with heap:=h'.push (seqObj "list" vs.toArray 0),drawn:=f};refine wB1 (wpAny_holding (wE1 slot_list_sort ⟨_,c,O⟩ entry_list_sort (list_sort_tree (s:={s with heap:=h'.push (seqObj "list" vs.toArray 0),drawn:=f}) c l d λout j a1 a2 a3=>⟨_,O,?_⟩) (args_list_sort _)));have p:j=gO ns:=lP (a2.trans (k.trans (eS ns).symm)) a3 (jY ns);subst p;obtain⟨n,g⟩:=sortedHeap_at (out:=out) c;refine wP1 ⟨_,O,q _ f h'.objs.size n out (λb u e=>?_) r g a1⟩;have i:=keep b u e;show(sortedHeap (h'.push (seqObj "list" vs.toArray 0)) h'.objs.size vs out).get? b=Z u;rw[sortedHeap_old (nN1 (hL1 i)) (by rw[hZ1];exact Nat.lt_succ_of_lt (hL1 i))];exact hP1 _ i
end
noncomputable def i3:G1:=λd S=>match dn S d with
 |some (M,xs)=>(m4 xs).bind λns=>if ns.length<64 then Z (.ref S.length,S++[.lst ((gO (ddI ns)).map D.int)])else Y
 |_=>Y
section
variable{X:Cx}
def Fm(X:Cx)(vs:List V)(H:Hp)(Q:VK):Prop:=∃a xs ns,vs=[.ref a]/\lA X.K H a xs/\(∀us,dG xs us->IntsAre us ns)/\ns.length+1<scanBound /\ ∀p,H p=Y->Q (.ref p) (upd H p (.ext (jc (byT X.w) p (ddI ns))))
def CO(X:Cx)(vs:List V)(H:Hp)(Q:VK):Prop:=∃a ns,vs=[.ref a]/\H a=Z (.ext (jc (byT X.w) a ns))/\ns.length<64 /\ ∀p,H p=Y->Q (.ref p) (upd H p (.lst ((gO ns).map V.int)))
theorem wc{ag:List (cP×Obj)}{σ:L2.St}{H:Hp}{s:cO}(I:Inv X ag σ H s)(d:Drawn):Inv X ag σ H {s with drawn:=d}:=⟨I.ok,I.os,I.bare,I.base,I.loc,I.cell,I.free,I.freeC,I.pin,I.hok,I.len⟩
theorem En(hc:X.calm=M):eG X (.type "set") (Fm X):=by
 intro ag s σ H xs m Q I r h;obtain⟨a,vs,ns,rfl,i,hi,f,q⟩:=h;obtain⟨u,rfl,r2⟩:=gM r;cases r2;obtain⟨b,g,p,n⟩:=I.list i;have j:=hi b g;refine wD (I.ok.hd hc) p.isList (by simpa using j) f λh' tk keep d=>?_;have c:=I.hok.fresh (nR1 s.heap.objs.size);refine⟨.ref s.heap.objs.size,_,I.laid (t':=tk) (o:=.ext (jc (byT X.w) s.heap.objs.size (ddI ns))) keep (nR1 _) ⟨d,?_,λh1 h2 x k=>x.old k⟩,O,q _ c⟩;obtain⟨es,ep,t,l,e,_⟩:=d;exact⟨_,e⟩
theorem BJ(hc:X.calm=M):eG X (.builtin "sorted") (CO X):=by
 intro ag s σ H xs k Q I r h;obtain⟨a,ns,rfl,j,f,q⟩:=h;obtain⟨u,rfl,r2⟩:=gM r;cases r2;obtain⟨g,_⟩:=(show ev X.prog X.w H s.heap a (.ext (jc (byT X.w) a ns))from I.hok a _ j);refine qp (I.ok.hd hc) g f λh' e L n out keep d b i=>?_;have c:=I.hok.fresh d;refine⟨.ref L,_,wc (I.laid (t':=s.toks) (o:=.lst ((gO ns).map V.int)) keep d ⟨?_,out.toList,n,oy i,by rw[bX];exact b⟩) e,O,q _ c⟩;rw[lM1,(eS ns).length_eq,sizeLine_eq];lia
theorem Gq(ns:List Int):(ddI ns).length<=ns.length:=by
 have:=na ns [];unfold ddI;simpa using this
theorem vD (hc:X.calm=true){o:Expr}{m:FE}{p p2 pos b:Pos}(hg:Gl X "sorted")(hm:X.mg "sorted"=none)(hg2:Gl X "set")(hm2:X.mg "set"=none)(ho:XE X o m)
  (he:cU [.Call (.Name "set" p2) [o] [] b] X.env=[(J,eval (.Call (.Name "set" p2) [o] [] b) X.env)]:=by rfl) (e:cU [o] X.env=[(J,eval o X.env)]:=by rfl):XE X (.Call (.Name "sorted" p) [.Call (.Name "set" p2) [o] [] b] [] pos) (mN (b1 i3) (c4 m c5)):=
 ⟨em (qz (BJ hc) hg hm (by decide+kernel) (j7 (jh (En hc) hg2 hm2 (by decide+kernel) (j7 ho.h mM e) (he:=e)) mM he) (he:=he)) <| by
  rintro σ H Q ⟨r,mu,S,d,F,he,n,hm,g⟩;obtain⟨⟨ds,D⟩,f,hm⟩:=oB1.mp hm;obtain⟨⟨l,E⟩,y,f⟩:=oB1.mp f;cases f;dsimp only[b1,i3]at hm;split at hm
  ·rename_i xs x;obtain⟨ns,A,hm⟩:=oB1.mp hm;split at hm
   ·rename_i i;cases hm;refine⟨r,mu,S,l,_,he,n,y,λv H1 mu1 z w j=>?_⟩;obtain⟨a,vs,rfl,q,t⟩:=dw w j x;refine⟨a,vs,ns,O,q,λC B=>(wd t B A).1,bj (Nat.succ_lt_succ i) (by decide),λp k=>?_⟩;refine⟨p,ddI ns,O,dD,bE (Gq ns) i,λp2 c=>?_⟩;have s:Ext mu1 mu1 H1 (upd H1 p (.ext (jc (byT X.w) p (ddI ns)))):=Ext.fresh k;have h:=j.fresh (u:=.ext (jc (byT X.w) p (ddI ns))) k;exact g _ _ (mu1++[p2]) (z.trans (s.trans (Ext.new_ c))) (.ref (gf h.len _)) (h.newL (jf _) c)
   ·cases hm
  ·cases hm⟩
end
section
variable{X:Cx}{ag:List (cP×Obj)}{σ:L2.St}{H:Hp}{s:cO}{a:cP}{kvs:List (Key×V)}{k:Key}{v:V}{u r:cN}{A:cR}{E:cN->cO->Prop}
end
section
variable{X:Cx}
end
open AutoSeq1 (wpAny_loadPart')
section
variable{prog:cQ}{w:cS}{A:cR}{E:cN->cO->Prop}{s:cO}
theorem sd{Q:List cN->cO->Prop}{r:cP}{a b c:Int}{t u v:Tok}{n:Nat}(y:A.handled=none)(hr:IsRange s.heap r a b c t u v)(hsmall:Builtin.Range.small a b c=true)(hn:Builtin.Range.rangeSize a b c=n)(k:n<=2^24)(B:∀h' tk d,(∀b o',s.heap.get? b=some o'->h'.get? b=some o')->ItemsOf (fun i v=>∃t,v = .int (a+i*c) t) d n->Q d.toList {s with heap:=h',toks:=tk}):
  cW (model prog w) A (collect (.ref r)) Q E s:=by
 unfold collect;refine wB1 (wpAny_runValue (wD1 F.entry_proto_collect (?_:_)));rw [Around.under_plainId F.plain_proto_collect _];show cW _ A.in1 (newList [] >>= fun l=>again (.builtin "list.__iadd__" ⟨[l,.ref r],[]⟩)) _ _ s;refine wB1 (wO1 (?_:_));refine wP1 ⟨plainId_quiet F.plain_list_iadd _,wD1 F.entry_list_iadd (?_:_)⟩;rw [Around.under_plainId F.plain_list_iadd _];show cW _ A.in1 (Builtin.List.listExtendWith (.ref s.heap.objs.size) (.ref r) (.ref s.heap.objs.size)) _ _ _;have z:(s.heap.push {cls:=.type "list",data:=.seq ([]:List cN).toArray}).get? s.heap.objs.size=some {cls:=.type "list",data:=.seq #[] 0}:=hS1 _ rfl;have g:∀ h' tk d c',(∀ b o',s.heap.get? b=some o'->h'.get? b=some o')->h'.get? s.heap.objs.size=some {cls:=.type "list",dict:=none,data:=.seq d c',slots:= #[]}->ItemsOf (fun i v=>∃ t,v = .int (a+i*c) t) d n ->
   cW (model prog w) A (match Value.ref s.heap.objs.size with
   |Value.ref a=>do
    match (<- load a).data with
     |Data.seq xs _=>pure xs.toList
     |_=>unsupported "internal:collect"
   |_=>unsupported "internal:collect") Q E {s with heap:=h',toks:=tk}:=by
  intro h' tk d c' p j x;show cW _ A (load s.heap.objs.size >>= _) _ _ _;refine wB1 (wpAny_load j (?_:_));refine wP1 (?_:_);exact B h' tk d p x
 refine wpAny_mono (wpAny_extend_range (A:=A) (R:=λC s'=>∃h' tk d c',C = .ok (.ret (.ref s.heap.objs.size))/\s'={s with heap:=h',toks:=tk}/\(∀b o',s.heap.get? b=Z o'->h'.get? b=Z o')/\h'.get? s.heap.objs.size=Z {cls:=.type "list",dict:=Y,data:=.seq d c',slots:= #[]}/\ItemsOf (λi v=>∃t,v = .int (a+i*c) t) d n)
  (s:={s with heap:=s.heap.push {cls:=.type "list",data:=.seq ([]:List cN).toArray}}) y (hP1 _ hr) hsmall hn k _ _ 0 z λh' tk d c' p j x=>
   ⟨h',tk,d,c',O,O,λb o e=>p b o (nN1 (hL1 e)) (hP1 _ e),j,x⟩) (λm s' h=>?_) (λe s' h=>?_)
 ·cases m with
  |done f=>
   obtain⟨h',tk,d,c',e,rfl,q⟩:=h;cases e;exact g h' tk d c' q.1 q.2.1 q.2.2
  |again c'=>exact⟨h.1,codeAny_mono h.2 λr D hr=>by obtain⟨h',tk,d,c',rfl,rfl,q⟩:=hr;exact g h' tk d c' q.1 q.2.1 q.2.2⟩
 ·obtain⟨_,_,_,_,e,_⟩:=h;cases e
end
theorem tI(r:cP)(a b c:Int)(t u v:Tok)(n:Nat)(hsmall:Builtin.Range.small a b c=true)(hn:Builtin.Range.rangeSize a b c=n)(f:n<=2^20):
  Meets (Builtin.«tuple.__new__» ⟨[.type "tuple",.ref r],[]⟩)
   (λA R s=>A.handled=Y/\IsRange s.heap r a b c t u v /\ ∀(h':cX) (tk:Nat) (acc:Array cN),(∀b o',s.heap.get? b=Z o'->h'.get? b=Z o')->ItemsOf (λi v=>∃t,v = .int (a+i*c) t) acc n ->
    R (.ok (.ret (.ref h'.objs.size))) {s with heap:=h'.push {cls:=.type "tuple",data:=.seq acc},toks:=tk}):=
 .of_wp λprog w A R s h=>by
  obtain⟨q,g,d,j,D⟩:=s;obtain⟨x,l,h⟩:=h;have p:=sub_tuple_self;have m:=init_tuple_lookup;have y:=madeHere_tuple;have z:Shared.TypeIs ⟨q,g,d,j,D⟩ (.ref r) "range":=⟨_,l,O⟩;have k:A.in1.handled=Y:=x
  wp_walk using wpAny_loadPart' l,wpAny_typeOf z,sd k l hsmall hn (aC f (by decide))
  intro h' tk acc B o;show cW _ _ (Builtin.Tuple.tupleExact acc.toList.toArray >>= λv=>ret v) _ _ _;unfold Builtin.Tuple.tupleExact;have C:n<=cV:=aC f (by decide);refine wB1 (wO1 (?_:_) (show acc.toList.toArray.size<=cV by simp only[bX];rw[o.1];exact C));refine wP1 ⟨_,O,(?_:_)⟩;have e:acc.toList.toArray=acc:=by simp
  rw[e];exact h h' tk acc B o
section
variable{X:Cx}
theorem El(hc:X.calm=M):eG X (.type "tuple") (λxs H Q=>∃p i j,xs=[.ref p]/\H p=Z (.rng i j)/\(-(2^62)<=i/\i<2^62 /\ -(2^62)<=j/\j<2^62)/\(j-i).toNat<=2^20 /\ ∀l,H l=Y->Q (.ref l) (upd H l (.tup (jk i (j-i).toNat)))):=by
 intro ag s σ H xs K Q I r h;obtain⟨p,i,j,rfl,E,⟨h1,h2,C,y⟩,m,q⟩:=h;obtain⟨u,rfl,w⟩:=gM r;cases w;obtain⟨t,u,v,e⟩:=I.hok p _ E;have B:(((j-i).toNat:Nat):Int)=Builtin.Range.rangeSize i j 1:=by rw[rangeSize_one];split<;>lia
 refine callType_new F.called_tuple (by decide) (F.typeCall_tuple_1 _) (F.newCall_tuple_1 _) (λg=>F.args_object_init_2 g _) F.entry_tuple_new
  (tI p i j 1 t u v (j-i).toNat (small_one h1 h2 C y) B.symm m) ⟨I.ok.hd hc,e,λh' tk a A hi=>⟨⟨_,hS1 _ O,O⟩,(?_:_)⟩⟩
 obtain⟨f,d⟩:=hi;have c:dG (jk i (j-i).toNat) a.toList:=oY (by rw[iR];simpa using f.symm) λk x u z D=>by
  rw[mE _ _ _ _ z];obtain⟨G,rfl⟩:=d k u (by simpa using D);exact⟨G,by rw[Int.mul_one]⟩
 have n:Inv X ag σ H {s with heap:=h',toks:=tk}:=I.kept (t':=tk) A;have am:Inv X ag σ (upd H h'.objs.size (.tup (jk i (j-i).toNat))) {s with heap:=h'.push {cls:=.type "tuple",data:=.seq a},toks:=tk}:=
  n.laid (t':=tk) (λb o e=>hP1 _ e) (nR1 _) (show ev X.prog X.w _ _ _ (.tup _)from⟨by rw[iR];exact aC m (by decide),a.toList,c,by simpa using IsTup.new _ _⟩)
 exact⟨.ref h'.objs.size,_,am,O,q _ (n.hok.fresh (nR1 _))⟩
noncomputable def tK(m:FA):FE:=λr S=>(m r S).bind λp=>match p.1 with
 |[.int j]=>if nZ 0 j=M then Z (.tup (hC 0 j.toNat),p.2)else Y
 |_=>Y
theorem wY {a:Expr}{m:FA}{e p2 b c:Pos}(hc:X.calm=true)(hg:Gl X "range")(hm:X.mg "range"=none)(hg2:Gl X "tuple")(hm2:X.mg "tuple"=none)(ha:XA X [a] m)(hs:cU [a] X.env=[(false,eval a X.env)]:=by rfl)
  (hs2:cU [.Call (.Name "range" e) [a] [] b] X.env=[(J,eval (.Call (.Name "range" e) [a] [] b) X.env)]:=by rfl):XE X (.Call (.Name "tuple" p2) [.Call (.Name "range" e) [a] [] b] [] c) (tK m):=
 ⟨em (jh (El hc) hg2 hm2 (by decide+kernel) (j7 (n4 hg hm ha.h hs) mM hs2) (by decide) (by decide) hs2) <| by
  rintro σ H Q ⟨r,mu,S,d,x,n,hs,hm,f⟩;obtain⟨⟨ds,y⟩,q,hm⟩:=oB1.mp hm;dsimp only at hm;split at hm
  ·rename_i j;split at hm
   ·rename_i h;cases hm;refine⟨r,mu,S,_,_,n,hs,q,λvs H1 mu1 w k o=>?_⟩;obtain⟨v,rfl,t⟩:=j5 k;cases t;refine⟨j,O,λp g=>⟨p,0,j,O,dD,(j4 h).1,(j4 h).2,λl i=>?_⟩⟩;have s:=(w.trans (Ext.fresh (u:=.rng 0 j) g)).trans (Ext.fresh (u:=.tup (jk 0 (j-0).toNat)) i);exact f _ _ mu1 s (.tup (iI.of dD) (by rw[Int.sub_zero];exact mD _ _)) ((o.fresh g).fresh i)
   ·cases hm
  ·cases hm⟩
end
section
variable{P:cQ}{w:cS}{A:cR}{E:cN->cO->Prop}{s:cO}
end
section
variable{X:Cx}
end
section
variable{X:Cx}{a b:Expr}{rest:List Expr}{pos:Pos}{ta tb:TE}{f g:FE}
end
section
variable{X:Cx}
theorem KR.len{K:Fg1}{H:Hp}{mu:List cP}{ks:List (Key×D)}{ws:List (Key×V)}(h:KR K H mu ks ws):ws.length=ks.length:=by
 induction h with
 |nil=>rfl
 |cons _ _ ih=>rw[lC1,lC1,ih]
end
section
variable{P:cQ}{w:cS}{A:cR}{E:cN->cO->Prop}{b:Bool}
end
section
variable{X:Cx}
end
theorem tQ:∀{b:List cN} {ns:List Int},IntsAre b ns -> ∃xs:Array (Int×Tok),b.toArray=intItems xs/\xs.toList.map (·.1)=ns:=by
 intro b ns h
 induction h with
 |nil=>exact⟨#[],by simp[intItems],O⟩
 |cons n t _ ih=>
  obtain⟨xs,c,d⟩:=ih;refine⟨((n,t)::xs.toList).toArray,?_,by rw[mP1,d]⟩;have a:=congrArg Array.toList c;unfold intItems at a ⊢;rw[Array.toList_map]at a;rw[List.map_toArray,mP1]
  congr 1
  rw[<- a]
section
variable{X:Cx}
end
section
variable{prog:cQ}{w:cS}{A:cR}{E:cN->cO->Prop}{s:cO}
end
section
variable{X:Cx}{ag:List (cP×Obj)}{σ:L2.St}{H:Hp}{s:cO}{mu:List cP}
end
section
variable{X:Cx}
end
section
variable{X:Cx}{f:cP}{fd:cY}{ps:List Str}{k n:Nat}{sp:Sp}{dvs:List V}{ds:List cN}{CX:wL}{E:XK}{t:TA}{e:Expr}{es:List Expr}{p pos:Pos}{i:Nat}{v x:Str}
end
section
variable{prog:cQ}{w:cS}{K:Type} [DecidableEq K] {knd:HeapKind prog w K}{A:cR}{E:cN->cO->Prop}{s:cO}
end
section
variable{X:Cx}
end
theorem Hl.fits{es:Array (Int×cN)}{t:SetTable}(h:Hl es t):t.fits es.size=M:=by
 unfold SetTable.fits SetTable.fill;rw[h.du,h.sz];have:=h.fl;simp;exact this
def GN(h:cX)(k:TK)(e:Int×cN):Prop:=∃a,e=(k.hash,.ref a)/\fu h k (.ref a)/\k.dep<=8
section
variable{prog:cQ}{w:cS}{A:cR}{E:cN->cO->Prop}{s:cO}
end
theorem fu.keepsS{h h':cX}{p:cP}{es:Array (Int×cN)}{ep:Nat}{t:SetTable}(ho:h.get? p=some (stO es ep t))(hs:∀ a o,a≠p->h.get? a=some o->h'.get? a=some o):∀ {k:TK} {v:cN},fu h k v->fu h' k v:=fun e=>e.rec (motive_1:=fun k v _=>fu h' k v) (motive_2:=fun k v _=>gl h' k v) .non .int
  (λ{a} _ _ _ _ d f c _ ih=>.tup (hs a _ (λz=>by subst z;rw[d]at ho;cases ho;cases c) d) f c ih) .nil (λ_ _ a b=>.cons a b)
theorem fu.grows{h h':cX}(hs:∀ a o,h.get? a=some o->h'.get? a=some o):∀ {k:TK} {v:cN},fu h k v->fu h' k v:=fun e=>e.rec (motive_1:=fun k v _=>fu h' k v) (motive_2:=fun k v _=>gl h' k v) .non .int
  (λ{a} _ _ _ _ d f c _ ih=>.tup (hs a _ d) f c ih) .nil (λ_ _ a b=>.cons a b)
theorem GN.keep{h h':cX}{p:cP}{es:Array (Int×cN)}{ep:Nat}{t:SetTable}(ho:h.get? p=Z (stO es ep t))(hs:∀a o,a≠p->h.get? a=Z o->h'.get? a=Z o){k:TK}{e:Int×cN}(x:GN h k e):GN h' k e:=by
 obtain⟨a,b,d,c⟩:=x;exact⟨a,b,d.keepsS ho hs,c⟩
def GF(h:cX)(xs:List (TK×cP×cN)):Prop:=∀z∈xs,fu h z.1 (.ref z.2.1)/\z.1.dep<=8
theorem GF.el{h:cX}{xs:List (TK×cP×cN)}{es:Array (Int×cN)}(c:GF h xs)(a:∀e∈es.toList,∃z∈xs,e=(z.1.hash,.ref z.2.1)):∀e∈es.toList,∃f,GN h f e:=λe d=>by
 obtain⟨z,b,rfl⟩:=a e d;exact⟨z.1,z.2.1,O,(c z b).1,(c z b).2⟩
section
variable{P:cQ}{w:cS}{A:cR}{E:cN->cO->Prop}{s:cO}{p:cP}{xs:List (TK×cP×cN)}
end
section
variable{P:cQ}{w:cS}{A:cR}{E:cN->cO->Prop}
end
section
variable{X:Cx}
end
section
variable{X:Cx}{pos:Pos}
theorem ce{op:CmpOp}{x y:Expr}{f:FN}{a b:FE}(ho:fj X (compareOp op) (r2 X.K f))(hx:XE X x a)(hy:XE X y b)(hm:behindInMarks op y=J:=by exact ym _):XE X (.Compare x [op] [y] pos) (m2 f a b):=zX ho hx hy hm
theorem ct{op:CmpOp}{x y:Expr}{f:FN}{a b:FE}(ho:fj X (compareOp op) (r2 X.K f))(hx:XE X x a)(hy:XE X y b)(hm:behindInMarks op y=J:=by exact ym _):XT X (.Compare x [op] [y] pos) (mB (m2 f a b)):=qX ho hx hy hm
theorem kc{a:c3}{i:Nat}{l:List Nat}(x:Str)(r:∀i∈l,∃x,X.N[i]?=Z x/\a.names.lookup x=Z .free/\(X.env.kindOf x=Z .cell\/X.env.kindOf x=Z .free)/\(x,NameKind.cell)∉a.names)(h1:X.N[i]?=Z x:=by rfl)(h2:a.names.lookup x=Z .free:=by rfl)(c:X.env.kindOf x=Z .cell\/X.env.kindOf x=Z .free:=by first|exact Or.inl rfl|exact Or.inr rfl)(b:(x,NameKind.cell)∉a.names:=by decide+kernel):∀j∈i::l,∃x,X.N[j]?=Z x/\a.names.lookup x=Z .free/\(X.env.kindOf x=Z .cell\/X.env.kindOf x=Z .free)/\(x,NameKind.cell)∉a.names:=List.forall_mem_cons.mpr ⟨⟨x,h1,h2,c,b⟩,r⟩
end
structure dQ (K:Fg1)(x:Str)(st:cZ)(f:cP):Prop where
 ns:wN1 K cT x=some (some (.ref f))
 fn:∃fd,wT K x x st f fd
theorem Gi{K:Fg1}{x:Str}{st:cZ}{f:cP}{h:cN}{i j:Option cP}{d:Array (Option cN)}{kV e g b ct:cN}(a:wN1 K cT x=Z (Z (.ref f)))(l:K.lookup f=Z ⟨h,i,.func (wF1 x x (gY st) (eI st) (dz st) .none kV e g j b ct),d⟩)(c:wC1 K b x=M)(k:wK1 K (.ref f)=M):dQ K x st f:=⟨a,_,zh l c k⟩
theorem xo{P:cQ}{w:cS}{K:Fg1}{mg:Str->Option cN}{base h:cX}{x:Str}{st:cZ}{f:cP}{N ps:List Str}{k n:Nat}{b:FS}(X:K.In h)(G:h.Ns cT mg)(F:dQ K x st f)(S:fS N ps (dz st))(hb:∀(kV g j:cN) (l:Option cP) (a ct:cN) (e:List cN),e.length=ps.length->bindArgs (wF1 x x (gY st) (eI st) (dz st) .none kV g j l a ct) ⟨e,[]⟩=pure (ps.zip e))(c:∀(f:cP) (a:cN) (A:cR) (d:List Env) (s:cO) (H:Hp) (E:XK),fb k (A.deeper (envOfC x (dz st) s.heap.objs.size f a)) ->
   wI (lI sy P w K mg base N x (dz st) f a A d s H E).nox (eI st) b)(hn:ps.length=n:=by rfl):et P w K mg base (k+1) x n (gL N.length b):=by
 obtain⟨fd,i⟩:=F.fn;exact zV i (i.binds hb) (wM1 X G F.ns) S hn (c f)
section
variable{X:Cx}{ag:List (cP×Obj)}{σ:L2.St}{H:Hp}{s:cO}{mu:List cP}
end
section
variable{P:cQ}{w:cS}{A:cR}{E:cN->cO->Prop}{s:cO}{a x:cP}{xs:List (TK×cP×cN)}{k:TK}
end
section
variable{X:Cx}
end
section
variable{X:Cx}{o e:Expr}{es:List Expr}{to:TE}{t:TA}{name:Str}{apos cpos:Pos}{id:String}{r:V->List V->Hp->VK->Prop}
end
section
variable{X:Cx}
end
section
variable{X:Cx}{x y z u:Expr}{pos:Pos}{f g k:FN}{a b c d:FE}{op op' op'':CmpOp}{ta tb tc td:TE}
end
structure Blt (L:List Str)(mg:Str->Option cN):Prop where
 h:∀x∈L,mg x=none
theorem bz{L:List Str}{mg:Str->Option cN}{x:Str}(B:Blt L mg)(h:x∈L:=by decide):mg x=Y:=B.h x h
theorem sk{N P:List Str}{sc:c3}(h1:sc.kind = .function:=by rfl)(h2:sc.isCoroutine=J:=by rfl)(e:sc.isGenerator=J:=by rfl)(b:N.Nodup:=by decide+kernel)(a:N.take P.length=P:=by rfl)(c:∀x∈P,sc.names.lookup x=Z .local\/sc.names.lookup x=Z .cell:=by decide+kernel)(d:∀y∈sc.names,y.2 ≠ .free:=by decide+kernel):fS N P sc:=⟨h1,h2,e,b,a,c,d⟩
def GD(K:Fg1):List Str->Prop
 |[]=>True
 |x::l=>wN1 K cT x=Z Y/\GD K l
theorem GD.blt{K:Fg1}{mg:Str->Option cN}{h:cX}(X:K.In h)(G:h.Ns cT mg):∀{L:List Str},GD K L->Blt L mg
 |[],_=>⟨λ_ m=>nomatch m⟩
 |_::_,z=>⟨λ_ m=>match m with
  | .head _=>PySem.W.mg_none_of X G z.1
  | .tail _ m=>(GD.blt X G z.2).h _ m⟩
noncomputable def GP:List Str->Bool
 |[]=>M
 |x::l=> !l.contains x&&GP l
theorem gi:∀{l:List Str},GP l=M->l.Nodup
 |[],_=>bq
 |x::l,h=>by
  obtain⟨a,b⟩:=(bA1 _ _).mp h;exact aM.mpr ⟨λm=>(by rw[cf.mpr m]at a;cases a),gi b⟩
section
variable{X:Cx}{pos:Pos}{k:Nat}{x:Str}{i:Nat}{e y:Expr}{es:List Expr}{m b:FE}{a:FA}{p:Pos}
theorem xv (hN:X.N[i]?=Z x:=by rfl)(hv:Vis X.env.scope x:=by first|exact Or.inl rfl|exact Or.inr (Or.inl rfl)|exact Or.inr (Or.inr rfl))(hd:(x == ("__debug__":Str))=J:=by decide)(hcd:(x == ("__classdict__":Str))=J:=by decide):XE X (.Name x pos) (mV i):=IA i hN hv hd hcd
theorem gq(hN:GP X.N=M:=by rfl)(hi:X.N[i]?=Z x:=by rfl)(hx:uh X.env.scope x:=by first|exact Or.inl rfl|exact Or.inr rfl)(hf:X.fn x=M\/X.env.scope.names.lookup x=Z .local:=by first|exact .inl rfl|exact .inr rfl|assumption):XG X (.Name x pos) (gN i):=qO i (gi hN) hi hx hf
theorem sq(he:XE X e m)(hN:GP X.N=M:=by rfl)(hi:X.N[i]?=Z x:=by rfl)(hx:uh X.env.scope x:=by first|exact Or.inl rfl|exact Or.inr rfl)(hs:swapsWith e (Z (.Name x p)) pos.line X.env=pure J:=by rfl)(hf:X.fn x=M\/X.env.scope.names.lookup x=Z .local:=by first|exact .inl rfl|exact .inr rfl|assumption):XS X (.Assign [.Name x p] e pos) (dk m (gN i)):=qY i (gi hN) hi hx he hs hf
theorem jq(hx:XE X e m)(hy:XE X y b)(hr:fb k X.A:=by assumption)(hs:l5 y:=by intro _ _;rfl):XE X (.Subscript e y pos) (m2 (b2 da) m b):=qJ (qP hr.units) hx hy hs
theorem oq{au:Prop}(o:X.A.units+64<cLine->au)(hr:fb k X.A:=by assumption):au:=o hr.units
theorem wn {k' n:Nat}{f:FN}(h:et X.prog X.w X.K X.mg X.base k x n f)(ha:XA X (e::es) a)(hr:fb k' X.A:=by assumption)(hk:k<=k':=by first|decide|omega)(hg:Gl X x:=by rfl)(hdb:(x == ("__debug__":Str))=J:=by decide)(he:cU (e::es) X.env=(J,eval e X.env)::cU es X.env:=by rfl)(hpl:(backTo pos (cU es X.env)).any (·.1)=J:=by rfl):XE X (.Call (.Name x p) (e::es) [] pos) (mN (c7 n f) a):=qH h hr hk hg ha hdb he hpl
theorem cn {id:String}{f:FN}(hc:eG X (.builtin id) (rN X.K f))(ha:XA X (e::es) a)(hm:X.mg x=Y:=by exact bz (by assumption))(hg:Gl X x:=by rfl)(hv:bootBuiltins x=Z (.builtin id):=by decide+kernel)(hn:x≠"__name__":=by decide)(hdb:(x == ("__debug__":Str))=J:=by decide)(he:cU (e::es) X.env=(J,eval e X.env)::cU es X.env:=by rfl)(hpl:(backTo pos (cU es X.env)).any (·.1)=J:=by rfl):XE X (.Call (.Name x p) (e::es) [] pos) (mN f a):=qD hc hg hm hv ha hn hdb he hpl
theorem cz {T:String}{f:FN}(hc:eG X (.type T) (rN X.K f))(ha:XA X (e::es) a)(hm:X.mg x=Y:=by exact bz (by assumption))(hg:Gl X x:=by rfl)(hv:bootBuiltins x=Z (.type T):=by decide+kernel)(hn:x≠"__name__":=by decide)(hdb:(x == ("__debug__":Str))=J:=by decide)(he:cU (e::es) X.env=(J,eval e X.env)::cU es X.env:=by rfl)(hpl:(backTo pos (cU es X.env)).any (·.1)=J:=by rfl):XE X (.Call (.Name x p) (e::es) [] pos) (mN f a):=qE hc hg hm hv ha hn hdb he hpl
theorem a1(h:XE X e m)(hs:cU [e] X.env=(J,eval e X.env)::cU [] X.env:=by rfl):XA X [e] (c4 m c5):=qA h qN hs
theorem a2(h:XE X e m)(g:XE X y b)(hs:cU [e,y] X.env=(J,eval e X.env)::cU [y] X.env:=by rfl)(hs2:cU [y] X.env=(J,eval y X.env)::cU [] X.env:=by rfl):XA X [e,y] (c4 m (c4 b c5)):=qA h (a1 g hs2) hs
theorem a3{z:Expr}{c:FE}(h:XE X e m)(g:XE X y b)(l:XE X z c)(hs:cU [e,y,z] X.env=(J,eval e X.env)::cU [y,z] X.env:=by rfl)(hs2:cU [y,z] X.env=(J,eval y X.env)::cU [z] X.env:=by rfl)(a:cU [z] X.env=(J,eval z X.env)::cU [] X.env:=by rfl):XA X [e,y,z] (c4 m (c4 b (c4 c c5))):=qA h (a2 g l hs2 a) hs
theorem ir (ha:XA X [e] a)(hm:X.mg "range"=Y:=by exact bz (by assumption))(hg:Gl X "range":=by rfl)(hs:cU [e] X.env=[(J,eval e X.env)]:=by rfl):XI X y (.Call (.Name "range" p) [e] [] pos) (qc a):=sH hg hm ha hs
theorem ie {elts:List Expr}{b:Nat}{tpos:Pos}(ha:XA X [e] a)(hm:X.mg "enumerate"=Y:=by exact bz (by assumption))(hg:Gl X "enumerate":=by rfl)(hs:cU [e] X.env=[(J,eval e X.env)]:=by rfl):XI X (.Tuple elts b tpos) (.Call (.Name "enumerate" p) [e] [] pos) (wO a):=wX hg hm ha hs
structure Lm (X:Cx)(name:Str)(id:String)(f:FN):Prop where
 s:Slot "list" name id
 t:typeOf (.builtin id)=pure (.type "method_descriptor")
 m:EQ X id (λx xs H Q=>rN X.K f (x::xs) H Q)
theorem ap:Lm X "append" "list.append" (b2 jm):=⟨PySem.F.slot_list_append,PySem.F.type_list_append,E1⟩
theorem lq{f:FN}{name:Str}{apos:Pos}{id:String}(s:Lm X name id f)(ho:XE X y m)(ha:XA X (e::es) a)(hbase:attributeBase y name X.env (eval y X.env)=eval y X.env:=by rfl)(hfew:((backTo pos (cU (e::es) X.env)).all (λx=> !x.1)&&(backToKw pos (keywordEach [] X.env)).all (λx=>x.1.isSome)&&decide ((e::es).length+([]:List Keyword).length+(if([]:List Keyword).isEmpty then 0 else 1)<30))=M:=by rfl)(hline:(apos.endLine == pos.line)=M:=by rfl)(hs:cU (e::es) X.env=(J,eval e X.env)::cU es X.env:=by rfl)(hplain:(backTo pos (cU es X.env)).any (·.1)=J:=by rfl):XS X (.Expr (.Call (.Attribute y name apos) (e::es) [] pos) p) (eE (ri f m a)):=l8 (qe s.s s.t s.m ho ha hbase hfew hline hs hplain)
theorem fo{tg iter:Expr}{a:List cZ}{m:FI}{g:FG}{b:FS}(hi:XI X tg iter m)(hg:XG X tg g)(hb:wI X a b)(hp:PassesOwn (model X.prog X.w) X.A X.env X.xe:=by exact PassesOwn.never)(hc:X.calm=M:=by rfl)(hs:∀x,foldedSetIterable iter X.env x=pure x:=by intro _;rfl):XS X (.For tg iter a [] pos) (fO m g b):=qW hp hc hi hg hb hs
theorem tg2{d:Expr}{g h:FG}{a:Nat}(h1:XG X e g)(h2:XG X d h)(hc:X.calm=M:=by rfl)(hs:(assignEach [e,d] X.env).map (·.2)=assign e X.env::(assignEach [d] X.env).map (·.2):=by rfl)(hs2:(assignEach [d] X.env).map (·.2)=assign d X.env::(assignEach [] X.env).map (·.2):=by rfl)(hn:(assignEach [e,d] X.env).length=2:=by rfl)(hst:(assignEach [e,d] X.env).findIdx? (·.1)=Y:=by rfl):XG X (.Tuple [e,d] a pos) (gT 2 (gCs g (gCs h gNl))):=gn hc (dr h1 (dr h2 fx hs2) hs) hn hst
noncomputable def GQ(x:Str):List (Str×NameKind)->Bool
 |[]=>M
 |(y,.cell)::l=> !(y == x)&&GQ x l
 |_::l=>GQ x l
omit k i in
theorem yq:∀{l:List (Str×NameKind)},GQ x l=M->(x,NameKind.cell)∉l
 |[],_,m=>nomatch m
 |(y,c)::l,h,m=>by
  rcases aE.mp m with e|a
  ·cases e;have h:=((bA1 _ _).mp h).1;rw[beq_self_eq_true]at h;cases h
  ·cases c with
   |cell=>exact yq ((bA1 _ _).mp h).2 a
   |_=>exact yq (l:=l) h a
theorem kz{a:c3}{l:List Nat}(r:∀i∈l,∃x,X.N[i]?=Z x/\a.names.lookup x=Z .free/\(X.env.kindOf x=Z .cell\/X.env.kindOf x=Z .free)/\(x,NameKind.cell)∉a.names)(h1:X.N[i]?=Z x:=by rfl)(h2:a.names.lookup x=Z .free:=by rfl)(c:X.env.kindOf x=Z .cell\/X.env.kindOf x=Z .free:=by first|exact Or.inl rfl|exact Or.inr rfl)(b:GQ x a.names=M:=by rfl):∀j∈i::l,∃x,X.N[j]?=Z x/\a.names.lookup x=Z .free/\(X.env.kindOf x=Z .cell\/X.env.kindOf x=Z .free)/\(x,NameKind.cell)∉a.names:=kc x r h1 h2 c (yq b)
noncomputable def Iq(X:Cx)(sc:c3):List (Str×cP):=(jn X.env.cells sc.names []).getD []
theorem fk{elt tg iter:Expr}{ifs:List Expr}{scope:c3}(T:List Str){keep:List Nat}{m:FI}{g:FG}{t:FT}{e:FE}(hi:XI X tg iter m)(hb:∀ {s H d},HP (cxC X scope (Iq X scope) T keep s H d) X.K tg ifs elt g t e)(free:∀i∈keep,∃x,X.N[i]?=Z x/\scope.names.lookup x=Z .free/\(X.env.kindOf x=Z .cell\/X.env.kindOf x=Z .free)/\(x,NameKind.cell)∉scope.names:=by first|exact cg _|exact kz (cg _)|exact kz (kz (cg _))|exact kz (kz (kz (cg _)))|exact kz (kz (kz (kz (cg _)))))(hc:X.calm=M:=by rfl)(b:scope.kind = .function:=by rfl)(a:∀x∈scope.names,x.2 = .local->scope.names.lookup x.1=Z .local:=by decide+kernel)(c:jn X.env.cells scope.names []=Z (Iq X scope):=by rfl)(hs:∀x,foldedSetIterable iter X.env x=pure x:=by intro _;rfl):XE X (.ListComp elt [⟨tg,iter,ifs,0⟩] scope pos) (d4 T.length keep m g t (dW e)):=qZ hc ⟨b,a,free⟩ c hi (λ_ _ _=>hb) hs
end
theorem xq{P:cQ}{w:cS}{K:Fg1}{mg:Str->Option cN}{base h:cX}{x:Str}{st:cZ}{f:cP}{k n:Nat}{b:FS}(N:List Str)(X:K.In h)(G:h.Ns cT mg)(F:dQ K x st f)(c:∀{f:cP} {a:cN} {A:cR} {d:List Env} {s:cO} {H:Hp} {E:XK},fb k (A.deeper (envOfC x (dz st) s.heap.objs.size f a)) ->
   wI (lI sy P w K mg base N x (dz st) f a A d s H E).nox (eI st) b)(S:fS N (N.take n) (dz st):=by exact sk)(hb:∀(kV i j:cN) (m:Option cP) (a ct:cN) (e:List cN),e.length=(N.take n).length->bindArgs (wF1 x x (gY st) (eI st) (dz st) .none kV i j m a ct) ⟨e,[]⟩=pure ((N.take n).zip e):=by
   intro _ _ _ _ _ _ e g;first|exact Ij g λ_=>rfl|exact Ii g λ_ _=>rfl|exact Ih g λ_ _ _=>rfl|exact I7 g λ_ _ _ _=>rfl)(hn:(N.take n).length=n:=by rfl):et P w K mg base (k+1) x n (gL N.length b):=xo X G F S hb (λ_ _ _ _ _ _ _ l=>c l) hn
open AutoSeq1 (wpAny_loadPart')
theorem iW:fillsNumberSlot (.type "tuple") "mul"=pure J:=
 PySem.fillsNumberSlot_seq (id:="tuple.__mul__") (r:=Z (.builtin "tuple.__rmul__")) F.slot_tuple_mul.lookup (by decide+kernel) F.slot_tuple_rmul.lookup (by decide+kernel)
theorem ph:seqRepeat? (.type "tuple")=pure (Z (.builtin "tuple.__mul__")):=by
 unfold seqRepeat?;rw[PySem.seqSlot_of (T:="tuple") (name:="__mul__") (id:="tuple.__mul__") F.slot_tuple_mul.lookup (by decide+kernel),PySem.seqSlot_of (T:="tuple") (name:="__rmul__") (id:="tuple.__rmul__") F.slot_tuple_rmul.lookup (by decide+kernel)];rfl
theorem mF(a:Int)(t:Tok)(l:cP)(items:Array cN)(n:Nat)(dd:Option cP)(sl:Array (Option cN)):
  Meets (Builtin.«int.__rmul__» ⟨[.int a t,.ref l],[]⟩) (λ_ R s=>s.heap.get? l=Z {cls:=.type "tuple",dict:=dd,data:=.seq items n,slots:=sl}/\R (.ok (.ret Value.notImplemented)) s):=.of_wp λ_ _ _ _ s h=>by
 obtain⟨c,g,d,tk,e⟩:=s;obtain⟨b,h⟩:=h;wp_walk using wpAny_loadPart' b,wpAny_load b;exact⟨_,O,h⟩
theorem AZ(l:cP)(items:Array cN)(n:Nat)(dd:Option cP)(sl:Array (Option cN))(x:Int)(u:Tok)(h0:(decide (x < -(2^63))||decide (x>=2^63))=false)(h1:(items.isEmpty||x == 1)=false)(h2:(decide (x<=0)||items.isEmpty)=false)(e:¬ ((items.size:Int)*x>(2^63-1)/8))(i:Builtin.Tuple.tupleTooMany ((items.size:Int)*x)=false)(f:¬ (List.foldl (fun c b=>c++b) #[] (aN x.toNat items)).size>cV):
  Meets (Builtin.«tuple.__mul__» ⟨[.ref l,.int x u],[]⟩) (λ_ R s=>s.heap.get? l=Z {cls:=.type "tuple",dict:=dd,data:=.seq items n,slots:=sl}/\R (.ok (.ret (Value.ref s.heap.objs.size))) {s with heap:=s.heap.push {cls:=Value.type "tuple",data:=Data.seq (List.foldl (λc b=>c++b) #[] (aN x.toNat items))}}):=.of_wp λ_ _ _ _ s h=>by
 obtain⟨j,g,d,tk,k⟩:=s;obtain⟨a,h⟩:=h
 wp_walk using wpAny_loadPart' a,wpAny_load a
 refine wpAny_ite_false (ai (by rw[h0];exact aJ)) ?_
 wp_walk using wpAny_loadPart' a,wpAny_load a
 refine wpAny_ite_false (ai e) ?_
 wp_walk using wpAny_loadPart' a,wpAny_load a
 exact⟨_,O,h⟩
noncomputable def Fo(K:Fg1):R2:=λx y H Q=>∃l k xs,x = .ref l/\y = .int k/\iI K H l xs/\2<=k/\k<2^62/\xs≠[]/\xs.length*k.toNat<=cV /\
 ∀p,H p=Y->Q (.ref p) (upd H p (.tup (aN k.toNat xs).flatten))
section
variable{X:Cx}
theorem AL:fj X (binaryOp .Mult) (Fo X.K):=by
 intro ag s σ H x y v u Q I D K h;obtain⟨l,k,xs,rfl,rfl,L,h1,h2,am,w,q⟩:=h;cases D;obtain⟨t,rfl⟩:=K;obtain⟨a,r,p,_⟩:=I.tuple L;obtain⟨⟨B,g,m,i⟩,d,hc,n,A⟩:=id p;simp only at hc A;subst hc A;have e:a≠[]:=λz=>am (r.nil_iff.mp z);have c:a.toArray.isEmpty=J:=by simpa using e
 have C:a.length=xs.length:=r.length.symm;have j:List.foldl (λG E=>G++E) #[] (aN k.toNat a.toArray)=(aN k.toNat a).flatten.toArray:=by
  have:=oA a k.toNat [];rw[ci]at this;exact this
 have f:a.toArray.size*k.toNat<=cV:=by rw[sT1,C];exact w
 have hi:((a.toArray.size:Nat):Int)*k=((a.toArray.size*k.toNat:Nat):Int):=by
  rw[Int.natCast_mul,Int.toNat_of_nonneg (by lia)]
 refine wpAny_binaryOp_repeat_ref (T:="tuple") (U:="int") (by decide) ⟨_,d,O⟩ (λs'=>typeIs_int s' k t) iW F.fills_int_mul F.slot_int_rmul ph F.slot_int_index.lookup
  (call_meets F.slot_int_rmul (typeIs_int s k t) F.entry_int_rmul (F.args_int_rmul_2 _ _) (mF k t l a.toArray n g i)
   ⟨d,O,⟨_,d,O⟩,call_meets F.slot_tuple_mul ⟨_,d,O⟩ F.entry_tuple_mul (F.args_tuple_mul_2 _ _) (AZ l a.toArray n g i k t ?_ ?_ ?_ ?_ ?_ ?_) ⟨d,?_⟩⟩)
 ·rw[ai (by lia),ai (by lia)];rfl
 ·rw[c,Bool.false_or,beq_eq_false_iff_ne];lia
 ·rw[c,Bool.or_false,ai (by lia)]
 ·rw[hi];have:(cV:Int)<=(2^63-1)/8:=by decide
  lia
 ·rw[hi];unfold Builtin.Tuple.tupleTooMany;exact ai (by lia)
 ·rw[j,sT1,uS];rw[sT1,Nat.mul_comm]at f;lia
 rw[j];refine⟨.ref s.heap.objs.size,_,I.laid (t':=s.toks) (o:=.tup (aN k.toNat xs).flatten) (λb ao q=>hP1 _ q) (nR1 _) ?_,O,q _ (I.hok.fresh (nR1 _))⟩;exact⟨by rw[uS,Nat.mul_comm];exact w,_,r.rep k.toNat,IsTup.new _ _⟩
end
mutual
noncomputable def pl:D->Bool
 | .non=>M
 | .bl _=>M
 | .int _=>M
 | .str _=>M
 | .tup xs=>Ia xs
 |_=>J
noncomputable def Ia:List D->Bool
 |[]=>M
 |x::xs=>pl x&&Ia xs
end
section
variable{X:Cx}{ag:List (cP×Obj)}{σ:L2.St}{H:Hp}{s:cO}{mu:List cP}{S:c6}
end
section
variable{prog:cQ}{w:cS}{A:cR}{E:cN->cO->Prop}{s:cO}
end
section
variable{X:Cx}{ag:List (cP×Obj)}{σ:L2.St}{H:Hp}{s:cO}{mu:List cP}{S:c6}
end
section
variable{prog:cQ}{w:cS}{A:cR}{E:cN->cO->Prop}{s:cO}
end
section
variable{X:Cx}
end
abbrev rk(ws:List cN)(p:Keyed):Nat:=IY ws p.1
section
variable{prog:cQ}{w:cS}{A:cR}{E:cN->cO->Prop}{s:cO}{κ:SortKind}{ws:List cN}{a₀:Array Keyed}
end
structure Sm (st st':SortSt):Prop where
 k:kindOf st'=kindOf st
 a:arrOf st'=arrOf st
 p:pendingOf st'=pendingOf st
 f:failedOf st'=failedOf st
theorem Sm.rfl{st:SortSt}:Sm st st:=⟨_root_.rfl,_root_.rfl,_root_.rfl,_root_.rfl⟩
theorem Sm.g{st st':SortSt}(h:Sm st st')(g:Nat):Sm st (SortSt.mk' (kindOf st') (arrOf st') (pendingOf st') g (failedOf st')):=⟨h.k,h.a,h.p,h.f⟩
def zR(ws:List cN)(xs:List Keyed):Prop:=xs.Pairwise λp q=>rk ws p<rk ws q
def wM(ws:List cN)(xs ys:List Keyed):Prop:=∀x∈xs,∀y∈ys,rk ws x<rk ws y
section
variable{ws:List cN}{a b out xs ys zs:List Keyed}{i j k:Nat}
theorem zR.app(h1:zR ws xs)(h2:zR ws ys)(h:wM ws xs ys):zR ws (xs++ys):=List.pairwise_append.mpr ⟨h1,h2,h⟩
theorem wM.app(h1:wM ws xs zs)(h2:wM ws ys zs):wM ws (xs++ys) zs:=λx b y a=>(aF.mp b).elim (λh=>h1 x h y a) λh=>h2 x h y a
def Jj(ws:List cN)(a b r:List Keyed):Prop:=r.Perm (a++b)/\zR ws r
end
section
variable{prog:cQ}{w:cS}{A:cR}{E:cN->cO->Prop}{s:cO}{κ:SortKind}{ws:List cN}{a₀:Array Keyed}
end
section
variable{ws:List cN}{a b out xs ys zs:List Keyed}{i j k t:Nat}
theorem wM.to(h1:wM ws xs ys)(h2:wM ws xs zs):wM ws xs (ys++zs):=λx a y b=>(aF.mp b).elim (λh=>h1 x a y h) λh=>h2 x a y h
structure K0 (ws:List cN)(a b out:List Keyed)(i j:Nat):Prop where
 la:i<=a.length
 lb:j<=b.length
 len:out.length+(i+j)=a.length+b.length
 pm:(a.take i++b.take j++out.reverse).Perm (a++b)
 so:zR ws out.reverse
 ba:wM ws (a.take i) out
 bb:wM ws (b.take j) out
theorem K0.fs(h:K0 ws a b out i j)(e:zR ws a)(f:zR ws b)(hb:wM ws (b.take j) (a.take i)):Jj ws a b (b.take j++a.take i++out.reverse):=by
 refine⟨(List.perm_append_comm.append_right _).trans h.pm,?_⟩;exact(zR.app (f.sublist (aS _ _)) (e.sublist (aS _ _)) hb).app h.so (wM.app (λx c y d=>h.bb x c y (List.mem_reverse.mp d)) λx c y d=>h.ba x c y (List.mem_reverse.mp d))
end
section
variable{prog:cQ}{w:cS}{A:cR}{E:cN->cO->Prop}{s:cO}{κ:SortKind}{ws:List cN}{a₀:Array Keyed}
end
def x0:Nat->List (List Keyed)->List (Nat×Nat×Nat)->Prop
 |_,[],[]=>True
 |s,r::rs,(t,n,_)::p=>t=s/\n=r.length/\x0 (s+r.length) rs p
 |_,_,_=>False
structure SR (ws:List cN)(κ:SortKind)(a₀:Array Keyed)(rs:List (List Keyed))(rest:List Keyed)(st:SortSt):Prop where
 k:kindOf st=κ
 f:failedOf st=none
 pm:(arrOf st).Perm a₀
 ar:(arrOf st).toList=rs.flatten++rest
 so:∀r∈rs,zR ws r/\r≠[]
 pe:x0 0 rs (pendingOf st).toList
section
variable{prog:cQ}{w:cS}{A:cR}{E:cN->cO->Prop}{s:cO}{κ:SortKind}{ws:List cN}{a₀:Array Keyed}
end
section
variable{prog:cQ}{w:cS}{A:cR}{E:cN->cO->Prop}{s:cO}{κ:SortKind}{ws:List cN}{a₀:Array Keyed}{lo:Nat}{st0:SortSt}
end
section
variable{prog:cQ}{w:cS}{A:cR}{E:cN->cO->Prop}{s:cO}{κ:SortKind}{ws:List cN}{a₀:Array Keyed}{rs:List (List Keyed)}{rest:List Keyed}{st st':SortSt}
theorem SR.size(h:SR ws κ a₀ rs rest st):rs.flatten.length+rest.length=a₀.size:=by
 have:=congrArg List.length h.ar;rw[aI,h.pm.size_eq,lA1]at this;exact this.symm
end
section
variable{prog:cQ}{w:cS}{A:cR}{E:cN->cO->Prop}{s:cO}
end
section
variable{X:Cx}
end
theorem oF:entryFor table "dict.update.loop"=Z Builtin.«dict.update.loop» :=entryFor_of_tree (by kernel_rfl)
theorem jg:plainId "dict.update.loop"=M:=by decide+kernel
theorem vX:typeLookup (.type "list") (Str.ofString "keys")=pure Y:=by rw[typeLookup_type,builtinLookup_eq_fast];kernel_rfl
section
variable{P:cQ}{w:cS}{A:cR}{E:cN->cO->Prop}{s:cO}
theorem wF {a:cP}{xs:Array cN}{k:Nat}{sl:Array (Option cN)}{Q:Option cN->cO->Prop}(hx:s.heap.get? a=some {cls:=.type "list",dict:=none,data:=.seq xs k,slots:=sl})(l:A.handled=none)
  (h:∀h' tk,(∀b o,s.heap.get? b=Z o->h'.get? b=Z o)->Q Y {s with heap:=h',toks:=tk}):cW (model P w) A (getAttr? (.ref a) (Str.ofString "keys")) Q E s:=by
 obtain⟨j,g,d,tk,m⟩:=s;have i:∀c,(⟨j,g,d,c,m⟩:cO).TypeIs (.ref a) "list":=λ_=>⟨_,hx,O⟩;have u:=sub_AttributeError;have p:=PySem.F.slot_list_getattribute.lookup;have r:=PySem.F.slot_list_getattribute.bind (.ref a);have q:=am_list_getattr_none;unfold getAttr? getAttrBy? getAttrBy
 repeat(any_goals (first|assumption|exact i _|((with_reducible show cW _ _ (call (Value.builtin "list.__getattribute__") _ _) _ _ _);refine call_meets PySem.F.slot_list_getattribute (i _) am_entry_list_getattribute (PySem.F.args_list_getattribute_2 _ _) (meets_getattribute_miss_list a xs k sl _ _ vX (by decide) (by decide)) ⟨hx,l,λh' c e f=>?_⟩)|wp_step))
 obtain⟨v,t,n⟩:=f.there;show cW _ _ (getattributeRaised _ _ _ _ _ _ _) _ _ _;unfold getattributeRaised
 repeat(any_goals (first|assumption|wp_step))
 exact h _ _ f.keeps
variable{K:Type} [DecidableEq K] {knd:HeapKind P w K}
abbrev sC(K:Type):=K×cP×cN
noncomputable def gk(ps:List (sC K)):List (sC K):=ps.foldl (λa q=>storedH a q.1 q.2.1 q.2.2) []
theorem qo(xs:List (sC K))(k:K)(a:cP)(v:cN):(storedH xs k a v).length<=xs.length+1:=by
 unfold storedH;split
 ·rw[lM1];exact aX _
 ·rw[lA1];exact nR1 _
theorem oB:∀(ps acc:List (sC K)),(ps.foldl (λa q=>storedH a q.1 q.2.1 q.2.2) acc).length<=acc.length+ps.length
 |[],acc=>nR1 _
 |p::ps,acc=>by
  rw[aZ,lC1];have h1:=oB ps (storedH acc p.1 p.2.1 p.2.2);have h2:=qo acc p.1 p.2.1 p.2.2;lia
theorem tV{ps:List (sC K)}{i:Nat}{q:sC K}(h:ps[i]?=Z q):gk (ps.take (i+1))=storedH (gk (ps.take i)) q.1 q.2.1 q.2.2:=by
 unfold gk;rw[b7,h,List.foldl_append];rfl
theorem rK{F:sC K->Prop}(d:∀(k:K) (a:cP) (v e:cN),F (k,a,v)->F (k,a,e)):∀(ps acc:List (sC K)),(∀x∈ps,F x)->(∀x∈acc,F x) -> ∀x∈ps.foldl (λa q=>storedH a q.1 q.2.1 q.2.2) acc,F x
 |[],acc,_,h=>h
 |p::ps,acc,hp,h=>by
  rw[aZ];refine rK d ps _ (λx b=>hp x (mC1 _ b)) λx b=>?_;unfold storedH at b;split at b
  ·obtain⟨y,c,rfl⟩:=b6.mp b;unfold putAt;split
   ·exact d _ _ y.2.2 _ (h y c)
   ·exact h y c
  ·rcases aF.mp b with z|z
   ·exact h x z
   ·simp at z;subst z;exact hp p mS1
theorem zi{h:cX}{ps:List (sC K)}(hp:∀x∈ps,knd.is h x.1 x.2.1):∀x∈gk ps,knd.is h x.1 x.2.1:=
 rK (F:=λx=>knd.is h x.1 x.2.1) (λ_ _ _ _ z=>z) ps [] hp λx a=>by cases a
theorem wu{d l it:cP}{h0:cX}{its:Array cN}{ps:List (sC K)}{R:Result->cO->Prop}(hh:A.handled=none)(aq:knd.room A.in1)(B:its.size=ps.length)(hps:ps.length<=cV)(U:h0.IsList l its)(nd:h0.get? d=none)(ni:h0.get? it=none)(g:d≠it)(f:∀(h:cX) (k:K) (a:cP),(∀c o,h0.get? c=some o->h.get? c=some o)->knd.is h0 k a->knd.is h k a)(S:∀(i:Nat) (q:sC K),ps[i]?=some q -> ∃D:cP,its[i]?=some (Value.ref D)/\h0.IsTuple D #[Value.ref q.2.1,q.2.2]/\knd.is h0 q.1 q.2.1):
  ∀(n i:Nat) (s:cO),its.size-i=n->i<=its.size->(∀c o,h0.get? c=Z o->s.heap.get? c=Z o)->s.heap.IsListIter it l i->s.heap.DictOfH knd d (gk (ps.take i)) ->
  (∀h' tk,(∀c o,h0.get? c=Z o->h'.get? c=Z o)->h'.DictOfH knd d (gk ps)->R (.ok (.ret .none)) {s with heap:=h',toks:=tk})->codeAny (model P w) A (.builtin "dict.update.loop" ⟨[.ref d,.ref it,.int i 0,.none],[]⟩) R s:=by
 have C:∀{c:cP} {o:Obj},h0.get? c=Z o->c≠d/\c≠it:=λ{c o} e=>⟨λz=>(by rw[z,nd]at e;cases e),λz=>(by rw[z,ni]at e;cases e)⟩;have u:∀i,∀x∈gk (ps.take i),knd.is h0 x.1 x.2.1:=λi=>zi λx p=>by
  obtain⟨j,wq⟩:=br (cj p);obtain⟨_,_,_,h⟩:=S j x wq;exact h
 intro n
 induction n with
 |zero=>
  intro i s X hi keep st G q;have e:i=its.size:=by lia
  subst e;have m:s.heap.IsList l its:=by obtain⟨o,e,r⟩:=U;exact⟨o,keep _ _ e,r⟩
  refine wD1 oF (?_:_);rw[Around.under_plainId jg _];show cW _ A.in1 (pyNext (.ref it) >>= _) _ _ s;refine wB1 (wpAny_pyNext_list_end (by simpa using hh) st m (by simp) λh' N=>?_);refine wB1 (wP1 (wP1 ?_));refine q h' s.toks (λc o e=>N c o (C e).2 (keep c o e)) ?_;have v:h'.DictOfH knd d (gk (ps.take its.size)):=by
   obtain⟨o,es,ep,Q,E,am,I,g5,F⟩:=G;have k2:∀x∈gk (ps.take its.size),knd.is h' x.1 x.2.1:=λx p=>f _ _ _ (λc o e=>N c o (C e).2 (keep c o e)) (u _ x p);exact⟨o,es,ep,N d o g Q,E,am,I,k2,F⟩
  rw[B,bT]at v;exact v
 |succ n ih=>
  intro i s X hi keep st G q;have L:i<its.size:=by lia
  have m:s.heap.IsList l its:=by obtain⟨o,e,r⟩:=U;exact⟨o,keep _ _ e,r⟩
  obtain⟨pr,y⟩:∃pr,ps[i]?=some pr:=⟨_,gG1 (by lia)⟩;obtain⟨D,p,⟨op,W,hc,np,hd⟩,H⟩:=S i pr y;refine wD1 oF (?_:_);rw[Around.under_plainId jg _];show cW _ A.in1 (pyNext (.ref it) >>= _) _ _ s;refine wB1 (wpAny_pyNext_list_item st m p λh' st' V=>?_);have b:∀c o,h0.get? c=Z o->h'.get? c=Z o:=λc o e=>by rw[V.2 c (C e).2];exact keep c o e
  have ao:h'.DictOfH knd d (gk (ps.take i)):=by
   obtain⟨o,es,ep,Q,E,am,I,g5,F⟩:=G;exact⟨o,es,ep,by rw[V.2 d g];exact Q,E,am,I,λx p=>f _ _ _ b (u _ x p),F⟩
  show cW _ A.in1 (holding [Value.ref D] _ >>= _) _ _ _;refine wB1 (wpAny_holding (wB1 (wpAny_tryCatch ?_)));unfold Builtin.Dict.pairItems;refine wB1 (wpAny_typeOf (T:="tuple") ⟨op,b _ _ W,hc⟩ ?_);rw[ak (by decide)];refine wB1 (wpAny_seqItems (b _ _ W) hd (wP1 ?_));dsimp only[ck];refine wpAny_holding (wpAny_dictSet_heap (s:={s with heap:=h'}) aq (f _ _ _ b H) ao (λh2 au t=>?_) ?_)
  ·refine wP1 ⟨plainId_quiet jg _,?_⟩;have hq:=ih (i+1) {s with heap:=h2,toks:=s.toks+knd.draws pr.1} (by lia) L (fun c o e=>by rw [t.2 c (C e).1];exact b c o e) (by
    obtain⟨o,e1,e2⟩:=st';exact⟨o,by rw[t.2 it (Ne.symm g)];exact e1,e2⟩) (by rw[tV y];exact au) λh3 tk k3 x3=>q h3 tk k3 x3
   exact hq
  ·have:=oB (ps.take i) [];unfold gk;rw[aP]at this;simp at this;lia
theorem t5 {l:cP}{xs:Array cN}{m:Nat}{sl:Array (Option cN)}{Q:cN->cO->Prop}(n:A.handled=none)(hx:s.heap.get? l=some {cls:=.type "list",dict:=none,data:=.seq xs m,slots:=sl})
  (i:∀(j:cR) (h1:cX) (tk:Nat) (it:cP),j.handled=Y->j.units<=A.units+2->(∀b o,s.heap.get? b=Z o->h1.get? b=Z o)->s.heap.get? it=Y->s.heap.objs.size≠it->h1.IsListIter it l 0->h1.DictOfH knd s.heap.objs.size [] ->
   ∀R:Result->cO->Prop,(∀s',Q (.ref s.heap.objs.size) s'->R (.ok (.ret .none)) s')->codeAny (model P w) j (.builtin "dict.update.loop" ⟨[.ref s.heap.objs.size,.ref it,.int 0 0,.none],[]⟩) R {s with heap:=h1,toks:=tk}):
  cW (model P w) A (call (.type "dict") [.ref l]) Q E s:=by
 refine callType_codes (Q₁:=λh d=>h = .ref s.heap.objs.size/\d={s with heap:=s.heap.push {cls:=.type "dict",data:=.dict #[]}}) PySem.F.kt_called_dict (PySem.F.kt_typeCall_dict_1 _) PySem.F.entry_dict_init (kt_code_dict_new _ ⟨O,O⟩) ?_;rintro h d ⟨rfl,rfl⟩;have f:(s.heap.push {cls:=.type "dict",data:=.dict #[]}).DictOfH knd s.heap.objs.size []:=Heap.DictOfH.new s.heap;have r:Shared.TypeIs {s with heap:=s.heap.push {cls:=.type "dict",data:=.dict #[]}} (.ref s.heap.objs.size) "dict":=f.typeIs;have g:(s.heap.push {cls:=.type "dict",data:=.dict #[]}).get? l=Z {cls:=.type "list",dict:=Y,data:=.seq xs m,slots:=sl}:=hP1 _ hx;refine⟨r,PySem.F.args_dict_init_2 _ _,?_⟩;unfold Builtin.«dict.__init__»;refine wB1 ?_;unfold Builtin.Dict.selfAndRest;refine wB1 (wpAny_notOrdered_dict r ?_);show cW _ _ (pure (s.heap.objs.size,[Value.ref l])) _ _ _;refine wP1 ?_;show cW _ _ (Builtin.Dict.updateFrom "dict.__init__" s.heap.objs.size (.ref l) [] .none) _ _ _;unfold Builtin.Dict.updateFrom;refine wB1 (wpAny_typeOf (T:="list") ⟨_,g,O⟩ ?_);rw[ak (by decide)];refine wB1 (wF (s:={s with heap:=s.heap.push {cls:=.type "dict",data:=.dict #[]}}) g (by simpa using n) λh1 tk keep=>?_);rw[ak (show(Y:Option cN).isNone=M from rfl)];have a:∀b o,s.heap.get? b=Z o->h1.get? b=Z o:=λb o e=>keep b o (hP1 _ e);have v:h1.IsList l xs:=⟨_,a _ _ hx,O,m,O⟩;refine wB1 (wpAny_rule (wB1 (wpAny_pyIter_list (s:={s with heap:=h1,toks:=tk}) v ?_)));obtain⟨t,es,ep,C,u,B,z,D,y⟩:=f;have p:=keep _ _ C;have k:=hL1 p;have c:h1.get? h1.objs.size=Y:=Heap.get?_none_of_le (nR1 _);refine wB1 (wP1 (wP1 ⟨plainId_quiet jg _,?_⟩));refine i A.in1 _ tk h1.objs.size (by simpa using n) (aX _) (λb o e=>hP1 _ (a b o e)) ?_ (nN1 k) ?_ ?_ _ λs' q=>⟨O,q⟩
 ·cases e:s.heap.get? h1.objs.size with
  |none=>rfl
  |some o=>rw[a _ _ e]at c;cases c
 ·exact⟨_,hS1 _ O,O,O⟩
 ·exact⟨t,es,ep,hP1 _ p,u,B,z,(λx hx=>by cases hx),y⟩
end
noncomputable def Ip(F:List (TK×D)):Ob:=match F with
 |[]=>.dct []
 |_=>.dcT F
noncomputable def uK:D->Option (TK×D)
 | .tup [k,v]=>(keyT k).map λk=>(k,v)
 |_=>Y
noncomputable def iU:List D->Option (List (TK×D))
 |[]=>Z []
 |x::xs=>(uK x).bind λp=>(iU xs).map (p :: ·)
noncomputable def lj(ps:List (TK×D)):List (TK×D):=ps.foldl (λF p=>fG F p.1 p.2) []
noncomputable def m9:G1:=λd S=>match dn S d with
 |some (M,xs)=>(iU xs).bind λps=>if xs.length<=100000 then Z (.ref S.length,S++[Ip (lj ps)])else Y
 |_=>Y
section
variable{X:Cx}{ag:List (cP×Obj)}{σ:L2.St}{H:Hp}{s:cO}{mu:List cP}
theorem yb(I:Inv X ag σ H s){d:D}{v:V}{u:cN}{p:TK×D}(r:d3 X.K H mu d v)(q:dy v u)(h:uK d=some p):
  ∃w:sC TK,(p.1=w.1/\p.1.dep<=8/\d3 X.K H mu (tkD p.1) (.ref w.2.1) /\ ∃v,dy v w.2.2/\d3 X.K H mu p.2 v) /\ ∃g:cP,u = .ref g/\s.heap.IsTuple g #[Value.ref w.2.1,w.2.2]/\(fy X.prog X.w).is s.heap w.1 w.2.1:=by
 unfold uK at h;split at h
 ·rename_i k x;obtain⟨t,z,e⟩:=oM1.mp h;subst e;cases r with
  | @tup _ a vs h1 h2=>
   cases q;obtain⟨i,m,o,_⟩:=I.tuple h1;cases h2 with
   |cons l f=>cases f with
    |cons r2 c=>
     cases c;cases m with
     |cons y f=>cases f with
      |cons j c=>
       cases c;obtain⟨b,rfl,rfl,rk,n,hi⟩:=jM I l y z;exact⟨(t,b,_),⟨O,n,rk,_,j,r2⟩,_,O,o,hi⟩
 ·cases h
theorem n6(I:Inv X ag σ H s):∀ {ds:List D} {vs:List V} {b:List cN} {ps:List (TK×D)},df X.K H mu ds vs->dG vs b->iU ds=some ps ->
  ∃ws:List (sC TK),KT X.K H mu ps ws/\ws.length=b.length /\ ∀(i:Nat) (q:sC TK),ws[i]?=Z q -> ∃a:cP,b[i]?=Z (Value.ref a)/\s.heap.IsTuple a #[Value.ref q.2.1,q.2.2]/\(fy X.prog X.w).is s.heap q.1 q.2.1
 |[],_,_,ps,.nil,.nil,h=>by cases h;exact⟨[],.nil,O,λi q h=>by simp at h⟩
 |d::ds,_,_,ps,.cons r t,.cons q m,h=>by
  rw[iU]at h;obtain⟨p,g,h⟩:=oB1.mp h;obtain⟨l,k,h⟩:=oM1.mp h;subst h;obtain⟨w,n,a,c,e,f⟩:=yb I r q g;obtain⟨ws,h1,h2,j⟩:=n6 I t m k;refine⟨w::ws,.cons n h1,by rw[lC1,lC1,h2],λi q h=>?_⟩;cases i with
  |zero=>simp at h;subst h;exact⟨a,by rw[c];rfl,e,f⟩
  |succ i=>exact j i q (by simpa using h)
theorem KT.fold{K:Fg1}:∀{ps:List (TK×D)} {ws:List (sC TK)} {as:List (TK×D)} {bs:List (sC TK)},KT K H mu ps ws->KT K H mu as bs->KT K H mu (ps.foldl (λF p=>fG F p.1 p.2) as) (ws.foldl (λa q=>storedH a q.1 q.2.1 q.2.2) bs):=by
 intro ps ws as bs h
 induction h generalizing as bs with
 |nil=>exact λg=>g
 | @cons p q ps ws r t ih=>
  intro g;obtain⟨e,c,rk,v,b,r2⟩:=r;rw[aZ,aZ,<- e];exact ih (g.put c rk b r2)
theorem wl(ps:List (TK×D)):(lj ps).length<=ps.length:=by
 have:∀(ps a:List (TK×D)),(ps.foldl (λF p=>fG F p.1 p.2) a).length<=a.length+ps.length:=by
  intro ps
  induction ps with
  |nil=>intro a;exact nR1 _
  |cons p ps ih=>
   intro a;rw[aZ,lC1];have h1:=ih (fG a p.1 p.2);have h2:=li a p.1 p.2;lia
 have:=this ps [];simpa[lj]using this
theorem mL:∀{ds:List D} {ps:List (TK×D)},iU ds=Z ps->ps.length=ds.length
 |[],ps,h=>by cases h;rfl
 |d::ds,ps,h=>by
  rw[iU]at h;obtain⟨p,c,h⟩:=oB1.mp h;obtain⟨a,b,h⟩:=oM1.mp h;subst h;rw[lC1,lC1,mL b]
theorem BM{k:Nat}(hr:fb k X.A):eG X (.type "dict") (rN X.K (b1 m9)):=by
 intro ag s σ H xs us Q I r h;obtain⟨x,mu,S,d,r',S',rfl,U,w,c,hc⟩:=zQ h;unfold m9 at c;split at c
 ·rename_i ds W;obtain⟨ps,ep,c⟩:=oB1.mp c;split at c
  ·rename_i hl;cases c;obtain⟨a,vs,rfl,q,t⟩:=dw U w W;obtain⟨u,rfl,r2⟩:=gM r;cases r2;obtain⟨C,N,P,hz⟩:=I.list q;obtain⟨ws,kt,y,V⟩:=n6 I t N ep;have D:C.length=ds.length:=by rw[<- N.length,<- t.length]
   obtain⟨au,n,ao,E,l,f⟩:=P;obtain⟨oc,od,oa,os⟩:=au;dsimp only at E l f
   subst E l f
   have hu:=hr.un;refine t5 (knd:=fy X.prog X.w) hr.hd ao λA' h1 tk it G hAu keep ni ne st hD R T=>?_;have K:ws.length<=100000:=by rw[y,D];exact hl
   have big:ws.length<=cV:=aC K (by decide);refine wu (knd:=fy X.prog X.w) (h0:=s.heap) (its:=C.toArray) (ps:=ws) G (by show A'.units+1+8<cLine;lia) (by rw[sT1];exact y.symm) big ⟨_,ao,O,n,O⟩ (Heap.get?_none_of_le (nR1 _)) ni ne
    (λh k a e z=>⟨z.1.grows e,z.2⟩) (λi q e=>?_) _ 0 _ O (bm _) keep st (by simpa[gk]using hD) λh' B b g=>T _ ?_
   ·obtain⟨pa,wq,e2,e3⟩:=V i q e;exact⟨pa,by rw[cc];exact wq,e2,e3⟩
   ·have m:H s.heap.objs.size=none:=I.fresh;have j:KT X.K H mu (lj ps) (gk ws):=KT.fold kt .nil;have v:(s.heap.objs.size == sysModules)=false:=beq_eq_false_iff_ne.mpr (Ne.symm (nN1 I.big));have A:(gk ws).length<=cV:=by
     rw[<- j.length];have h1:=wl ps;have h2:=mL ep;exact aC (by lia:(lj ps).length<=100000) (by decide)
    cases ef:lj ps with
    |nil=>
     rw[ef]at j hc;generalize gk ws=fw at j g A;cases j;obtain⟨o,es,L,g1,aq,g3,g4,g5,g6⟩:=g;have am:es = #[]:=Array.toList_inj.mp (by simpa using g4);subst am;refine⟨.ref s.heap.objs.size,upd H s.heap.objs.size (.dK []),I.laid (t':=B) (o:=.dK []) b (nR1 _) ⟨bm _,v,[],.nil,o,#[],L,g1,aq,g3,?_,?_,bq⟩,O,hc _ _ (mu++[s.heap.objs.size]) (Ext.new_ m) (.ref (gf w.len _)) (w.new m ⟨[],dD,.nil⟩)⟩
     ·intro e am;simp at am
     ·exact .nil
    |cons p F=>
     rw[ef]at j hc;refine⟨.ref s.heap.objs.size,upd H s.heap.objs.size (.ext (hR s.heap.objs.size (gk ws))),I.laid (t':=B) b (nR1 _) (pM v g),O,hc _ _ (mu++[s.heap.objs.size]) (Ext.new_ m) (.ref (gf w.len _)) (w.new m ⟨_,dD,j.ext (Ext.new_ m),A⟩)⟩
  ·cases c
 ·cases c
end
mutual
noncomputable def D.mv(h n:Nat):D->D
 | .tup xs=>.tup (D.mvs h n xs)
 | .rol xs=>.rol (D.mvs h n xs)
 | .ref 0=>.ref h
 | .ref (k+1)=>.ref (n+k)
 | .fn x=>.fn x
 | .non=>.non
 | .bl b=>.bl b
 | .int i=>.int i
 | .str x=>.str x
noncomputable def D.mvs(h n:Nat):List D->List D
 |[]=>[]
 |d::ds=>D.mv h n d::D.mvs h n ds
end
noncomputable def Ob.mv(h n:Nat):Ob->Ob
 | .lst xs=>.lst (D.mvs h n xs)
 | .dct kvs=>.dct (kvs.map λp=>(p.1,p.2.mv h n))
 | .dcT kvs=>.dcT (kvs.map λp=>(p.1,p.2.mv h n))
 | .iset xs=>.iset xs
 | .dcF kvs=>.dcF (kvs.map λp=>(p.1,p.2.mv h n))
 | .tst ks=>.tst ks
section
variable{K:Fg1}{H:Hp}{mu nu:List cP}{a:cP}{h:Nat}
theorem d3.mv(ha:mu[h]? = some a):∀ {d:D} {v:V},d3 K H (a::nu) d v->d3 K H (mu++nu) (d.mv h mu.length) v:=fun c=>c.rec (motive_1:=fun d v _=>d3 K H (mu++nu) (d.mv h mu.length) v) (motive_2:=fun ds vs _=>df K H (mu++nu) (D.mvs h mu.length ds) vs)
  .non .bl .int .str (λh _ ih=>.tup h ih) (λh _ ih=>.rol h ih) (λ{n b} e=>by
   cases n with
   |zero=>
    have:a=b:=by simpa using e
    subst this;exact .ref (by rw[gL1 (gE1.mp ha).1];exact ha)
   |succ k=>exact .ref (by rw[gR1 (bt _ _),Nat.add_sub_cancel_left];simpa using e)) (λh=>.fn h) .nil (λ_ _ a b=>.cons a b)
theorem df.mv(ha:mu[h]?=Z a):∀{ds:List D} {vs:List V},df K H (a::nu) ds vs->df K H (mu++nu) (D.mvs h mu.length ds) vs:=λb=>b.ind (P:=λds vs _=>df K H (mu++nu) (D.mvs h mu.length ds) vs) .nil λr _ ih=>.cons (d3.mv ha r) ih
theorem KR.mv{κ:Type}(ha:mu[h]?=Z a):∀{ks:List (κ×D)} {ws:List (κ×V)},KR K H (a::nu) ks ws->KR K H (mu++nu) (ks.map λp=>(p.1,p.2.mv h mu.length)) ws:=by
 intro ks ws b
 induction b with
 |nil=>exact .nil
 |cons r t ih=>exact .cons ⟨r.1,r.2.mv ha⟩ ih
mutual
theorem B5(h n:Nat):∀k:TK,(tkD k).mv h n=tkD k
 | .non=>rfl
 | .int _=>rfl
 | .tup xs=>by rw[tkD,D.mv,xl h n xs]
theorem xl(h n:Nat):∀ks:List TK,D.mvs h n (iM ks)=iM ks
 |[]=>rfl
 |x::xs=>by rw[iM,D.mvs,B5 h n x,xl h n xs]
end
theorem KT.mv(ha:mu[h]?=Z a):∀{ks:List (TK×D)} {ws:List (TK×cP×cN)},KT K H (a::nu) ks ws->KT K H (mu++nu) (ks.map λp=>(p.1,p.2.mv h mu.length)) ws:=by
 intro ks ws c
 induction c with
 |nil=>exact .nil
 |cons r t ih=>
  obtain⟨z,d,k,v,b,r⟩:=r;exact .cons ⟨z,d,by have:=k.mv ha;rw[B5]at this;exact this,v,b,r.mv ha⟩ ih
theorem lB.mv{b:cP}(ha:mu[h]?=Z a):∀{o:Ob},lB K H (a::nu) b o->lB K H (mu++nu) b (o.mv h mu.length)
 | .lst _,⟨vs,e,r⟩=>⟨vs,e,r.mv ha⟩
 | .dct _,⟨ws,e,r⟩=>⟨ws,e,KR.mv ha r⟩
 | .dcT _,⟨ws,e,r,l⟩=>⟨ws,e,KT.mv ha r,l⟩
 | .iset _,q=>q
 | .dcF _,⟨ws,e,r,l⟩=>⟨ws,e,KT.mv ha r,l⟩
 | .tst ks,⟨ws,e,r⟩=>⟨ws,e,by have:=KT.mv ha r;rw[bu]at this;exact this⟩
end
noncomputable def apart(f:FN):FN:=λds S=>match ds with
 | .ref h::es=>if D.unds 0 es=true then (S[h]?).bind fun o=>if o.und 0=true then (lp f (.ref 0::es) [o]).bind fun p=>match p.2 with
   |o'::G=>if o'.und 0=M then(if p.1.und 0=M then Z (p.1,S.set h o')else Z (p.1.mv h S.length,S.set h o'++G.map (Ob.mv h S.length)))else Y
   |[]=>Y
  else Y
  else Y
 |_=>Y
theorem zB{K:Fg1}{f:FN}{vs:List V}{H:Hp}{Q:VK}(q:rN K (apart f) vs H Q):rN K f vs H Q:=by
 obtain⟨mu,S,ds,d,S',T,j,g,hc⟩:=q;unfold apart at g;split at g
 ·rename_i h es;split at g
  ·rename_i A;obtain⟨o,I,g⟩:=oB1.mp g;split at g
   ·rename_i ho;obtain⟨⟨L,F⟩,R,g⟩:=oB1.mp g;cases T with
    | @cons _ v _ vt wq P=>
    cases wq with
    | @ref _ a p=>
    have i:∀{m1 m2:List cP} (k:Nat),k<0->m1[k]?=m2[k]?:=λk ao=>absurd ao (bw _);refine si ⟨[a],[o],.ref 0::es,L,F,.cons (.ref O) (P.cut (n:=0) i A),⟨O,by simp,λn o2 b h1 h2=>?_⟩,R,λv H' mu' x r s=>?_⟩
    ·cases n with
     |zero=>
      have W:o=o2:=by simpa using h1
      have U:a=b:=by simpa using h2
      subst W U;exact(j.ob h o a I p).cut (n:=0) i ho
     |succ n=>simp at h1
    ·obtain⟨nu,E⟩:=x.pre;have y:mu'=a::nu:=E.symm;subst y;dsimp only at g;cases F with
     |nil=>cases g
     |cons o' G=>
      dsimp only at g;split at g
      ·rename_i B;have w:Ext mu mu H H':=⟨bp,fun b z e N=>x.old b z e (fun l=>N (by rw [cm.mp l];exact gM1 p)),x.tup,x.frz,fun _ z=>.inl z⟩;have m:∀ (n:Nat) (z:Ob) (b:cP),(S.set h o')[n]? = some z->mu[n]? = some b->lB K H' mu b z:=fun n z b h1 h2=>by
        by_cases e:h=n
        ·subst e;rw[aH (gE1.mp I).1]at h1;cases h1;rw[p]at h2;cases h2;exact(s.ob 0 o' a O O).cut (n:=0) i B
        ·rw[gS1 e]at h1;refine(j.ob n z b h1 h2).keep w λu X=>x.old b u X λl=>?_;have l:=cm.mp l;subst l;exact e ((List.getElem?_inj (gE1.mp p).1 j.nd).mp (p.trans h2.symm))
       split at g
       ·rename_i hd;cases g;exact hc v H' mu w (r.cut (n:=0) i hd) ⟨by rw[aT];exact j.len,j.nd,m⟩
       ·cases g;have snd:=s.nd;rw [aM] at snd;have am:∀ b∈nu,H b=none:=fun b l=>by
         rcases x.new b (mC1 _ l)with z|z
         ·rw[cm.mp z]at l;exact absurd l snd.1
         ·exact z
        have aq:Ext mu (mu++nu) H H':=⟨bv _ _,w.old,w.tup,w.frz,λb z=>by
         rcases aF.mp z with z|z
         ·exact .inl z
         ·exact .inr (am b z)⟩
        refine hc v H' (mu++nu) aq (by rw[<- j.len];exact r.mv p) ⟨?_,?_,λn z b h1 h2=>?_⟩
        ·have:=s.len;simp only[lC1]at this;rw[lA1,lA1,lM1,aT,j.len];lia
        ·refine bx.mpr ⟨j.nd,snd.2,λb l c D z=>?_⟩;subst z;obtain⟨o2,e⟩:=j.here l;rw[am b D]at e;cases e
        ·by_cases C:n<S.length
         ·rw[gL1 (by rw[aT];exact C)]at h1;rw[gL1 (by rw[j.len];exact C)]at h2;exact(m n z b h1 h2).mor nu
         ·have t:=bd C;rw[gR1 (by rw[aT];exact t),aT]at h1;rw[gR1 (by rw[j.len];exact t),j.len]at h2;rw[gP1]at h1;obtain⟨o1,g1,au⟩:=oM1.mp h1;subst au;have q:=s.ob (n-S.length+1) o1 b (by rw[gC1];exact g1) (by rw[gC1];exact h2);rw[<- j.len];exact q.mv p
      ·cases g
   ·cases g
  ·cases g
 ·cases g
theorem et.ap{P:cQ}{w:cS}{K:Fg1}{mg:Str->Option cN}{base:cX}{k:Nat}{x:Str}{n:Nat}{m:FN}(h:et P w K mg base k x n m):et P w K mg base k x n (apart m):=by
 obtain⟨f,fd,ps,F,b,kp,a⟩:=h;exact⟨f,fd,ps,F.imp λvs H Q E q=>⟨q.1,zB q.2⟩,b,kp,a⟩
noncomputable def zd:G2:=λd e S=>match d,e with
 | .int i,.int j=>if 0<=j/\j<=1000000/\i.natAbs<2^64 then Z (.int (i*2^j.toNat),S)else Y
 |_,_=>Y
noncomputable def zb:G2:=λd e S=>match d,e with
 | .int i,.int j=>if 0<=j then Z (.int (i/2^j.toNat),S)else Y
 |_,_=>Y
noncomputable def vc:G2:=λd e S=>match d,e with
 | .int i,.int j=>Z (.int (Builtin.bitAnd i j),S)
 |_,_=>Y
noncomputable def m7:G2:=λd e S=>match d,e with
 | .int i,.int j=>if 0<j/\j<2^64 then Z (.int (i/j),S)else Y
 |_,_=>Y
noncomputable def rF:G1:=λd S=>match dn S d with
 |some (M,xs)=>(ki xs).bind λns=>Z (.int ns.sum,S)
 |_=>Y
theorem Ay:∀(l:List (Int×Tok)),preSum (numAt l.toArray) l.length=(l.map (·.1)).sum:=by
 intro l;have h:∀k,k<=l.length->preSum (numAt l.toArray) k=((l.map (·.1)).take k).sum:=by
  intro k
  induction k with
  |zero=>intro _;rfl
  |succ k ih=>
   intro a;rw[preSum,ih (by lia),List.take_add_one,List.sum_append,numAt_eq]
   congr 1
   have:k<(l.map (·.1)).length:=by rw[lM1];lia
   rw[bG,gG1 this];simp
 rw[h _ (nR1 _),b0 (by simp)]
section
variable{X:Cx}
theorem FK:fj X (binaryOp .LShift) (r2 X.K (b2 zd)):=ip (c:=BZ) (v:=λi j=>.int (i*2^j.toNat)) (λd e S r a h=>by
 unfold zd at h;split at h
 ·split at h
  ·rename_i q;cases h;exact⟨_,_,O,O,q,O,O⟩
  ·cases h
 ·cases h) (λ_ _ _ _ _=>.int _) Dk
theorem FJ:fj X (binaryOp .RShift) (r2 X.K (b2 zb)):=ip (c:=λ_ j=>0<=j) (v:=λi j=>.int (i/2^j.toNat)) (λd e S r a h=>by
 unfold zb at h;split at h
 ·split at h
  ·rename_i q;cases h;exact⟨_,_,O,O,q,O,O⟩
  ·cases h
 ·cases h) (λ_ _ _ _ _=>.int _) Dj
theorem Dv:fj X (binaryOp .BitAnd) (r2 X.K (b2 vc)):=ke (v:=λi j=>.int (Builtin.bitAnd i j)) (λd e S r a h=>by
 unfold vc at h;split at h
 ·cases h;exact⟨_,_,O,O,O,O⟩
 ·cases h) (λ_ _ _ _ _=>.int _) Dp
theorem tF:fj X (binaryOp .FloorDiv) (r2 X.K (b2 m7)):=ip (c:=λ_ j=>0<j/\j<2^64) (v:=λi j=>.int (i/j)) (λd e S r b h=>by
 unfold m7 at h;split at h
 ·split at h
  ·rename_i q;cases h;exact⟨_,_,O,O,q,O,O⟩
  ·cases h
 ·cases h) (λ_ _ _ _ _=>.int _) (opI λi j _ _ _ _ _ hc q=>by
  have h1:(0:Int)<j:=hc.1;refine floordiv_int (by lia) (by rw[Int.fdiv_eq_ediv_of_nonneg i (by lia)];exact q) (.inl (PyProof.noPylong_of_log2 ?_));have h2:j.natAbs<2^64:=by have:=hc.2;lia
  have a:j.natAbs≠0:=by lia
  have:=(Nat.log2_lt a).mpr h2;lia)
theorem Em(c:X.calm=M):eG X (.builtin "sum") (rN X.K (b1 rF)):=by
 intro ag s σ H xs w Q I r h;obtain⟨x,mu,S,d,v,y,rfl,j,e,b,hc⟩:=zQ h;unfold rF at b;split at b
 ·rename_i ds i;obtain⟨ns,k,b⟩:=oB1.mp b;cases b;obtain⟨a,vs,rfl,q,t⟩:=dw j e i;obtain⟨u,rfl,r2⟩:=gM r;cases r2;obtain⟨f,l,o,z⟩:=I.list q;have m:=ow t l k;obtain⟨xs,p,n⟩:=tQ m;refine sum_intListG (I.ok.hd c) (by rw[<- p];exact o.isList) λh' tk A keep=>?_;have g:preSum (numAt xs) xs.size=ns.sum:=by rw[<- n];exact Ay xs.toList
  rw[g];exact⟨.int ns.sum,H,I.kept keep,⟨_,O⟩,hc.now (.int _) e⟩
 ·cases b
end
noncomputable def CQ(S:c6)(d:D):Option PyData:=match dn S d with
 |some (M,ys)=>(pyDs ys).map .list
 |_=>pyD d
noncomputable def mH(S:c6):List D->Option (List PyData)
 |[]=>Z []
 |d::ds=>(CQ S d).bind λp=>(mH S ds).map λps=>p::ps
theorem s7{S:c6}{d:D}{p:PyData}(h:CQ S d=Z p):p.hasDict=J:=by
 unfold CQ at h;split at h
 ·obtain⟨ps,e,rfl⟩:=oM1.mp h;simp only[PyData.hasDict];exact iS e
 ·exact jI h
theorem k6{S:c6}:∀{ds:List D} {ps:List PyData},mH S ds=Z ps->PyData.hasDictAll ps=J
 |[],ps,h=>by simp only[mH]at h;cases h;rfl
 |d::ds,ps,h=>by
  simp only[mH]at h;obtain⟨p,a,h⟩:=oB1.mp h;obtain⟨c,b,h⟩:=oM1.mp h;cases h;simp only[PyData.hasDictAll,s7 a,k6 b,Bool.or_self]
noncomputable def hH:G1:=λd S=>match dn S d with
 |some (M,xs)=>(mH S xs).bind λps=>if(PyData.list ps).showable=M/\(PyData.list ps).shown.length<=cV/\(PyData.list ps).depth<=60 then Z (.str (PyData.list ps).shown,S)else Y
 |_=>Y
section
variable{X:Cx}{ag:List (cP×Obj)}{σ:L2.St}{H:Hp}{s:cO}{mu:List cP}{S:c6}
theorem vR(I:Inv X ag σ H s)(hs:eF X.K H mu S){d:D}{v:V}{u:cN}{p:PyData}(r:d3 X.K H mu d v)(b:dy v u)(h:CQ S d=Z p):∃as,Reads s.heap u p as:=by
 unfold CQ at h;split at h
 ·rename_i ys f;obtain⟨ps,e,rfl⟩:=oM1.mp h;obtain⟨a,vs,rfl,q,t⟩:=dw r hs f;cases b;obtain⟨c,i,j,_⟩:=I.list q;obtain⟨o,l,hc,n,k⟩:=j.isList;obtain⟨as,g⟩:=vQ I t i e;exact⟨_,.list l hc k (by simpa using g)⟩
 ·exact mG I r b h
theorem sZ(I:Inv X ag σ H s)(hs:eF X.K H mu S):∀{ds:List D} {vs:List V} {a:List cN} {ps:List PyData},df X.K H mu ds vs->dG vs a->mH S ds=Z ps -> ∃as,ReadsAll s.heap a ps as:=by
 intro ds vs a ps d tv h
 induction d using df.ind generalizing a ps with
 |hn=>simp only[mH]at h;cases h;cases tv;exact⟨[],.nil⟩
 |hc r t ih=>
  simp only[mH]at h;obtain⟨p,c,h⟩:=oB1.mp h;obtain⟨f,e,h⟩:=oM1.mp h;cases h;cases tv with
  |cons v tv=>
   obtain⟨a1,b⟩:=vR I hs r v c;obtain⟨a2,r2⟩:=ih tv e;exact⟨_,.cons b r2⟩
end
section
variable{X:Cx}
theorem vm{k:Nat}(hr:fb k X.A):eG X (.builtin "repr") (rN X.K (b1 hH)):=by
 intro ag s σ H xs E Q I r h;obtain⟨x,mu,S,d,D,F,rfl,l,g,c,hc⟩:=zQ h;unfold hH at c;split at c
 ·rename_i ds m;obtain⟨ps,e,c⟩:=oB1.mp c;split at c
  ·rename_i j;obtain⟨h1,h2,G⟩:=j;cases c;obtain⟨a,vs,rfl,q,t⟩:=dw l g m;obtain⟨u,rfl,v⟩:=gM r;cases v;obtain⟨i,C,y,_⟩:=I.list q;obtain⟨o,B,f,n,A⟩:=y.isList;obtain⟨as,p⟩:=sZ I g t C e;have hnd:(PyData.list ps).hasDict=J:=by simp only[PyData.hasDict];exact k6 e
   refine repr_of_reads' (Reads.list B f A (by simpa using p)) h1 (PyData.noDict_hsm hnd) hr.gd (by have:=hr.un;lia) (λb o z=>z) (λh' u tk w=>?_) h2;exact⟨.str _,H,I.kept w,⟨u,O⟩,hc.now (.str _) g⟩
  ·cases c
 ·cases c
end
open AutoSeq1 (wpAny_loadPart')
theorem yr(l:cP)(items:Array cN)(n:Nat)(dd:Option cP)(sl:Array (Option cN))(x:Int)(u:Tok)(h0:(decide (x < -(2^63))||decide (x>=2^63))=false)(h1:(items.isEmpty||x == 1)=true):
  Meets (Builtin.«tuple.__mul__» ⟨[.ref l,.int x u],[]⟩) (λ_ R s=>s.heap.get? l=Z {cls:=.type "tuple",dict:=dd,data:=.seq items n,slots:=sl}/\R (.ok (.ret (Value.ref l))) s):=.of_wp λ_ _ _ _ s h=>by
 obtain⟨b,g,d,tk,c⟩:=s;obtain⟨a,h⟩:=h
 wp_walk using wpAny_loadPart' a,wpAny_load a
 refine wpAny_ite_false (ai (by rw[h0];exact aJ)) ?_
 wp_walk using wpAny_loadPart' a,wpAny_load a
 exact⟨_,O,h⟩
theorem yt(l:cP)(items:Array cN)(n:Nat)(dd:Option cP)(sl:Array (Option cN))(x:Int)(u:Tok)(h0:(decide (x < -(2^63))||decide (x>=2^63))=false)(h1:(items.isEmpty||x == 1)=false)(h2:(decide (x<=0)||items.isEmpty)=true):
  Meets (Builtin.«tuple.__mul__» ⟨[.ref l,.int x u],[]⟩) (λ_ R s=>s.heap.get? l=Z {cls:=.type "tuple",dict:=dd,data:=.seq items n,slots:=sl}/\R (.ok (.ret (Value.ref s.heap.objs.size))) {s with heap:=s.heap.push {cls:=Value.type "tuple",data:=Data.seq #[]}}):=.of_wp λ_ _ _ _ s h=>by
 obtain⟨b,g,d,tk,c⟩:=s;obtain⟨a,h⟩:=h
 wp_walk using wpAny_loadPart' a,wpAny_load a
 refine wpAny_ite_false (ai (by rw[h0];exact aJ)) ?_
 wp_walk using wpAny_loadPart' a,wpAny_load a
 exact⟨_,O,h⟩
section
variable{X:Cx}
theorem AM:fj X (binaryOp .Mult) (λx y H Q=>∃l xs,x = .ref l/\y = .int 1/\iI X.K H l xs/\Q (.ref l) H):=by
 intro ag s σ H x y v u Q I j k h;obtain⟨l,xs,rfl,rfl,g,q⟩:=h;cases j;obtain⟨t,rfl⟩:=k;obtain⟨a,r,p,_⟩:=I.tuple g;obtain⟨⟨i,d,e,c⟩,b,hc,n,f⟩:=id p;simp only at hc f;subst hc f;refine wpAny_binaryOp_repeat_ref (T:="tuple") (U:="int") (by decide) ⟨_,b,O⟩ (λs'=>typeIs_int s' 1 t) iW F.fills_int_mul F.slot_int_rmul ph F.slot_int_index.lookup
  (call_meets F.slot_int_rmul (typeIs_int s 1 t) F.entry_int_rmul (F.args_int_rmul_2 _ _) (mF 1 t l a.toArray n d c)
   ⟨b,O,⟨_,b,O⟩,call_meets F.slot_tuple_mul ⟨_,b,O⟩ F.entry_tuple_mul (F.args_tuple_mul_2 _ _) (yr l a.toArray n d c 1 t O (by simp)) ⟨b,?_⟩⟩)
 exact⟨.ref l,H,I,O,q⟩
theorem AN:fj X (binaryOp .Mult) (λx y H Q=>∃l xs,x = .ref l/\y = .int 0/\iI X.K H l xs/\xs≠[] /\ ∀p,H p=Y->Q (.ref p) (upd H p (.tup []))):=by
 intro ag s σ H x y v u Q I A B h;obtain⟨l,xs,rfl,rfl,k,m,q⟩:=h;cases A;obtain⟨t,rfl⟩:=B;obtain⟨a,r,p,_⟩:=I.tuple k;obtain⟨⟨w,g,i,f⟩,c,hc,n,j⟩:=id p;simp only at hc j;subst hc j;have e:a≠[]:=λz=>m (r.nil_iff.mp z);have d:a.toArray.isEmpty=J:=by simpa using e
 refine wpAny_binaryOp_repeat_ref (T:="tuple") (U:="int") (by decide) ⟨_,c,O⟩ (λs'=>typeIs_int s' 0 t) iW F.fills_int_mul F.slot_int_rmul ph F.slot_int_index.lookup
  (call_meets F.slot_int_rmul (typeIs_int s 0 t) F.entry_int_rmul (F.args_int_rmul_2 _ _) (mF 0 t l a.toArray n g f)
   ⟨c,O,⟨_,c,O⟩,call_meets F.slot_tuple_mul ⟨_,c,O⟩ F.entry_tuple_mul (F.args_tuple_mul_2 _ _) (yt l a.toArray n g f 0 t O (by rw[d];rfl) O) ⟨c,?_⟩⟩)
 refine⟨.ref s.heap.objs.size,_,I.laid (t':=s.toks) (o:=.tup []) (λb C q=>hP1 _ q) (nR1 _) ?_,O,q _ (I.hok.fresh (nR1 _))⟩;exact⟨bm _,_,.nil,IsTup.new _ _⟩
noncomputable def rG:G2:=λd e S=>match d,e with
 | .tup xs,.int k=>if 0<=k/\k<2^62/\xs.isEmpty=J/\xs.length*k.toNat<=cV then Z (.tup (aN k.toNat xs).flatten,S)else Y
 |_,_=>Y
theorem Dt:fj X (binaryOp .Mult) (r2 X.K (b2 rG)):=by
 intro ag s σ H x y u w Q I n o h;obtain⟨mu,S,d,e,r,B,t,r2,m,b,hc⟩:=nC h;unfold rG at b;split at b
 ·rename_i xs k;split at b
  ·rename_i l;cases b;cases r2;cases t with
   |tup g i=>
    rename_i vs a;have f:vs≠[]:=λz=>by
     subst z;cases i;cases l.2.2.1
    by_cases q:2<=k
    ·refine AL ag s σ H _ _ u w Q I n o ⟨a,k,vs,O,O,g,q,l.2.1,f,by rw[<- i.length];exact l.2.2.2,λp c=>?_⟩;exact hc _ _ mu (Ext.fresh c) (.tup (iI.of dD) ((df.rep i k.toNat).ext (Ext.fresh c))) (m.fresh c)
    ·by_cases A:k=1
     ·subst A;refine AM ag s σ H _ _ u w Q I n o ⟨a,vs,O,O,g,?_⟩;have j:(aN (1:Int).toNat xs).flatten=xs:=by simp
      rw[j]at hc;exact hc.now (.tup g i) m
     ·have v:k=0:=by lia
      subst v;refine AN ag s σ H _ _ u w Q I n o ⟨a,vs,O,O,g,f,λp c=>?_⟩;have j:(aN (0:Int).toNat xs).flatten=[]:=by simp
      rw[j]at hc;exact hc _ _ mu (Ext.fresh c) (.tup (iI.of dD) .nil) (m.fresh c)
  ·cases b
 ·cases b
end
def W{α:Type}(o:Option α)(Q:α->Prop):Prop:=∃x,o=Z x/\Q x
section
variable{α β:Type}{Q:α->Prop}
theorem dJ{x:α}:W (Z x) Q↔Q x:=⟨λ⟨_,e,h⟩=>(by cases e;exact h),λh=>⟨x,O,h⟩⟩
theorem jR:W (Y:Option α) Q↔False:=⟨λ⟨_,e,_⟩=>(by cases e),False.elim⟩
theorem db{o:Option β}{f:β->Option α}:W (o.bind f) Q↔W o λx=>W (f x) Q:=by
 cases o with
 |none=>exact⟨λ⟨_,e,_⟩=>(by cases e),λ⟨_,e,_⟩=>(by cases e)⟩
 |some x=>exact⟨λh=>⟨x,O,h⟩,λ⟨_,e,h⟩=>by cases e;exact h⟩
theorem kC{o:Option β}{f:β->α}:W (o.map f) Q↔W o λx=>Q (f x):=by
 cases o with
 |none=>exact⟨λ⟨_,e,_⟩=>(by cases e),λ⟨_,e,_⟩=>(by cases e)⟩
 |some x=>exact⟨λ⟨_,e,h⟩=>(by cases e;exact⟨x,O,h⟩),λ⟨_,e,h⟩=>(by cases e;exact⟨_,O,h⟩)⟩
theorem sw{c:Prop}[Decidable c]{a b:Option α}:W (if c then a else b) Q↔if c then W a Q else W b Q:=by split<;>exact Iff.rfl
theorem W.mono{o:Option α}{Q':α->Prop}(h:W o Q)(k:∀x,Q x->Q' x):W o Q':=let ⟨x,e,q⟩:=h;⟨x,e,k x q⟩
theorem W.of{o:Option α}{x:α}(e:o=Z x)(h:Q x):W o Q:=⟨x,e,h⟩
end
theorem dL{a b:FS}{r:Ev}{S:c6}{Q:Fl×Ev×c6->Prop}(R:Ev->c6->Prop)(h1:W (a r S) λp=>p.1 = .nx/\R p.2.1 p.2.2)(h2:∀r S,R r S->W (b r S) Q):W (di a b r S) Q:=by
 obtain⟨⟨f,h,g⟩,e,c,d⟩:=h1;dsimp only at c d;subst c;unfold di;rw[e];exact h2 h g d
theorem kn{n:Nat}{b:FS}{ds:List D}{S:c6}{Q:D×c6->Prop}(h:W (b (gD n ds) S) fun p=>match p.1 with
  | .rt d=>Q (d,p.2.2)
  | .nx=>Q (.non,p.2.2)
  |_=>False):W (gL n b ds S) Q:=by
 obtain⟨⟨f,c,a⟩,e,q⟩:=h;unfold gL;rw[e];cases f with
 |rt d=>exact⟨_,O,q⟩
 |nx=>exact⟨_,O,q⟩
 |bk=>exact q.elim
 |ct=>exact q.elim
theorem ln{n:Nat}{f:FN}{ds:List D}{S:c6}{Q:D×c6->Prop}(hn:ds.length=n)(a:D.unds 0 ds=J)(h:W (f ds S) λp=>Q (gc S.length p)):W (c7 n f ds S) Q:=by
 obtain⟨⟨d,b⟩,e,q⟩:=h;exact⟨_,oH e hn a,q⟩
theorem i8{n:Nat}{f:FN}{ds:List D}{S:c6}{Q:D×c6->Prop}(hn:ds.length=n)(b:D.unds 0 ds=M)(h:W (f ds []) λp=>p.1.und 0=M/\Q (p.1,S)):W (c7 n f ds S) Q:=by
 obtain⟨⟨d,g⟩,e,a,c⟩:=h;exact⟨_,wB e hn b a,c⟩
mutual
theorem d6{n:Nat}:∀{d:D},d.und 0=M->d.und n=M
 | .non,_=>rfl
 | .bl _,_=>rfl
 | .int _,_=>rfl
 | .str _,_=>rfl
 | .tup xs,h=>by rw[D.und]at h ⊢;exact eA h
 | .rol xs,h=>by rw[D.und]at h ⊢;exact eA h
 | .fn _,_=>rfl
 | .ref k,h=>by simp[D.und]at h
theorem eA{n:Nat}:∀{ds:List D},D.unds 0 ds=M->D.unds n ds=M
 |[],_=>rfl
 |d::ds,h=>by
  rw[D.unds,bA1]at h ⊢;exact⟨d6 h.1,eA h.2⟩
end
theorem eY{c:List (Nat×List D)}{g:FG}{b:FS}{Q:Fl×Ev×c6->Prop}(I:Nat->Ev->c6->Prop):∀ (items:List D) (k:Nat) (r:Ev) (S:c6),I k r S ->
  (∀i r S,I i r S->n9 S c=M) ->
  (∀i d,items[i]?=Z d -> ∀r S,I (k+i) r S->W (g d r S) λp=>W (b p.1 p.2) λq=>q.1 = .nx/\I (k+i+1) q.2.1 q.2.2) ->
  (∀r S,I (k+items.length) r S->Q (.nx,r,S))->W (kg c g b items r S) Q
 |[],k,r,S,hi,hok,_,hq=>by rw[kg];dsimp only;rw[ak (hok _ _ _ hi),dJ];exact hq r S (by simpa using hi)
 |d::ds,k,r,S,hi,hok,hs,hq=>by
  rw[kg];dsimp only;rw[ak (hok _ _ _ hi),db];obtain⟨p,j,h1⟩:=hs 0 d O r S (by simpa using hi);refine⟨p,j,?_⟩;dsimp only;rw[db];obtain⟨⟨f,h,n⟩,l,h2,e⟩:=h1;refine⟨_,l,?_⟩;dsimp only at h2 e ⊢;subst h2;refine eY I ds (k+1) h n (by simpa using e) hok (λi m o r S a=>?_) λr S a=>hq r S (by rw[lC1,show k+(ds.length+1)=k+1+ds.length by lia];exact a);have:=hs (i+1) m (by simpa using o) r S (by rw[show k+(i+1)=k+1+i by lia];exact a);rw[show k+(i+1)+1=k+1+i+1 by lia]at this;exact this
theorem iA{c:List (Nat×List D)}{g:FG}{t:FT}{e:FE}{Q:List D×Ev×c6->Prop}(I:Nat->List D->Ev->c6->Prop):∀ (items:List D) (k:Nat) (acc:List D) (r:Ev) (S:c6),I k acc r S ->
  (∀i acc r S,I i acc r S->n9 S c=M) ->
  (∀i d,items[i]?=Z d -> ∀acc r S,I (k+i) acc r S->W (g d r S) λp=>W (t p.1 p.2) λb=>if b.1=M then W (e p.1 b.2) λx=>I (k+i+1) (acc++[x.1]) p.1 x.2 else I (k+i+1) acc p.1 b.2) ->
  (∀xs r S,I (k+items.length) (acc++xs) r S->Q (xs,r,S))->W (fr c g t (dW e) items r S) Q
 |[],k,acc,r,S,hi,hok,_,hq=>by rw[fr];dsimp only;rw[ak (hok _ _ _ _ hi),dJ];exact hq [] r S (by simpa using hi)
 |d::ds,k,acc,r,S,hi,hok,hs,hq=>by
  rw[fr];dsimp only;rw[ak (hok _ _ _ _ hi),db];obtain⟨p,j,h1⟩:=hs 0 d O acc r S (by simpa using hi);refine⟨p,j,?_⟩;dsimp only;rw[db];obtain⟨⟨b,o⟩,n,h2⟩:=h1;refine⟨_,n,?_⟩;have step:∀i f,ds[i]?=Z f -> ∀acc r S,I (k+1+i) acc r S->W (g f r S) λp=>W (t p.1 p.2) λb=>if b.1=M then W (e p.1 b.2) λx=>I (k+1+i+1) (acc++[x.1]) p.1 x.2 else I (k+1+i+1) acc p.1 b.2:=λi f q acc r S a=>by
   have:=hs (i+1) f (by simpa using q) acc r S (by rw[show k+(i+1)=k+1+i by lia];exact a);rw[show k+(i+1)+1=k+1+i+1 by lia]at this;exact this
  dsimp only at h2 ⊢;cases b with
  |true=>
   rw[ak O]at h2 ⊢;rw[db,dW,kC];obtain⟨⟨x,l⟩,m,h⟩:=h2;refine⟨_,m,?_⟩;dsimp only at h ⊢;rw[kC];refine iA I ds (k+1) (acc++[x]) p.1 l (by simpa using h) hok step λxs r S a=>?_;refine hq _ r S ?_;rw[lC1,show k+(ds.length+1)=k+1+ds.length by lia];simpa using a
  |false=>
   rw[aj (by decide)]at h2 ⊢;refine iA I ds (k+1) acc p.1 o (by simpa using h2) hok step λxs r S a=>?_;refine hq _ r S ?_;rw[lC1,show k+(ds.length+1)=k+1+ds.length by lia];exact a
theorem G4{S:c6}{b:Bool}:Ab S (.bl b)=Z b:=rfl
theorem GJ{S:c6}:Ab S .non=Z J:=rfl
theorem GK{S:c6}{i:Int}:Ab S (.int i)=Z (i != 0):=rfl
theorem Bz{x y:Int}{S:c6}:oz (.int x) (.int y) S=Z (.bl (x == y),S):=rfl
theorem Bv{x y:Int}{S:c6}:u8 (.int x) (.int y) S=Z (.bl (!(x == y)),S):=rfl
theorem Bw{x y:Int}{S:c6}:wP (.int x) (.int y) S=Z (.bl (decide (x<y)),S):=rfl
theorem va{x y:Str}{S:c6}:oz (.str x) (.str y) S=Z (.bl (x == y),S):=rfl
theorem u6{x y:Str}{S:c6}:u8 (.str x) (.str y) S=Z (.bl (!(x == y)),S):=rfl
theorem ite_and'{c p:Prop}[Decidable c]:(if c then p else False)↔c/\p:=by split<;>simp[*]
noncomputable def wQ(j:Int):Bool:=decide (-(2^62)<=j)&&decide (j<2^62)
theorem gz{n:Nat}(h:n<2^60):wQ n=M:=by
 unfold wQ;rw[bA1,al,al];lia
theorem zy{j:Int}(h: -(2^60)<=j)(h':j<2^60):wQ j=M:=by
 unfold wQ;rw[bA1,al,al];lia
def EK(p:List D×c6)(Q:wS×c6->Prop):Prop:=match p.1 with
 |[.int j]=>wQ j=M/\Q (⟨hC 0 j.toNat,[]⟩,p.2)
 |_=>False
def GO(p:List D×c6)(Q:wS×c6->Prop):Prop:=match p.1 with
 |[.int i,.int j]=>wQ i=M/\wQ j=M/\Q (⟨hC i (j-i).toNat,[]⟩,p.2)
 |_=>False
theorem zL{m:FA}{r:Ev}{S:c6}{Q:wS×c6->Prop}:W (qc m r S) Q↔W (m r S) λp=>EK p Q:=by
 unfold qc;rw[db];constructor
 ·refine λh=>h.mono λp q=>?_;unfold EK;split at q
  ·rename_i j e
   try rw[e]
   rw[sw]at q;split at q
   ·rename_i hc;exact⟨by unfold wQ;rw[bA1,al,al];exact hc,dJ.mp q⟩
   ·exact(jR.mp q).elim
  ·exact(jR.mp q).elim
 ·refine λh=>h.mono λp q=>?_;unfold EK at q;split at q
  ·rename_i j e;obtain⟨a,b⟩:=q;unfold wQ at a;rw[bA1,al,al]at a
   try rw[e]
   try dsimp only
   rw[ak a];exact dJ.mpr b
  ·exact q.elim
theorem GA{m:FA}{r:Ev}{S:c6}{Q:wS×c6->Prop}:W (EM m r S) Q↔W (m r S) λp=>GO p Q:=by
 unfold EM;rw[db];constructor
 ·refine λh=>h.mono λp q=>?_;unfold GO;split at q
  ·rename_i i j e
   try rw[e]
   rw[sw]at q;split at q
   ·rename_i hc;refine⟨?_,?_,dJ.mp q⟩
    ·unfold wQ;rw[bA1,al,al];exact⟨hc.1,hc.2.1⟩
    ·unfold wQ;rw[bA1,al,al];exact hc.2.2
   ·exact(jR.mp q).elim
  ·exact(jR.mp q).elim
 ·refine λh=>h.mono λp q=>?_;unfold GO at q;split at q
  ·rename_i i j e;obtain⟨a,b,c⟩:=q;unfold wQ at a b;rw[bA1,al,al]at a b
   try rw[e]
   try dsimp only
   rw[ak ⟨a.1,a.2,b⟩];exact dJ.mpr c
  ·exact q.elim
noncomputable def fits(n:Nat):Bool:=decide (n<=cV)
theorem dj{n:Nat}(h:n<=100000):fits n=M:=by unfold fits;rw[al];exact aC h (by decide)
theorem rM{n:Nat}:fits n=M↔n<=cV:=by unfold fits;rw[al]
theorem Im:fits 0=M:=dj (by decide)
theorem Il:fits 1=M:=dj (by decide)
theorem HH:fits 2=M:=dj (by decide)
theorem HG:fits 3=M:=dj (by decide)
theorem Jf:fits 4=M:=dj (by decide)
theorem Jp:fits 5=M:=dj (by decide)
theorem Jo:fits 6=M:=dj (by decide)
theorem Je:fits 7=M:=dj (by decide)
theorem Jd:fits 8=M:=dj (by decide)
theorem hO{α:Type}{n:Nat}{o:Option α}{Q:α->Prop}:W (if n<=cV then o else Y) Q↔fits n=M/\W o Q:=by
 rw[rM,sw];split
 ·rename_i h;exact⟨λq=>⟨h,q⟩,λq=>q.2⟩
 ·rename_i h;exact⟨λq=>(jR.mp q).elim,λq=>absurd q.1 h⟩
theorem pV{a:FA}{r:Ev}{S:c6}{Q:D×c6->Prop}:W (dS a r S) Q↔W (a r S) λp=>fits p.1.length=M/\Q (.tup p.1,p.2):=by
 unfold dS;rw[db];exact⟨λh=>h.mono λp q=>(hO.mp q).imp_right dJ.mp,λh=>h.mono λp q=>hO.mpr (q.imp_right dJ.mpr)⟩
theorem zK{a:FA}{r:Ev}{S:c6}{Q:D×c6->Prop}:W (eW a r S) Q↔W (a r S) λp=>fits p.1.length=M/\Q (.ref p.2.length,p.2++[.lst p.1]):=by
 unfold eW;rw[db];exact⟨λh=>h.mono λp q=>(hO.mp q).imp_right dJ.mp,λh=>h.mono λp q=>hO.mpr (q.imp_right dJ.mpr)⟩
theorem iC{k:Nat}{keep:List Nat}{m:FI}{g:FG}{t:FT}{b:FV}{r:Ev}{S:c6}{Q:D×c6->Prop}:W (d4 k keep m g t b r S) Q↔W (m r S) λp=>W (fr p.1.chk g t b p.1.items (rB k keep r) p.2) λq=>fits q.1.length=M/\Q (.ref q.2.2.length,q.2.2++[.lst q.1]):=by
 unfold d4;rw[db];refine⟨λh=>h.mono λp q=>?_,λh=>h.mono λp q=>?_⟩
 ·rw[db]at q;exact q.mono λz w=>(hO.mp w).imp_right dJ.mp
 ·rw[db];exact q.mono λz w=>hO.mpr (w.imp_right dJ.mpr)
theorem HQ{xs ys:List D}{S:c6}{Q:D×c6->Prop}:W (en (.tup xs) (.tup ys) S) Q↔fits (xs.length+ys.length)=M/\Q (.tup (xs++ys),S):=
 ⟨λq=>(hO.mp q).imp_right dJ.mp,λq=>hO.mpr (q.imp_right dJ.mpr)⟩
theorem EB{x y:Int}{S:c6}{Q:D×c6->Prop}:W (en (.int x) (.int y) S) Q↔Q (.int (x+y),S):=dJ
theorem ub{a b:Nat}{xs ys:List D}{S:c6}{Q:D×c6->Prop}(h1:S[a]?=Z (.lst xs))(h2:S[b]?=Z (.lst ys)):W (en (.ref a) (.ref b) S) Q↔fits (xs.length+ys.length)=M/\Q (.ref S.length,S++[.lst (xs++ys)]):=by
 rw[en];simp only[h1,h2];exact⟨λq=>(hO.mp q).imp_right dJ.mp,λq=>hO.mpr (q.imp_right dJ.mpr)⟩
theorem jF{n:Nat}{v:D}{xs:List D}{S:c6}{Q:D×c6->Prop}(h:S[n]?=Z (.lst xs)):W (jm (.ref n) v S) Q↔fits (xs.length+1)=M/\Q (.non,S.set n (.lst (xs++[v]))):=by
 rw[jm];simp only[h];rw[sw,rM];split
 ·rename_i a;exact⟨λq=>⟨a,dJ.mp q⟩,λq=>dJ.mpr q.2⟩
 ·rename_i a;exact⟨λq=>(jR.mp q).elim,λq=>absurd q.1 a⟩
theorem oT{n:Nat}{i:Nat}{xs:List D}{x:D}{S:c6}{Q:D×c6->Prop}(h:S[n]?=Z (.lst xs))(hx:xs[i]?=Z x)(q:Q (x,S)):W (da (.ref n) (.int i) S) Q:=by
 refine W.of (x:=(x,S)) ?_ q;have a:=(gE1.mp hx).1;simp only[da,kO,zf,h,dn,sB,tP,oS1,ak (show(0:Int)<=i by lia)];rw[ak (by lia)];simp[hx]
theorem lz{i:Nat}{xs:List D}{x:D}{S:c6}{Q:D×c6->Prop}(hx:xs[i]?=Z x)(q:Q (x,S)):W (da (.tup xs) (.int i) S) Q:=by
 refine W.of (x:=(x,S)) ?_ q;have a:=(gE1.mp hx).1;simp only[da,kO,zf,dn,sB,tP,oS1,ak (show(0:Int)<=i by lia)];rw[ak (by lia)];simp[hx]
theorem Eu{n:Nat}{i:Nat}{xs:List D}{v:D}{S:c6}{Q:D×c6->Prop}(h:S[n]?=Z (.lst xs))(hx:i<xs.length)(q:Q (.non,S.set n (.lst (xs.set i v)))):W (gW (.ref n) (.int i) v S) Q:=by
 refine W.of (x:=(.non,S.set n (.lst (xs.set i v)))) ?_ q;simp only[gW,kl,i4,h,tP,ak (show(0:Int)<=i by lia)];rw[ak (by lia)];simp
theorem IX:aN 0 (Y:Option D)=[]:=rfl
theorem H9:aN 1 (Y:Option D)=[Y]:=rfl
theorem IN:aN 2 (Y:Option D)=[Y,Y]:=rfl
theorem IL:aN 3 (Y:Option D)=[Y,Y,Y]:=rfl
theorem Jm:aN 4 (Y:Option D)=[Y,Y,Y,Y]:=rfl
theorem IK:aN 5 (Y:Option D)=[Y,Y,Y,Y,Y]:=rfl
theorem Jl:aN 6 (Y:Option D)=[Y,Y,Y,Y,Y,Y]:=rfl
theorem IJ:aN 7 (Y:Option D)=[Y,Y,Y,Y,Y,Y,Y]:=rfl
theorem II:aN 8 (Y:Option D)=[Y,Y,Y,Y,Y,Y,Y,Y]:=rfl
theorem Jk:aN 9 (Y:Option D)=[Y,Y,Y,Y,Y,Y,Y,Y,Y]:=rfl
theorem IW:aN 10 (Y:Option D)=[Y,Y,Y,Y,Y,Y,Y,Y,Y,Y]:=rfl
theorem Ho:aN 11 (Y:Option D)=[Y,Y,Y,Y,Y,Y,Y,Y,Y,Y,Y]:=rfl
theorem IV:aN 12 (Y:Option D)=[Y,Y,Y,Y,Y,Y,Y,Y,Y,Y,Y,Y]:=rfl
theorem Hn:aN 13 (Y:Option D)=[Y,Y,Y,Y,Y,Y,Y,Y,Y,Y,Y,Y,Y]:=rfl
theorem IU:aN 14 (Y:Option D)=[Y,Y,Y,Y,Y,Y,Y,Y,Y,Y,Y,Y,Y,Y]:=rfl
theorem IT:aN 15 (Y:Option D)=[Y,Y,Y,Y,Y,Y,Y,Y,Y,Y,Y,Y,Y,Y,Y]:=rfl
theorem IS:aN 16 (Y:Option D)=[Y,Y,Y,Y,Y,Y,Y,Y,Y,Y,Y,Y,Y,Y,Y,Y]:=rfl
theorem IR:aN 17 (Y:Option D)=[Y,Y,Y,Y,Y,Y,Y,Y,Y,Y,Y,Y,Y,Y,Y,Y,Y]:=rfl
theorem IQ:aN 18 (Y:Option D)=[Y,Y,Y,Y,Y,Y,Y,Y,Y,Y,Y,Y,Y,Y,Y,Y,Y,Y]:=rfl
theorem IP:aN 19 (Y:Option D)=[Y,Y,Y,Y,Y,Y,Y,Y,Y,Y,Y,Y,Y,Y,Y,Y,Y,Y,Y]:=rfl
theorem IM:aN 20 (Y:Option D)=[Y,Y,Y,Y,Y,Y,Y,Y,Y,Y,Y,Y,Y,Y,Y,Y,Y,Y,Y,Y]:=rfl
theorem gv{α:Type}{T G:List α}{k:Nat}:(T++G)[T.length+k]?=G[k]?:=by rw[gR1 (by lia)];congr 1;lia
theorem dV{α:Type}{T G:List α}:(T++G)[T.length]?=G[0]?:=by rw[gR1 (by lia)];congr 1;lia
theorem u7{S:c6}{i j:Nat}{xs:List D}(h:S[i]?=Z (.lst xs))(h':S[j]?=Z (.lst [])):u8 (.ref i) (.ref j) S=Z (.bl (!xs.isEmpty),S):=by
 unfold u8 eh;rw[show(60:Nat)=59+1 from rfl,lT];simp only[dn,h,h'];cases xs with
 |nil=>simp[zn]
 |cons x xs=>simp
mutual
noncomputable def jt:D->Bool
 | .non=>M
 | .bl _=>M
 | .int i=>decide (i.natAbs<10^6)
 | .str x=>(PyData.str x).leavesShort 13&&decide ((PyData.str x).weight<=20)
 | .tup xs=>hW xs
 | .rol _=>J
 | .fn _=>J
 | .ref _=>J
noncomputable def hW:List D->Bool
 |[]=>M
 |d::ds=>jt d&&hW ds
end
mutual
noncomputable def gy:D->Nat
 | .tup xs=>fF xs
 | .non=>0 | .bl _=>0 | .int _=>0 | .str _=>0 | .rol _=>0 | .fn _=>0 | .ref _=>0
noncomputable def fF:List D->Nat
 |[]=>0
 |d::ds=>gy d+1+fF ds
end
mutual
noncomputable def lW:D->Nat
 | .tup xs=>ii xs+1
 | .non=>0 | .bl _=>0 | .int _=>0 | .str _=>0 | .rol _=>0 | .fn _=>0 | .ref _=>0
noncomputable def ii:List D->Nat
 |[]=>0
 |d::ds=>max (lW d) (ii ds)
end
mutual
theorem Fe:∀{d:D},jt d=M -> ∃p,pyD d=Z p/\p.showable=M/\p.leavesShort 13=M/\p.weight+1<=21*(gy d+1)/\p.depth=lW d
 | .non,_=>⟨.none,by simp only[pyD],by simp only[PyData.showable],by simp only[PyData.leavesShort],by simp only[PyData.weight,gy];lia,by simp only[PyData.depth,lW]⟩
 | .bl b,_=>⟨.bool b,by simp only[pyD],by simp only[PyData.showable],by simp only[PyData.leavesShort],by simp only[PyData.weight,gy];lia,by simp only[PyData.depth,lW]⟩
 | .int i,h=>by
  have h':i.natAbs<10^6:=by simpa only[jt,al]using h
  have c:i.natAbs.log2<20:=by
   by_cases z:i.natAbs=0
   ·rw[z];decide
   ·exact(Nat.log2_lt z).mpr (by lia)
  refine⟨.int i,by simp only[pyD],by simp only[PyData.showable,al];lia,?_,?_,by simp only[PyData.depth,lW]⟩
  ·simp only[PyData.leavesShort,al];exact PyData.shown_int_le (by lia)
  ·simp only[PyData.weight,gy];split<;>lia
 | .str x,h=>by
  have h':(PyData.str x).leavesShort 13=M/\(PyData.str x).weight<=20:=by simpa only[jt,bA1,al]using h
  exact⟨.str x,by simp only[pyD],by simp only[PyData.showable],h'.1,by simp only[gy];have:=h'.2;lia,by simp only[PyData.depth,lW]⟩
 | .tup xs,h=>by
  obtain⟨ps,e,h1,h2,f,a⟩:=mf (ds:=xs) (by simpa only[jt]using h);exact⟨.tuple ps,by simp only[pyD,e,oP1],by simpa only[PyData.showable]using h1,by simpa only[PyData.leavesShort]using h2,by simp only[PyData.weight,gy];lia,by simp only[PyData.depth,lW,a]⟩
 | .rol _,h=>by simp only[jt]at h;cases h
 | .fn _,h=>by simp only[jt]at h;cases h
 | .ref _,h=>by simp only[jt]at h;cases h
theorem mf:∀{ds:List D},hW ds=M -> ∃ps,pyDs ds=Z ps/\PyData.showableAll ps=M/\PyData.leavesShortAll 13 ps=M/\PyData.weightAll ps<=21*fF ds/\PyData.depthAll ps=ii ds
 |[],_=>⟨[],by simp only[pyDs],by simp only[PyData.showableAll],by simp only[PyData.leavesShortAll],by simp only[PyData.weightAll];lia,by simp only[PyData.depthAll,ii]⟩
 |d::ds,h=>by
  simp only[hW,bA1]at h;obtain⟨p,e,h1,h2,j,g⟩:=Fe h.1;obtain⟨ps,i,c,b,f,a⟩:=mf h.2;refine⟨p::ps,by simp only[pyDs,e,i,oS1,oP1],by simp only[PyData.showableAll,h1,c,cp],by simp only[PyData.leavesShortAll,h2,b,cp],?_,by simp only[PyData.depthAll,ii,g,a]⟩;simp only[PyData.weightAll,fF];lia
end
theorem Al{xs:List D}(h:hW xs=M)(hc:fF xs<=40000)(hd:ii xs<=50):∃t,∀S,gj (.tup xs) S=Z (.str t,S):=by
 obtain⟨ps,e,h1,h2,c,b⟩:=mf h;refine⟨(PyData.tuple ps).shown,λS=>?_⟩;have a:(PyData.tuple ps).showable=M/\(PyData.tuple ps).shown.length<=cV/\(PyData.tuple ps).depth<=60:=
  ⟨by simpa only[PyData.showable]using h1,PyData.shown_fits (B:=13) (by decide) (by decide) (by simpa only[PyData.leavesShort]using h2) (by simp only[PyData.weight];lia),by simp only[PyData.depth];lia⟩
 simp only[gj,e,oS1,ak a]
theorem fz{α:Type}{f:α->D}:∀{l:List α},(∀x∈l,jt (f x)=M)->hW (l.map f)=M
 |[],_=>by simp only[bc,hW]
 |x::xs,h=>by simp only[mP1,hW,h x mS1,fz λy a=>h y (mC1 _ a),cp]
theorem e6{α:Type}{f:α->D}{k:Nat}:∀{l:List α},(∀x∈l,gy (f x)<=k)->fF (l.map f)<=(k+1)*l.length
 |[],_=>by simp only[bc,fF];lia
 |x::xs,h=>by
  have h1:=h x mS1;have h2:=e6 (l:=xs) λy a=>h y (mC1 _ a);simp only[mP1,fF,lC1,Nat.mul_add];lia
theorem fE{α:Type}{f:α->D}{k:Nat}:∀{l:List α},(∀x∈l,lW (f x)<=k)->ii (l.map f)<=k
 |[],_=>by simp only[bc,ii];lia
 |x::xs,h=>by
  have h1:=h x mS1;have h2:=fE (l:=xs) λy a=>h y (mC1 _ a);simp only[mP1,ii];lia
theorem px:∀(n:Nat) (lo:Int),hC lo n=(af n).map λi:Nat=>D.int (lo+i)
 |0,lo=>rfl
 |n+1,lo=>by
  rw[hC,px n (lo+1),List.range_succ_eq_map,mP1,bu]
  congr 1
  ·simp
  ·apply cq;intro i _;simp only[Function.comp_apply,Nat.succ_eq_add_one]
   congr 1
   push_cast
   lia
theorem lg(n:Nat):hC 0 n=(af n).map λi:Nat=>D.int i:=by
 rw[px];apply cq;intro i _;simp
theorem pA{α:Type}{c:List (Nat×List D)}{g:FG}{t:FT}{e:FE}{S:c6}{f:α->D}{Q:List D×Ev×c6->Prop}(F:α->D)(P:Ev->Prop)(d:n9 S c=true):∀ (xs:List α) (r:Ev),P r ->
  (∀a∈xs,∀r,P r->W (g (f a) r S) λp=>W (t p.1 p.2) λb=>b.1=M/\W (e p.1 b.2) λx=>x.1=F a/\x.2=S/\P p.1) ->
  (∀i,P i->Q (xs.map F,i,S))->W (fr c g t (dW e) (xs.map f) r S) Q
 |[],r,hr,_,h=>by rw[bc,fr];dsimp only;rw[ak d,dJ];exact h r hr
 |a::xs,r,hr,hs,h=>by
  rw[mP1,fr];dsimp only;rw[ak d,db];obtain⟨p,n,⟨b,s,k,⟨x,q,o,l,u⟩⟩⟩:=hs a mS1 r hr;refine⟨p,n,?_⟩;dsimp only;rw[db];refine⟨b,s,?_⟩;dsimp only;rw[ak k,db,dW,kC];refine⟨x,q,?_⟩;dsimp only;rw[l,kC];refine pA F P d xs p.1 u (λa m=>hs a (mC1 _ m)) λi j=>?_;have:=h i j;rw[mP1,<- o]at this;exact this
theorem gx{α:Type}{c:List (Nat×List D)}{g:FG}{t:FT}{e:FE}{S:c6}{f:α->D}{Q:List D×Ev×c6->Prop}(k:α->Bool)(F:α->D)(P:Ev->Prop)(d:n9 S c=true):∀ (xs:List α) (r:Ev),P r ->
  (∀a∈xs,∀r,P r->W (g (f a) r S) λp=>W (t p.1 p.2) λb=>b.1=k a/\b.2=S/\P p.1/\(k a=M->W (e p.1 S) λx=>x.1=F a/\x.2=S)) ->
  (∀j,P j->Q ((xs.filter k).map F,j,S))->W (fr c g t (dW e) (xs.map f) r S) Q
 |[],r,hr,_,h=>by rw[bc,fr];dsimp only;rw[ak d,dJ];exact h r hr
 |a::xs,r,hr,hs,h=>by
  rw[mP1,fr];dsimp only;rw[ak d,db];obtain⟨p,u,⟨b,w,q,s,o,m⟩⟩:=hs a mS1 r hr;refine⟨p,u,?_⟩;dsimp only;rw[db];refine⟨b,w,?_⟩;dsimp only;cases hk:k a with
  |true=>
   rw[q,hk,ak O,db,dW,kC,s];obtain⟨x,v,m,l⟩:=m hk;refine⟨x,v,?_⟩;dsimp only;rw[l,kC];refine gx k F P d xs p.1 o (λa n=>hs a (mC1 _ n)) λj i=>?_;have:=h j i;rw[cr,hk,ak O,mP1,<- m]at this;exact this
  |false=>
   rw[q,hk,aj (by decide),s];refine gx k F P d xs p.1 o (λa n=>hs a (mC1 _ n)) λj i=>?_;have:=h j i;rw[cr,hk,aj (by decide)]at this;exact this
mutual
theorem Cv{n m:Nat}(h:n<=m):∀{d:D},d.und n=M->d.und m=M
 | .non,_=>rfl
 | .bl _,_=>rfl
 | .int _,_=>rfl
 | .str _,_=>rfl
 | .tup xs,q=>by rw[D.und]at q ⊢;exact im h q
 | .rol xs,q=>by rw[D.und]at q ⊢;exact im h q
 | .fn _,_=>rfl
 | .ref k,q=>by simp[D.und]at q ⊢;lia
theorem im{n m:Nat}(h:n<=m):∀{ds:List D},D.unds n ds=M->D.unds m ds=M
 |[],_=>rfl
 |d::ds,q=>by
  rw[D.unds,bA1]at q ⊢;exact⟨Cv h q.1,im h q.2⟩
end
theorem ff{n m:Nat}(h:n<=m):∀{o:Ob},o.und n=M->o.und m=M
 | .lst xs,q=>by rw[Ob.und]at q ⊢;exact im h q
 | .dct xs,q=>by rw[Ob.und]at q ⊢;exact im h q
 | .dcT xs,q=>by rw[Ob.und]at q ⊢;exact im h q
 | .dcF xs,q=>by rw[Ob.und]at q ⊢;exact im h q
 | .iset _,_=>rfl
 | .tst _,_=>rfl
theorem dv{α:Type}{n:Nat}{f:α->D}:∀{xs:List α},(∀x∈xs,(f x).und n=M)->D.unds n (xs.map f)=M
 |[],_=>rfl
 |x::xs,h=>by rw[mP1,D.unds,h x mS1,dv λy a=>h y (mC1 _ a)];rfl
theorem Ji{x:Nat}:x+1+1=x+2:=rfl
theorem Jv{x:Nat}:x+2+1=x+3:=rfl
theorem Ju{x:Nat}:x+3+1=x+4:=rfl
theorem Jt{x:Nat}:x+4+1=x+5:=rfl
theorem Js{x:Nat}:x+5+1=x+6:=rfl
theorem Jr{x:Nat}:x+6+1=x+7:=rfl
theorem Jh{x:Nat}:x+1+2=x+3:=rfl
theorem gU{xs:List D}{S:c6}:eL (.tup xs) S=Z (.int xs.length,S):=rfl
theorem GS{xs:List D}{S:c6}:eL (.rol xs) S=Z (.int xs.length,S):=rfl
theorem F6{S:c6}:eL (.str "") S=Z (.int 0,S):=rfl
theorem uz{xs:List D}{S:c6}:dn S (.tup xs)=Z (J,xs):=rfl
theorem GM{xs:List D}{S:c6}:dn S (.rol xs)=Z (M,xs):=rfl
theorem vj{xs:List D}{S:c6}:i6 S (.tup xs)=[]:=rfl
theorem GW{xs:List D}{S:c6}:i6 S (.rol xs)=[]:=rfl
theorem fQ{n:Nat}{xs:List D}{S:c6}(h:S[n]?=Z (.lst xs)):dn S (.ref n)=Z (M,xs):=by simp only[dn,h]
theorem vk{n:Nat}{xs:List D}{S:c6}(h:S[n]?=Z (.lst xs)):i6 S (.ref n)=[(n,xs)]:=by simp only[i6,h]
def sW(S:c6)(d:D)(Q:List D×List (Nat×List D)->Prop):Prop:=W (dn S d) λq=>Q (q.2,i6 S d)
theorem iQ{xs:List D}{S:c6}{Q:List D×List (Nat×List D)->Prop}:sW S (.tup xs) Q↔Q (xs,[]):=dJ
theorem dM{n:Nat}{xs:List D}{S:c6}{Q:List D×List (Nat×List D)->Prop}(h:S[n]?=Z (.lst xs))(q:Q (xs,[(n,xs)])):sW S (.ref n) Q:=by
 unfold sW;rw[fQ h,vk h,dJ];exact q
theorem Ey{m:FE}{r:Ev}{S:c6}{Q:wS×c6->Prop}:W (ge m r S) Q↔W (m r S) λp=>sW p.2 p.1 λq=>Q (⟨q.1,q.2⟩,p.2):=by
 unfold ge;rw[db];refine⟨λh=>h.mono λp q=>?_,λh=>h.mono λp q=>?_⟩
 ·rw[db]at q;exact q.mono λz w=>dJ.mp w
 ·rw[db];exact W.mono (show W (dn p.2 p.1) _ from q) λz w=>dJ.mpr w
theorem EA{d:D}{S:c6}{Q:D×c6->Prop}:W (Mi.gTup d S) Q↔sW S d λq=>Q (.tup q.1,S):=by
 unfold Mi.gTup;rw[kC];exact Iff.rfl
theorem Gz{n:Nat}{S:c6}{Q:D×c6->Prop}:W (eL (.ref n) S) Q↔sW S (.ref n) λq=>Q (.int q.1.length,S):=by
 unfold eL sW;rw[kC]
noncomputable def pD(e:Nat×Nat):D:=.tup [.int e.1,.int e.2]
theorem jE{f:FN}{o:FE}{a:FA}{r:Ev}{S:c6}{Q:D×c6->Prop}(h:W (o r S) λp=>∃n xs,p.1 = .ref n/\p.2[n]?=Z (.lst xs)/\W (a r p.2) λq=>W (f (.ref n::q.1) q.2) Q):W (ri f o a r S) Q:=by
 unfold ri;rw[db];refine h.mono ?_;rintro⟨d,b⟩ ⟨n,xs,rfl,e,q⟩;dsimp only at e q ⊢;rw[e];dsimp only;rw[db];exact q
noncomputable def eB(row:List (Nat×Nat)):Ob:=.lst (row.map pD)
theorem gA{n:Nat}{row:List (Nat×Nat)}:(eB row).und n=M:=by
 unfold eB;rw[Ob.und];exact dv λ_ _=>rfl
structure WS (t m:Nat)(T:c6)(E:List (List (Nat×Nat)))(P:List (Nat×Nat))(U:c6):Prop where
 tl:T.length=t
 low:U.take t=T
 el:E.length=m
 row:∀i row,E[i]?=some row->U[t+i]?=some (eB row)
 ends:U[t+m]?=some (.lst (gZ (t+1) m))
 prs:U[t+m+1]?=some (.lst (P.map pD))
theorem WS.app{t m:Nat}{T:c6}{E:List (List (Nat×Nat))}{P:List (Nat×Nat)}{U G:c6}(w:WS t m T E P U):WS t m T E P (U++G):=by
 have b:t+m+1<U.length:=(gE1.mp w.prs).1;refine⟨w.tl,?_,w.el,λi a h=>?_,?_,?_⟩
 ·rw[cu (by omega)];exact w.low
 ·have:=w.row i a h;rw[gL1 (gE1.mp this).1];exact this
 ·rw[gL1 (by omega)];exact w.ends
 ·rw[gL1 (by omega)];exact w.prs
theorem j6:∀{k n i:Nat},i<k->(gZ n k)[i]?=Z (.ref (n+i))
 |k+1,n,0,_=>rfl
 |k+1,n,i+1,h=>by rw[gZ,gC1,j6 (Nat.lt_of_succ_lt_succ h),show n+1+i=n+(i+1) by lia]
theorem h9:∀k n:Nat,(gZ n k).length=k
 |0,_=>rfl
 |k+1,n=>by rw[gZ,lC1,h9]
noncomputable def tot(E:List (List (Nat×Nat))):Nat:=(E.map List.length).sum
theorem xj:∀{E:List (List (Nat×Nat))} {k:Nat},k<=E.length->(∀i b,i<k->E[i]?=Z b->4<=b.length)->4*k<=tot E
 |E,0,_,_=>by lia
 |[],k+1,h,_=>by simp at h
 |a::E,k+1,h,q=>by
  have h1:=q 0 a (by lia) O;have h2:=xj (E:=E) (k:=k) (by simpa using h) λi b hi c=>q (i+1) b (by lia) (by simpa using c);simp[tot]at h2 ⊢;lia
noncomputable def dF(rs:List Nat):List D:=rs.map λi:Nat=>D.int i
theorem fA(rs:List Nat):(dF rs).length=rs.length:=by simp[dF]
theorem eO(rs:List Nat):D.unds 0 (dF rs)=M:=dv λ_ _=>rfl
abbrev Wk:=Nat×Nat×Nat
noncomputable def eQ(w:Wk):D:=.tup [.int w.1,.int w.2.1,.int w.2.2]
noncomputable def dI(ws:List Wk):List D:=ws.map eQ
theorem lK(ws:List Wk):(dI ws).length=ws.length:=by simp[dI]
theorem uq(ws:List Wk):D.unds 0 (dI ws)=M:=dv λ_ _=>rfl
noncomputable def de(ws:List Wk)(cs:List Nat):D:=.tup [.tup (dI ws),.tup (dF cs)]
theorem fm{ws:List Wk}{cs:List Nat}:(de ws cs).und 0=M:=by simp[de,D.und,D.unds,uq,eO]
noncomputable def eM(a b c d:Bool):List D:=(if a then[.str "came"]else[])++(if b then[.str "chalk"]else[])++(if c then[.str "doors"]else[])++(if d then[.str "others"]else[])
theorem ng(a b c d:Bool):D.unds 0 (eM a b c d)=M:=by cases a<;>cases b<;>cases c<;>cases d<;>rfl
theorem Bt{a b c d:Bool}{S:c6}:hK (.str "came") (.tup (eM a b c d)) S=Z (.bl a,S):=by cases a<;>cases b<;>cases c<;>cases d<;>rfl
theorem yV{a b c d:Bool}{S:c6}:hK (.str "chalk") (.tup (eM a b c d)) S=Z (.bl b,S):=by cases a<;>cases b<;>cases c<;>cases d<;>rfl
theorem yU{a b c d:Bool}{S:c6}:hK (.str "doors") (.tup (eM a b c d)) S=Z (.bl c,S):=by cases a<;>cases b<;>cases c<;>cases d<;>rfl
theorem wg{a b c d:Bool}{S:c6}:hK (.str "others") (.tup (eM a b c d)) S=Z (.bl d,S):=by cases a<;>cases b<;>cases c<;>cases d<;>rfl
theorem pH{S:c6}{n:Nat}{x:Nat}:∀a:List Nat,Cd (lT S (n+1)) (.int x) (dF a)=Z (a.contains x)
 |[]=>rfl
 |c::a=>by
  have b:lT S (n+1) (.int c) (.int x)=Z ((c:Int) == (x:Int)):=rfl;have d:((c:Int) == (x:Int))=(x == c):=by
   rw[bN,beq_iff_eq,beq_iff_eq];lia
  have ih:=pH (S:=S) (n:=n) (x:=x) a;rw[dF,mP1,Cd,b,d];rw[dF]at ih;rw[ih,List.contains_cons];rfl
theorem uZ{S:c6}{x:Nat}{cs:List Nat}:hK (.int x) (.tup (dF cs)) S=Z (.bl (cs.contains x),S):=by
 simp only[hK,tU,EN,dn,oS1,eh,show(60:Nat)=59+1 from rfl,pH,oP1]
noncomputable def sS(a b c d:Bool)(came chalk doors others:Int):D:=.tup [if a then .int came else .non,if b then .int chalk else .non,if c then .int doors else .non,if d then .int others else .non]
theorem nU{a b c d:Bool}{w x y z:Int}:(sS a b c d w x y z).und 0=M:=by cases a<;>cases b<;>cases c<;>cases d<;>rfl
theorem yM{κ:Type}[DecidableEq κ]{k:κ}:dH ([]:List (κ×D)) k=Y:=rfl
theorem eZ{κ:Type}[DecidableEq κ]{k a:κ}{d:D}{r:List (κ×D)}:dH ((a,d)::r) k=if a=k then Z d else dH r k:=by
 unfold dH;rw[bf];by_cases h:a=k
 ·simp[h]
 ·simp[h]
theorem rp{κ:Type}[DecidableEq κ]{k:κ}{b:List (κ×D)}:∀{a:List (κ×D)},dH (a++b) k=(dH a k).or (dH b k)
 |[]=>rfl
 |(x,d)::a=>by
  rw[bn,eZ,eZ,rp (a:=a)];split<;>rfl
theorem oj{κ:Type}[DecidableEq κ]{k:κ}:∀{a:List (κ×D)},(a.any λp=>decide (p.1=k))=J->dH a k=Y
 |[],_=>rfl
 |(x,d)::a,h=>by
  simp only[bg,Bool.or_eq_false_iff,decide_eq_false_iff_not]at h;rw[eZ,aj h.1];exact oj h.2
theorem kM{κ:Type}[DecidableEq κ]{k k':κ}{v:D}:∀{a:List (κ×D)},(a.any λp=>decide (p.1=k))=M->dH (a.map λp=>if p.1=k then(p.1,v)else p) k'=if k'=k then Z v else dH a k'
 |[],h=>by simp at h
 |(x,d)::a,h=>by
  rw[mP1];by_cases f:x=k
  ·subst f;rw[ak (show(x,d).1=x from rfl)];rw[eZ,eZ];by_cases e:k'=x
   ·subst e;simp
   ·rw[aj (Ne.symm e),aj (Ne.symm e),aj e];by_cases g:(a.any λp=>decide (p.1=x))=M
    ·rw[kM g,aj e]
    ·have:(a.map fun p=>if p.1=x then (p.1,v) else p)=a:=by
      have b:(a.any λp=>decide (p.1=x))=J:=Bool.eq_false_iff.mpr g;rw[List.any_eq_false]at b
      conv=>rhs;rw[<- cv a]
      apply cq;intro p i;have:=b p i;simp at this;simp[this]
     rw[this]
  ·simp only[bg,ai f,Bool.false_or]at h;rw[aj (show¬ (x,d).1=k from f)];rw[eZ,eZ,kM h];by_cases c:x=k'
   ·subst c;simp[f]
   ·simp[c]
theorem ro{κ:Type}[DecidableEq κ]{k k':κ}{v:D}{a:List (κ×D)}:dH (fG a k v) k'=if k'=k then Z v else dH a k':=by
 unfold fG;split
 ·rename_i h;exact kM h
 ·rename_i h;have h':(a.any λp=>decide (p.1=k))=J:=Bool.eq_false_iff.mpr h;rw[rp,eZ,yM];by_cases b:k'=k
  ·subst b;rw[oj h',ak O];rfl
  ·rw[aj (Ne.symm b),aj b];cases dH a k'<;>rfl
theorem Ar{κ:Type}[DecidableEq κ]{k:κ}{v:D}{a:List (κ×D)}:(fG a k v).length<=a.length+1:=by
 unfold fG;split
 ·rw[lM1];lia
 ·rw[lA1];simp
theorem CU{κ:Type}[DecidableEq κ]{k:κ}{v:D}{a:List (κ×D)}:fG a k v≠[]:=by
 unfold fG;split
 ·rename_i h;intro z;cases a with
  |nil=>simp at h
  |cons x xs=>simp at z
 ·simp
noncomputable def dO(F:List (TK×D)):Ob:=if F=[]then .dct []else .dcT F
theorem Ew{U:c6}{n:Nat}{F:List (TK×D)}{a v:D}{k:TK}{Q:D×c6->Prop}(h:U[n]?=Z (dO F))(hk:keyT a=Z k)(c:F.length<1000)(q:Q (.non,U.set n (dO (fG F k v)))):W (gW (.ref n) a v U) Q:=by
 refine W.of ?_ q;unfold dO at h ⊢;rw[aj CU];by_cases b:F=[]
 ·subst b;rw[ak O]at h;simp only[gW,h,hk];rfl
 ·rw[aj b]at h;simp only[gW,h,hk,oS1];rw[ak (nL1 c (by decide))]
theorem Ez{U:c6}{n:Nat}{F:List (TK×D)}{a v:D}{k:TK}{Q:D×c6->Prop}(h:U[n]?=Z (dO F))(hk:keyT a=Z k)(hv:dH F k=Z v)(q:Q (v,U)):W (da (.ref n) a U) Q:=by
 refine W.of ?_ q;unfold dO at h;by_cases b:F=[]
 ·subst b;cases hv
 ·rw[aj b]at h;simp only[da,h,hk,oS1,hv,oP1]
noncomputable def ql(e:Nat×Nat):TK:=.tup [.int e.1,.int e.2]
theorem ux{a b:Nat×Nat}(h:ql a=ql b):a=b:=by
 obtain⟨a1,a2⟩:=a;obtain⟨b1,b2⟩:=b;simp[ql]at h
 ext<;>simp<;>lia
theorem uV{e:Nat×Nat}:keyT (pD e)=Z (ql e):=rfl
theorem Ex{U:c6}{n i:Nat}{xs:List D}{x:D}{Q:D×c6->Prop}(h:U[n]?=Z (.lst xs))(hx:xs[i]?=Z x)(hb:i<1000)(q:Q (x,U.set n (.lst (xs.eraseIdx i)))):W (ze (.ref n) (.int i) U) Q:=by
 have a:=(gE1.mp hx).1;refine W.of ?_ q;simp only[ze,h];rw[ak ⟨by lia,by lia⟩];simp only[tP,ak (show(0:Int)<=i by lia)];rw[ak (by lia)];simp[hx]
theorem za{d:D}{S G:c6}(hd:d.und 0=M)(a:S.all (Ob.und S.length)=M):gc S.length (d,S++G)=(d,S):=by
 unfold gc;dsimp only;rw[List.take_left,ak (by rw[d6 hd,a];rfl)]
theorem tR{d:D}{S V:c6}(hd:d.und 0=M)(a:S.all (Ob.und S.length)=M)(hp:S <+: V):gc S.length (d,V)=(d,S):=by
 obtain⟨G,rfl⟩:=hp;exact za hd a
theorem zF{m:FA}{r:Ev}{S:c6}{xs ys:List D}{n:Nat}{Q:wS×c6->Prop}(hm:m r S=Z ([.tup xs,.ref n],S))(hn:S[n]?=Z (.lst ys))(q:Q (⟨uk xs ys,[(n,ys)]⟩,S)):W (Ce m r S) Q:=by
 refine W.of (x:=(⟨uk xs ys,[(n,ys)]⟩,S)) ?_ q;simp only[Ce,hm,oS1,uz,fQ hn,vj,vk hn,ci]
theorem sF{α:Type}{f g:α->D}:∀l:List α,uk (l.map f) (l.map g)=l.map λx=>D.tup [f x,g x]
 |[]=>rfl
 |a::l=>by rw[mP1,mP1,uk,sF l];rfl
theorem zM{m:FA}{r:Ev}{S:c6}{xs:List D}{Q:wS×c6->Prop}(hm:m r S=Z ([.tup xs],S))(q:Q (⟨wr 0 xs,[]⟩,S)):W (wO m r S) Q:=by
 refine W.of (x:=(⟨wr 0 xs,[]⟩,S)) ?_ q;simp only[wO,hm,oS1,uz,vj]
theorem pN{α:Type}{f:α->D}:∀(l:List α) (k:Nat),wr k (l.map f)=(l.zipIdx k).map λp=>D.tup [.int (p.2:Nat),f p.1]
 |[],_=>rfl
 |a::l,k=>by rw[mP1,wr,pN l (k+1),bH];rfl
theorem hU{α:Type}{l:List α}{p:α×Nat}(h:p∈l.zipIdx):l[p.2]?=Z p.1:=by
 have:=List.mem_zipIdx_iff_getElem?.mp h;exact this
theorem ik{α β:Type}(f:α->β)(l:List α):(l.zipIdx.map λp=>f p.1)=l.map f:=by
 have:(λp:α×Nat=>f p.1)=f∘Prod.fst:=rfl;rw[this,<- bu,List.zipIdx_map_fst]
mutual
theorem sU{n:Nat}:∀{d:D},d.und 0=M->d.sh n=d
 | .non,_=>rfl
 | .bl _,_=>rfl
 | .int _,_=>rfl
 | .str _,_=>rfl
 | .tup xs,h=>by rw[D.und]at h;rw[D.sh,gP h]
 | .rol xs,h=>by rw[D.und]at h;rw[D.sh,gP h]
 | .fn _,_=>rfl
 | .ref k,h=>by simp[D.und]at h
theorem gP{n:Nat}:∀{ds:List D},D.unds 0 ds=M->D.shs n ds=ds
 |[],_=>rfl
 |d::ds,h=>by
  rw[D.unds,bA1]at h;rw[D.shs,sU h.1,gP h.2]
end
theorem Cf{n:Nat}{f:FN}{ds:List D}{S:c6}{Q:D×c6->Prop}(hn:ds.length=n)(c:D.unds 0 ds=M)(h:W (f ds []) λp=>∃xs,p=(.ref 0,[.lst xs])/\D.unds 0 xs=M/\Q (.ref S.length,S++[.lst xs])):W (c7 n f ds S) Q:=by
 obtain⟨p,e,xs,rfl,a,q⟩:=h;refine⟨_,i7 e hn c O,?_⟩;have b:(D.ref 0).sh S.length = .ref S.length:=rfl;have d:[Ob.lst xs].map (Ob.sh S.length)=[Ob.lst xs]:=by rw[mP1,bc,Ob.sh,gP a]
 rw[b,d];exact q
theorem DO{ns:List Int}{k:Int}:k∈ddI ns↔k∈ns:=by
 have b:∀(ns a:List Int),k∈ns.foldl step_dedup a↔k∈a\/k∈ns:=by
  intro ns
  induction ns with
  |nil=>intro a;simp
  |cons n ns ih=>
   intro a;rw[aZ,ih];have:k∈step_dedup a n↔k∈a\/k=n:=by
    unfold step_dedup;split
    ·rename_i h;obtain⟨x,c,e⟩:=bO.mp h;have e:=beq_iff_eq.mp e;subst e;constructor
     ·exact .inl
     ·rintro(z|z)
      ·exact z
      ·rw[z];exact c
    ·simp
   rw[this,aE,or_assoc]
 unfold ddI;rw[b];simp
theorem Ae{xs:List Nat}{m:Nat}{f:Nat->Bool}(h:∀r,r∈xs↔r<m/\f r=M):gO (ddI (xs.map λ(r:Nat)=>(r:Int)))=((af m).filter f).map λ(r:Nat)=>(r:Int):=by
 refine lP ?_ (jY _) ?_
 ·refine(eS _).trans ?_;refine(List.perm_ext_iff_of_nodup (r6 _ [] bq) ?_).mpr λk=>?_
  ·refine cw.mpr ((List.nodup_range.filter f).imp λb z=>b (by lia))
  ·show k∈ddI _↔_;rw[DO,b6,b6];constructor
   ·rintro⟨r,a,rfl⟩;exact⟨r,aA.mpr ⟨aB.mpr ((h r).mp a).1,((h r).mp a).2⟩,O⟩
   ·rintro⟨r,a,rfl⟩;obtain⟨h1,h2⟩:=aA.mp a;exact⟨r,(h r).mpr ⟨aB.mp h1,h2⟩,O⟩
 ·refine cw.mpr ((List.pairwise_lt_range.sublist List.filter_sublist).imp λc=>by lia)
theorem Br(xs:List Nat):m4 (dF xs)=Z (xs.map λ(r:Nat)=>(r:Int)):=by
 induction xs with
 |nil=>rfl
 |cons x xs ih=>
  show(m4 (dF xs)).map _=_;rw[ih];rfl
theorem wJ{S:c6}{n:Nat}{xs:List Nat}{m:Nat}{f:Nat->Bool}{Q:D×c6->Prop}(hn:S[n]?=Z (.lst (dF xs)))(h:∀r,r∈xs↔r<m/\f r=M)(a:xs.length<64)(q:Q (.ref S.length,S++[.lst (dF ((af m).filter f))])):W (i3 (.ref n) S) Q:=by
 refine W.of (x:=(.ref S.length,S++[.lst (dF ((af m).filter f))])) ?_ q;simp only[i3,fQ hn,Br,oS1];rw[ak (by rw[lM1];exact a),Ae h,bu];rfl
end Mi
end
local macro_rules | `(tactic| walk_at"w") => `(tactic| simp only[Mi.dJ, Mi.jR, Mi.ite_and', Mi.db, Mi.kC, Mi.sw, Mi.di, Mi.dk, Mi.gg, Mi.d7, Mi.eE, Mi.nz, Mi.mN, Mi.c4, Mi.c5, Mi.m2, Mi.m1, Mi.mV, Mi.mC, Mi.pV, Mi.zK, Mi.mB, Mi.rn, Mi.F3, Mi.rj, Mi.eP, Mi.gN, Mi.gT, Mi.gCs, Mi.gNl, Mi.gS, Mi.b1, Mi.b2, Mi.b3, Mi.gL, Mi.gD, Mi.iC, Mi.zL, Mi.GA, Mi.EK, Mi.GO, Mi.fO, Mi.rB, Mi.EB, Mi.gSub, Mi.jN, Mi.lH, Mi.Bz, Mi.Bv, Mi.Bw, Mi.va, Mi.u6, Mi.Im, Mi.Il, Mi.HH, Mi.HG, Mi.Jf, Mi.Je, Mi.Jd, true_and, Mi.gv, Mi.dV, aY, lA1, cy, gC1, List.getElem?_nil, cA, cB, lC1, bh, mP1, bc, Mi.IX, Mi.H9, Mi.IN, Mi.IL, Mi.IK, Mi.IJ, Mi.II, Mi.Ho, Mi.Hn, ci, bn, aL, Nat.reduceAdd, Nat.reduceSub, Option.join_some, Option.join_none, oP1, Option.map_none, oS1, Option.bind_none, if_true, if_false, bF1, bV, Bool.not_false, ite_true, ite_false, reduceIte, decide_true, decide_false, Mi.Ji, Mi.Jh, Mi.gU, Mi.Ey, Mi.EA, Mi.Gz])
noncomputable section
namespace Law
open PySem PySem.Spec PyProof.Rows L2 Mi
noncomputable def js (i:Nat):cZ:=PySem.Challenge.pw_ringmeet_k67_slow_walks.main.body.getD i (.Pass ⟨0,0,0,0⟩)
abbrev BL:List Str:=["dict","enumerate","int","len","list","range","repr","set","sorted","sum","tuple","zip"]
noncomputable def lX:D:=(D.tup [(D.tup [(D.str "came"),(D.int 5)]),(D.tup [(D.str "chalk"),(D.int 2)]),(D.tup [(D.str "doors"),(D.int 5)]),(D.tup [(D.str "others"),(D.int 2)])])
section
variable{P:cQ}{w:cS}{K:Fg1}{mg:Str->Option cN}{base h:cX}(X:K.In h) (G:h.Ns cT mg) (B:Blt BL mg)
include X G B
abbrev mn:cZ:=js 3
noncomputable def j9:FT:=(mB (m2 (b2 wP) (mV 2) (mV 3)))
noncomputable def j8:FS:=(di (dk (m2 (b2 rJ) (m2 (b2 en) (mV 2) (mV 3)) (mC (D.int 2))) (gN 4))
  (gg (mB (m2 (b2 wP) (m2 (b2 da) (m2 (b2 da) (m2 (b2 da) (mV 0) (mV 4)) (mC (D.int 0))) (mC (D.int 0))) (mV 1))) (dk (m2 (b2 en) (mV 4) (mC (D.int 1))) (gN 2)) (dk (mV 4) (gN 3))))
noncomputable def nt:FS:=(di (dk (mC (D.int 0)) (gN 2))
  (di (dk (mN (b1 eL) (c4 (mV 0) c5)) (gN 3))
  (di (qa j9 j8 100000)
  (d7 (mV 2)))))
noncomputable def gG:FN:=gL 5 nt
theorem qC {f:cP}(F:dQ K "first_of" mn f):
  et P w K mg base 1 "first_of" 2 gG:=xq ["rows","mood","low","high","middle"] X G F λa=>
 (qF (sq qK) (qF (sq (cn ft (a1 xv))) (qF (kG 100000 PassesOwn.never (ct (oq lc) xv xv) (qF (sq (qI Ca (qI ee xv xv) qK)) (qG (qV (ct (oq lc) (jq (jq (jq xv xv) qK) qK) xv) (qG (sq (qI ee xv qK))) (qG (sq xv)))))) (qG (qU xv)))))
abbrev uE:cZ:=js 5
noncomputable def vr:FS:=(di (dk (mV 0) (gT 2 (gCs (gN 1) (gCs (gN 2) gNl))))
  (d7 (dS (c4 (mN (b1 gTup) (c4 (d4 1 [] (ge (mV 1)) (gN 0) eP (dW (dS (c4 (mV 0) (c4 (mC (D.int 0)) (c4 (mC (D.int 0)) c5)))))) c5)) (c4 (mV 2) c5)))))
noncomputable def iz:FN:=gL 3 vr
theorem yf {f:cP}(F:dQ K "begun" uE f):
  et P w K mg base 1 "begun" 1 iz:=xq ["standing","rooms","chalk"] X G F λa=>
 (qF (qR xv (tg2 gq gq)) (qG (qU (dg (a2 (cz d5 (a1 (fk ["room"] (qd xv) ⟨gq,d9,(dg (a3 xv qK qK))⟩))) xv)))))
abbrev mj:cZ:=js 6
noncomputable def nr:FS:=(di (dk (mV 2) (gT 2 (gCs (gN 4) (gCs (gN 5) gNl))))
  (di (dk (m2 (b2 da) (mV 4) (mV 3)) (gT 3 (gCs (gN 6) (gCs (gN 7) (gCs (gN 8) gNl)))))
  (di (dk (d4 1 [6] (ge (mV 4)) (gN 0) (mB (m2 (b2 oz) (m2 (b2 da) (mV 0) (mC (D.int 0))) (mV 1))) (dW (mV 0))) (gN 9))
  (di (dk (mU [((mC (D.str "came")),(mV 7)),((mC (D.str "chalk")),(rj (mB (m2 (b2 hK) (mV 6) (mV 5))) (mC (D.int 1)) (mC (D.int 0)))),((mC (D.str "doors")),(mN (b1 eL) (c4 (m2 (b2 da) (mV 0) (mV 6)) c5))),((mC (D.str "others")),(rj (mB (m2 (b2 (jN λi j=>decide (j<i))) (mN (b1 eL) (c4 (mV 9) c5)) (mC (D.int 1)))) (mC (D.int 1)) (mC (D.int 0))))]) (gN 10))
  (d7 (mN (b1 gTup) (c4 (d4 2 [1,10] (ge (mC lX)) (gT 2 (gCs (gN 0) (gCs (gN 1) gNl))) eP (dW (rj (mB (m2 (b2 hK) (mV 0) (mV 2))) (m2 (b2 da) (mV 3) (mV 0)) (mC D.non)))) c5)))))))
noncomputable def gF:FN:=gL 11 nr
theorem qB {f:cP}(F:dQ K "sight_of" mj f)(a:CGl K mg "PARTS" lX):
  et P w K mg base 1 "sight_of" 4 gF:=xq ["web","eyes","whole","k","walkers","chalk","room","came","mood","here","parts"] X G F λb=>
 (qF (qR xv (tg2 gq gq)) (qF (qR (jq xv xv) (gn O (dr gq (dr gq (dr gq fx))))) (qF (fI 9 O (T:=["other"]) (keep:=[6]) ⟨O,by decide+kernel,(kc "room" (cg _))⟩ O (qd xv) (λ_ _ _=>⟨gq,(fU (ct (oq lF) (jq xv qK) xv)),xv⟩) (gi O) O (by first|exact Or.inl rfl|exact Or.inr rfl)) (qF (sq (qh (fT dq xv (fT dq (jH (ct (oq lf) xv xv (by with_unfolding_all rfl)) qK qK) (fT dq (cn ft (a1 (jq xv xv))) (fT dq (jH (ct Du (cn ft (a1 xv)) qK) qK qK) uo)))))) (qG (qU (cz d5 (a1 (fk ["eye","many"] (qd (wZ a rfl)) ⟨(tg2 gq gq),d9,(jH (ct (oq lf) xv xv (by with_unfolding_all rfl)) (jq xv xv) gp)⟩)))))))))
abbrev nW:cZ:=js 10
noncomputable def oQ:FS:=(di (dk (mV 0) (gT 2 (gCs (gN 2) (gCs (gN 3) gNl))))
  (di (dk (d4 2 [] (Ce (c4 (mV 2) (c4 (mV 1) c5))) (gT 2 (gCs (gN 0) (gCs (gN 1) gNl))) (mB (m2 (b2 oz) (m2 (b2 da) (mV 1) (mC (D.int 1))) (mC (D.str "mark")))) (dW (m2 (b2 da) (mV 0) (mC (D.int 0))))) (gN 4))
  (di (dk (d4 2 [] (Ce (c4 (mV 2) (c4 (mV 1) c5))) (gT 2 (gCs (gN 0) (gCs (gN 1) gNl))) (mB (m2 (b2 oz) (m2 (b2 da) (mV 1) (mC (D.int 1))) (mC (D.str "wipe")))) (dW (m2 (b2 da) (mV 0) (mC (D.int 0))))) (gN 5))
  (di (dk (d4 1 [5] (ge (mV 3)) (gN 0) (mB (m2 (b2 iB) (mV 0) (mV 1))) (dW (mV 0))) (gN 6))
  (d7 (mN (b1 gTup) (c4 (mN (b1 i3) (c4 (m2 (b2 en) (mV 6) (mV 4)) c5)) c5)))))))
noncomputable def ic:FN:=gL 7 oQ
theorem tu {f:cP}(F:dQ K "handled" nW f):
  et P w K mg base 1 "handled" 2 ic:=xq ["whole","deeds","walkers","chalk","marked","wiped","left"] X G F λa=>
 (qF (qR xv (tg2 gq gq)) (qF (fI 4 O (T:=["walker","deed"]) (keep:=[]) ⟨O,by decide+kernel,(cg _)⟩ O (oV O (bz B) (a2 xv xv)) (λ_ _ _=>⟨(tg2 gq gq),(fU (ct (oq lF) (jq xv qK) dq)),(jq xv qK)⟩) (gi O) O (by first|exact Or.inl rfl|exact Or.inr rfl)) (qF (sq (fk ["walker","deed"] (oV rfl (bz B) (a2 xv xv)) ⟨(tg2 gq gq),(fU (ct (oq lF) (jq xv qK) dq)),(jq xv qK)⟩)) (qF (fI 6 rfl (T:=["room"]) (keep:=[5]) ⟨rfl,by decide+kernel,(kc "wiped" (cg _))⟩ rfl (qd xv) (λ_ _ _=>⟨gq,(fU (ct (oq q0) xv xv (by with_unfolding_all rfl))),xv⟩) (gi O) O (by first|exact Or.inl rfl|exact Or.inr rfl)) (qG (qU (cz d5 (a1 (vD rfl rfl (bz B) rfl (bz B) (qI ee xv xv))))))))))
abbrev nV:cZ:=js 11
noncomputable def oP:FS:=(di (dk (mV 1) (gT 3 (gCs (gN 3) (gCs (gN 4) (gCs (gN 5) gNl)))))
  (di (dk (mV 2) (gT 3 (gCs (gN 6) (gCs (gN 7) (gCs (gN 8) gNl)))))
  (di (gg (F3 (mB (m2 (b2 Bx) (mV 8) (mC D.non))) (mB (m2 (b2 (jN λi j=>decide (j<=i))) (mV 8) (mN (b1 eL) (c4 (m2 (b2 da) (mV 0) (mV 3)) c5))))) (d7 (dS (c4 (mV 3) (c4 (mV 4) (c4 (mV 6) c5))))) nz)
  (di (dk (m2 (b2 da) (m2 (b2 da) (mV 0) (mV 3)) (mV 8)) (gT 2 (gCs (gN 9) (gCs (gN 10) gNl))))
  (d7 (dS (c4 (mV 9) (c4 (m2 (b2 en) (mC (D.int 1)) (mV 10)) (c4 (mV 6) c5)))))))))
noncomputable def ib:FN:=gL 11 oP
theorem tt {f:cP}(F:dQ K "stepped" nV f):
  et P w K mg base 1 "stepped" 3 ib:=xq ["web","walker","deed","room","came","past","mood","hand","step","there","back"] X G F λa=>
 (qF (qR xv (gn O (dr gq (dr gq (dr gq fx))))) (qF (qR xv (gn O (dr gq (dr gq (dr gq fx))))) (qF (qV (l7 (wW (ct FL xv gp) (ul (ct FQ xv (cn ft (a1 (jq xv xv))))))) (qG (qU (dg (a3 xv xv xv)))) qQ) (qF (qR (jq (jq xv xv) xv) (tg2 gq gq)) (qG (qU (dg (a3 xv (qI ee qK xv) xv))))))))
abbrev mx:cZ:=js 21
noncomputable def jP:FS:=(di (dk (mC (D.int 0)) (gN 2))
  (di (gg (mB (m2 (b2 wP) (mV 1) (mN (b1 eL) (c4 (mV 0) c5)))) (dk (m2 (b2 da) (mV 0) (mV 1)) (gN 2)) nz)
  (di (dk (m2 (b2 i5) (m2 (b2 km) (mV 2) (m2 (b2 i5) (m2 (b2 tS) (mC (D.int 10)) (mC (D.int 45))) (m2 (b2 tS) (mC (D.int 10)) (mC (D.int 45))))) (mN (b1 lH) (c4 (m2 (b2 (jN λi j=>decide (j<=i))) (mV 2) (m2 (b2 tS) (mC (D.int 10)) (mC (D.int 18)))) c5))) (gN 3))
  (d7 (eW (c4 (mV 3) (c4 (m2 (b2 km) (m2 (b2 en) (m2 (b2 en) (m2 (b2 en) (m2 (b2 km) (mV 2) (mC (D.int 2305843009213693951))) (m2 (b2 i5) (m2 (b2 i5) (mC (D.int 9973)) (mV 1)) (mV 1))) (m2 (b2 i5) (mC (D.int 17)) (mV 1))) (mC (D.int 5))) (mC (D.int 2305843009213693951))) (c4 (mC (D.int 0)) c5))))))))
noncomputable def eH:FN:=gL 4 jP
theorem qT {f:cP}(F:dQ K "_law_box" mx f):
  et P w K mg base 1 "_law_box" 2 eH:=xq ["_law_script","_law_k","_law_cell","_law_own_here"] X G F λa=>
 (qF (sq qK) (qF (qV (ct (oq lc) xv (cn ft (a1 xv))) (qG (sq (jq xv xv))) qQ) (qF (sq (qI jy (qI k9 xv (qI jy (qI yh qK qK) (qI yh qK qK))) (cz sm (a1 (ce FQ xv (qI yh qK qK)))))) (qG (qU (dY (a3 xv (qI k9 (qI ee (qI ee (qI ee (qI k9 xv qK) (qI jy (qI jy qK xv) xv)) (qI jy qK xv)) qK) qK) qK)))))))
abbrev kZ:cZ:=js 22
noncomputable def jb:FS:=(di (gg (mB (m2 (b2 (jN fun i j=>decide (j<i))) (m2 (b2 da) (mV 0) (mC (D.int 0))) (mC (D.int 0)))) (di (dk (m2 (b2 km) (m2 (b2 da) (mV 0) (mC (D.int 0))) (mV 1)) (gN 2))
  (di (dk (m2 (b2 m7) (m2 (b2 da) (mV 0) (mC (D.int 0))) (mV 1)) (gS (b3 gW) (mV 0) (mC (D.int 0))))
  (d7 (mV 2)))) nz)
  (di (dk (m2 (b2 en) (m2 (b2 da) (mV 0) (mC (D.int 2))) (mC (D.int 1))) (gS (b3 gW) (mV 0) (mC (D.int 2))))
  (di (dk (m2 (b2 km) (m2 (b2 en) (m2 (b2 en) (m2 (b2 i5) (m2 (b2 da) (mV 0) (mC (D.int 1))) (mC (D.int 40009))) (m2 (b2 i5) (mC (D.int 7368787)) (m2 (b2 da) (mV 0) (mC (D.int 2))))) (mC (D.int 12345))) (mC (D.int 2305843009213693951))) (gN 3))
  (di (dk (m2 (b2 km) (m2 (b2 en) (m2 (b2 i5) (mV 3) (m2 (b2 en) (m2 (b2 km) (mV 3) (mC (D.int 65537))) (m2 (b2 i5) (mC (D.int 101)) (m2 (b2 da) (mV 0) (mC (D.int 2)))))) (mC (D.int 9973))) (mC (D.int 2305843009213693921))) (gS (b3 gW) (mV 0) (mC (D.int 1))))
  (d7 (m2 (b2 km) (m2 (b2 en) (m2 (b2 m7) (m2 (b2 da) (mV 0) (mC (D.int 1))) (mC (D.int 4099))) (m2 (b2 m7) (m2 (b2 da) (mV 0) (mC (D.int 1))) (mC (D.int 2147483659)))) (mV 1)))))))
noncomputable def c8:FN:=gL 4 jb
theorem pu {f:cP}(F:dQ K "_law_draw" kZ f):
  et P w K mg base 1 "_law_draw" 2 c8:=xq ["_law_box_here","_law_many","_law_drawn","_law_once"] X G F λa=>
 (qF (qV (ct Du (jq xv qK) qK) (qF (sq (qI k9 (jq xv qK) xv)) (qF (qR (qI tF (jq xv qK) xv) (jV xv qK (ml a.units))) (qG (qU xv)))) qQ) (qF (qR (qI ee (jq xv qK) qK) (jV xv qK (ml a.units))) (qF (sq (qI k9 (qI ee (qI ee (qI jy (jq xv qK) qK) (qI jy qK (jq xv qK))) qK) qK)) (qF (qR (qI k9 (qI ee (qI jy xv (qI ee (qI k9 xv qK) (qI jy qK (jq xv qK)))) qK) qK) (jV xv qK (ml a.units))) (qG (qU (qI k9 (qI ee (qI tF (jq xv qK) qK) (qI tF (jq xv qK) qK)) xv)))))))
abbrev kY:cZ:=js 25
noncomputable def lw:FS:=(di (dk (m2 (b2 rJ) (mN (b1 rF) (c4 (d4 1 [] (ge (mV 0)) (gN 0) eP (dW (mN (b1 eL) (c4 (mV 0) c5)))) c5)) (mC (D.int 2))) (gN 3))
  (di (eE (ri (b2 jm) (m2 (b2 da) (mV 0) (mV 1)) (c4 (dS (c4 (mV 3) (c4 (mC (D.int 0)) c5))) c5)))
  (eE (ri (b2 jm) (m2 (b2 da) (mV 0) (mV 2)) (c4 (dS (c4 (mV 3) (c4 (mC (D.int 1)) c5))) c5)))))
noncomputable def fq:FN:=gL 4 lw
theorem pq {f:cP}(F:dQ K "_law_join" kY f):
  et P w K mg base 1 "_law_join" 3 fq:=xq ["_law_ends","_law_one","_law_other","_law_number"] X G F λa=>
 (qF (sq (qI Ca (cn (Em O) (a1 (fk ["_law_row"] (qd xv) ⟨gq,d9,(cn ft (a1 xv))⟩))) qK)) (qF (lq ap (jq xv xv) (a1 (dg (a2 xv qK)))) (qG (lq ap (jq xv xv) (a1 (dg (a2 xv qK)))))))
abbrev jv:cZ:=js 27
noncomputable def lD:FS:=(dk (m2 (b2 en) (mV 5) (d4 1 [6] (ge (mV 4)) (gN 0) eP (dW (m2 (b2 en) (mV 1) (dS (c4 (mV 0) c5)))))) (gN 5))
noncomputable def lC:FS:=(di (dk (rj (mB (m2 (b2 hK) (mV 2) (mV 0))) (tL (c4 (m2 (b2 en) (mV 3) (mC (D.int 1))) c5)) (eW (c4 (mC D.non) c5))) (gN 4))
  (di (dk (eW c5) (gN 5))
  (di (fO (ge (mV 1)) (gN 6) lD)
  (dk (mV 5) (gN 1)))))
noncomputable def nL:FS:=(di (dk (eW (c4 (dS c5) c5)) (gN 1))
  (di (fO (ge (dS (c4 (dS (c4 (mC (D.str "came")) (c4 (mC (D.int 4)) c5))) (c4 (dS (c4 (mC (D.str "chalk")) (c4 (mC (D.int 1)) c5))) (c4 (dS (c4 (mC (D.str "doors")) (c4 (mC (D.int 4)) c5))) (c4 (dS (c4 (mC (D.str "others")) (c4 (mC (D.int 1)) c5))) c5)))))) (gT 2 (gCs (gN 2) (gCs (gN 3) gNl))) lC)
  (d7 (mV 1))))
noncomputable def fh:FN:=gL 7 nL
theorem mR {f:cP}(F:dQ K "_law_sights" jv f):
  et P w K mg base 1 "_law_sights" 1 fh:=xq ["_law_eyes","_law_found","_law_eye","_law_most","_law_parts","_law_longer","_law_one"] X G F λa=>
 (qF (sq (dY (a1 (dg qN)))) (qF (fo (qd (dg (qA (dg (a2 dq qK)) (a3 (dg (a2 dq qK)) (dg (a2 dq qK)) (dg (a2 dq qK)))))) (tg2 gq gq) (qF (sq (jH (ct (oq lf) xv xv (by with_unfolding_all rfl)) (jG O O (bz B) O (bz B) (a1 (qI ee xv qK))) (dY (a1 gp)))) (qF (sq (dY qN)) (qF (fo (qd xv) gq (qG (sq (qI ee xv (fk ["_law_part"] (qd xv) ⟨gq,d9,(qI ee xv (dg (a1 xv)))⟩))))) (qG (sq xv)))))) (qG (qU xv))))
abbrev j2:cZ:=js 32
noncomputable def kA:FS:=(di (dk (m2 (b2 da) (m2 (b2 da) (mV 2) (mC (D.int 0))) (mV 3)) (gT 3 (gCs (gN 4) (gCs (gN 5) (gCs (gN 6) gNl)))))
  (di (dk (d4 2 [3,4] (wO (c4 (m2 (b2 da) (mV 2) (mC (D.int 0))) c5)) (gT 2 (gCs (gN 0) (gCs (gN 1) gNl))) (rn (mB (m2 (b2 u8) (mV 0) (mV 2))) (mB (m2 (b2 oz) (m2 (b2 da) (mV 1) (mC (D.int 0))) (mV 3)))) (dW (mV 1))) (gN 7))
  (di (dk (mU [((mC (D.str "came")),(mV 5)),((mC (D.str "chalk")),(mN (b1 lH) (c4 (m2 (b2 hK) (mV 4) (m2 (b2 da) (mV 2) (mC (D.int 1)))) c5))),((mC (D.str "doors")),(mN (b1 eL) (c4 (m2 (b2 da) (mV 0) (mV 4)) c5))),((mC (D.str "others")),(mN (b1 lH) (c4 (m2 (b2 u8) (mV 7) (eW c5)) c5)))]) (gN 8))
  (d7 (mN (b1 gTup) (c4 (d4 1 [1,8] (ge (dS (c4 (mC (D.str "came")) (c4 (mC (D.str "chalk")) (c4 (mC (D.str "doors")) (c4 (mC (D.str "others")) c5)))))) (gN 0) eP (dW (rj (mB (m2 (b2 hK) (mV 0) (mV 1))) (m2 (b2 da) (mV 2) (mV 0)) (mC D.non)))) c5))))))
noncomputable def fC:FN:=gL 9 kA
theorem nE {f:cP}(F:dQ K "_law_sight" j2 f):
  et P w K mg base 1 "_law_sight" 4 fC:=xq ["_law_web_here","_law_eyes","_law_whole","_law_k","_law_room","_law_came","_law_mood","_law_others","_law_parts"] X G F λa=>
 (qF (qR (jq (jq xv qK) xv) (gn O (dr gq (dr gq (dr gq fx))))) (qF (fI 7 O (T:=["_law_j","_law_walker"]) (keep:=[3,4]) ⟨O,by decide+kernel,(kc "_law_k" (kc "_law_room" (cg _)))⟩ O (ie (a1 (jq xv qK))) (λ_ _ _=>⟨(tg2 gq gq),(fU (l7 (jT (ct (oq tE) xv xv) (iJ (ct (oq lF) (jq xv qK) xv))))),xv⟩) (gi O) O (by first|exact Or.inl rfl|exact Or.inr rfl)) (qF (sq (qh (fT dq xv (fT dq (cz sm (a1 (ce (oq lf) xv (jq xv qK) (by with_unfolding_all rfl)))) (fT dq (cn ft (a1 (jq xv xv))) (fT dq (cz sm (a1 (ce (oq tE) xv (dY qN)))) uo)))))) (qG (qU (cz d5 (a1 (fk ["_law_eye"] (qd (dg (qA dq (a3 dq dq dq)))) ⟨gq,d9,(jH (ct (oq lf) xv xv (by with_unfolding_all rfl)) (jq xv xv) gp)⟩))))))))
abbrev mw:cZ:=js 33
noncomputable def ny:FS:=(d7 (dS (c4 (m2 (b2 da) (mV 0) (mC (D.int 0))) (c4 (mN (b1 m9) (c4 (mN (b1 rH) (c4 (m2 (b2 da) (mV 0) (mC (D.int 1))) c5)) c5)) c5))))
noncomputable def fM:FN:=gL 1 ny
theorem qS {f:cP}(F:dQ K "_law_own" mw f):
  et P w K mg base 1 "_law_own" 1 fM:=xq ["_law_machine_here"] X G F λa=>
 (qG (qU (dg (a2 (jq xv qK) (cz (BM a) (a1 (cz t8 (a1 (jq xv qK)))))))))
abbrev k0:cZ:=js 34
noncomputable def lx:FS:=(d7 (tN (m2 (b2 da) (mV 0) (mC (D.int 1))) (dS (c4 (mV 1) (c4 (mV 2) c5))) (dS (c4 (mV 1) (c4 (mC (D.str "leave")) (c4 (mC D.non) c5))))))
noncomputable def f0:FN:=gL 3 lx
theorem pv {f:cP}(F:dQ K "_law_deed" k0 f):
  et P w K mg base 1 "_law_deed" 3 f0:=xq ["_law_own_here","_law_mood","_law_sight_here"] X G F λa=>
 (qG (qU (vE a.units (jq xv qK) (dg (a2 xv xv)) (dg (a3 xv dq gp)))))
abbrev j3:cZ:=js 36
noncomputable def kB:FS:=(d7 (dS (c4 (mN (b1 gTup) (c4 (d4 1 [] (ge (m2 (b2 da) (mV 0) (mC (D.int 0)))) (gN 0) eP (dW (dS (c4 (mV 0) (c4 (mC (D.int 0)) (c4 (mC (D.int 0)) c5)))))) c5)) (c4 (m2 (b2 da) (mV 0) (mC (D.int 1))) c5))))
noncomputable def fD:FN:=gL 1 kB
theorem nF {f:cP}(F:dQ K "_law_begun" j3 f):
  et P w K mg base 1 "_law_begun" 1 fD:=xq ["_law_standing_here"] X G F λa=>
 (qG (qU (dg (a2 (cz d5 (a1 (fk ["_law_room"] (qd (jq xv qK)) ⟨gq,d9,(dg (a3 xv qK qK))⟩))) (jq xv qK)))))
abbrev nX:cZ:=js 2
noncomputable def k8:FT:=(rn (mB (m2 (b2 wP) (mV 4) (mN (b1 eL) (c4 (mV 3) c5)))) (mB (m2 (b2 oz) (m2 (b2 da) (m2 (b2 da) (m2 (b2 da) (mV 3) (mV 4)) (mC (D.int 0))) (mC (D.int 0))) (mV 1))))
noncomputable def k7:FS:=(di (gg (mB (m2 (b2 oz) (m2 (b2 da) (m2 (b2 da) (m2 (b2 da) (mV 3) (mV 4)) (mC (D.int 0))) (mC (D.int 1))) (mV 2))) (d7 (m2 (b2 da) (m2 (b2 da) (mV 3) (mV 4)) (mC (D.int 1)))) nz)
  (Bg 4 (b2 zg) (mC (D.int 1))))
noncomputable def oR:FS:=(di (dk (m2 (b2 da) (mV 0) (mC (D.int 1))) (gN 3))
  (di (dk (mN (c7 2 gG) (c4 (mV 3) (c4 (mV 1) c5))) (gN 4))
  (di (qa k8 k7 100000)
  (d7 (dS (c4 (mV 1) (c4 (mC (D.str "leave")) (c4 (mC D.non) c5))))))))
noncomputable def eV:FN:=gL 5 oR
theorem tw {f:cP}(F:dQ K "deed_of" nX f)(a:et P w K mg base 1 "first_of" 2 gG):
  et P w K mg base 2 "deed_of" 3 eV:=xq ["machine","mood","sight","rows","at"] X G F λb=>
 (qF (sq (jq xv qK)) (qF (sq (wn a (a2 xv xv))) (qF (kG 100000 PassesOwn.never (l7 (jT (ct (oq lc) xv (cn ft (a1 xv))) (iJ (ct (oq lF) (jq (jq (jq xv xv) qK) qK) xv)))) (qF (qV (ct (oq lF) (jq (jq (jq xv xv) qK) qK) xv) (qG (qU (jq (jq xv xv) qK))) qQ) (qG (zW 4 (gi O) O (by first|exact Or.inl rfl|exact Or.inr rfl) qK Bp)))) (qG (qU (dg (a3 xv dq gp)))))))
abbrev uC:cZ:=js 7
noncomputable def vp:FS:=(d7 (d4 2 [0,1,2] (wO (c4 (m2 (b2 da) (mV 2) (mC (D.int 0))) c5)) (gT 2 (gCs (gN 0) (gCs (gN 1) gNl))) eP (dW (dS (c4 (m2 (b2 da) (mV 1) (mC (D.int 2))) (c4 (mN (c7 4 gF) (c4 (mV 2) (c4 (mV 3) (c4 (mV 4) (c4 (mV 0) c5))))) c5))))))
noncomputable def ix:FN:=gL 3 vp
theorem yd {f:cP}(F:dQ K "wants" uC f)(a:et P w K mg base 1 "sight_of" 4 gF):
  et P w K mg base 2 "wants" 3 ix:=xq ["web","eyes","whole"] X G F λb=>
 (qG (qU (fk ["k","walker"] (ie (a1 (jq xv qK))) ⟨(tg2 gq gq),d9,(dg (a2 (jq xv qK) (wn a (qA xv (a3 xv xv xv)))))⟩)))
abbrev uD:cZ:=js 9
noncomputable def vq:FS:=(di (dk (mV 1) (gT 2 (gCs (gN 3) (gCs (gN 4) gNl))))
  (di (dk (d4 2 [0] (Ce (c4 (mV 3) (c4 (mV 2) c5))) (gT 2 (gCs (gN 0) (gCs (gN 1) gNl))) eP (dW (mN (c7 3 ib) (c4 (mV 2) (c4 (mV 0) (c4 (mV 1) c5)))))) (gN 5))
  (d7 (dS (c4 (mN (b1 gTup) (c4 (mV 5) c5)) (c4 (mN (c7 2 ic) (c4 (mV 1) (c4 (mV 2) c5))) c5))))))
noncomputable def iy:FN:=gL 6 vq
theorem ye {f:cP}(F:dQ K "moved" uD f)(a:et P w K mg base 1 "handled" 2 ic)(b:et P w K mg base 1 "stepped" 3 ib):
  et P w K mg base 2 "moved" 3 iy:=xq ["web","whole","deeds","walkers","chalk","behind"] X G F λc=>
 (qF (qR xv (tg2 gq gq)) (qF (fI 5 O (T:=["walker","deed"]) (keep:=[0]) ⟨O,by decide+kernel,(kc "web" (cg _))⟩ O (oV O (bz B) (a2 xv xv)) (λ_ _ _=>⟨(tg2 gq gq),d9,(wn b (a3 xv xv xv))⟩) (gi O) O (by first|exact Or.inl rfl|exact Or.inr rfl)) (qG (qU (dg (a2 (cz d5 (a1 xv)) (wn a (a2 xv xv))))))))
abbrev nY:cZ:=js 23
noncomputable def oS:FS:=(d7 (m2 (b2 da) (mV 1) (mN (c7 2 c8) (c4 (mV 0) (c4 (mN (b1 eL) (c4 (mV 1) c5)) c5)))))
noncomputable def fN:FN:=gL 2 oS
theorem tz {f:cP}(F:dQ K "_law_of" nY f)(a:et P w K mg base 1 "_law_draw" 2 c8):
  et P w K mg base 2 "_law_of" 2 fN:=xq ["_law_box_here","_law_some_here"] X G F λb=>
 (qG (qU (jq xv (wn a (a2 xv (cn ft (a1 xv)))))))
abbrev iE:cZ:=js 24
noncomputable def gR:FT:=(mB (m2 (b2 u8) (mV 2) (eW c5)))
noncomputable def gQ:FS:=(eE (ri (b2 jm) (mV 3) (c4 (ri (b2 ze) (mV 2) (c4 (mN (c7 2 c8) (c4 (mV 0) (c4 (mN (b1 eL) (c4 (mV 2) c5)) c5))) c5)) c5)))
noncomputable def iG:FS:=(di (dk (dS (c4 (mN (b1 rH) (c4 (mV 1) c5)) (c4 (eW c5) c5))) (gT 2 (gCs (gN 2) (gCs (gN 3) gNl))))
  (di (qa gR gQ 100000)
  (d7 (mV 3))))
noncomputable def dN:FN:=gL 4 iG
theorem kJ {f:cP}(F:dQ K "_law_shuffled" iE f)(a:et P w K mg base 1 "_law_draw" 2 c8):
  et P w K mg base 2 "_law_shuffled" 2 dN:=xq ["_law_box_here","_law_some_here","_law_left","_law_found"] X G F λb=>
 (qF (jU 2 3 O (gi O) O O (by decide) O O (a2 (cz t8 (a1 xv)) (dY qN))) (qF (kG 100000 PassesOwn.never (ct (oq tE) xv (dY qN)) (qG (lq ap xv (a1 (qe PySem.F.slot_list_pop PySem.F.type_list_pop EZ xv (a1 (wn a (a2 xv (cn ft (a1 xv)))))))))) (qG (qU xv))))
abbrev jw:cZ:=js 31
noncomputable def jD:FS:=(di (dk (m2 (b2 en) (mC (D.int 1)) (mN (c7 2 c8) (c4 (mV 0) (c4 (m2 (b2 gSub) (m2 (b2 zd) (mC (D.int 1)) (mV 1)) (mC (D.int 1))) c5)))) (gN 2))
  (d7 (mN (b1 gTup) (c4 (d4 1 [2] (qc (c4 (mV 1) c5)) (gN 0) (mB (m2 (b2 oz) (m2 (b2 vc) (m2 (b2 zb) (mV 1) (mV 0)) (mC (D.int 1))) (mC (D.int 1)))) (dW (mV 0))) c5))))
noncomputable def d0:FN:=gL 3 jD
theorem mS {f:cP}(F:dQ K "_law_choice" jw f)(a:et P w K mg base 1 "_law_draw" 2 c8):
  et P w K mg base 2 "_law_choice" 2 d0:=xq ["_law_box_here","_law_many","_law_bits"] X G F λb=>
 (qF (sq (qI ee qK (wn a (a2 xv (qI yg (qI FK qK xv) qK))))) (qG (qU (cz d5 (a1 (fk ["_law_k"] (ir (a1 xv)) ⟨gq,(fU (ct (oq lF) (qI Dv (qI FJ xv xv) qK) qK)),xv⟩))))))
abbrev k4:cZ:=js 35
noncomputable def hj:FS:=(di (dk (m2 (b2 da) (m2 (b2 da) (mV 2) (mC (D.int 0))) (mV 7)) (gT 3 (gCs (gN 8) (gCs (gN 9) (gCs (gN 10) gNl)))))
  (di (dk (mN (c7 3 f0) (c4 (mV 1) (c4 (mV 10) (c4 (mN (c7 4 fC) (c4 (mV 0) (c4 (m2 (b2 da) (mV 1) (mC (D.int 0))) (c4 (mV 2) (c4 (mV 7) c5))))) c5)))) (gT 3 (gCs (gN 11) (gCs (gN 12) (gCs (gN 13) gNl)))))
  (di (gg (mB (m2 (b2 oz) (mV 12) (mC (D.str "mark")))) (eE (ri (b2 jm) (mV 5) (c4 (mV 8) c5))) nz)
  (di (gg (mB (m2 (b2 oz) (mV 12) (mC (D.str "wipe")))) (eE (ri (b2 jm) (mV 6) (c4 (mV 8) c5))) nz)
  (di (gg (rn (mB (m2 (b2 lS) (mV 13) (mC D.non))) (mB (m2 (b2 wP) (mV 13) (mN (b1 eL) (c4 (m2 (b2 da) (mV 0) (mV 8)) c5))))) (dk (dS (c4 (m2 (b2 da) (m2 (b2 da) (m2 (b2 da) (mV 0) (mV 8)) (mV 13)) (mC (D.int 0))) (c4 (m2 (b2 en) (mC (D.int 1)) (m2 (b2 da) (m2 (b2 da) (m2 (b2 da) (mV 0) (mV 8)) (mV 13)) (mC (D.int 1)))) c5))) (gT 2 (gCs (gN 8) (gCs (gN 9) gNl)))) nz)
  (dk (dS (c4 (mV 8) (c4 (mV 9) (c4 (mV 11) c5)))) (gS (b3 gW) (mV 4) (mV 7))))))))
noncomputable def ly:FS:=(di (dk (dS (c4 (mN (b1 rH) (c4 (m2 (b2 da) (mV 2) (mC (D.int 0))) c5)) (c4 (eW c5) (c4 (eW c5) c5)))) (gT 3 (gCs (gN 4) (gCs (gN 5) (gCs (gN 6) gNl)))))
  (di (fO (ge (mV 3)) (gN 7) hj)
  (di (dk (d4 1 [5,2,6] (qc (c4 (mN (b1 eL) (c4 (mV 0) c5)) c5)) (gN 0) (F3 (mB (m2 (b2 hK) (mV 0) (mV 1))) (rn (mB (m2 (b2 hK) (mV 0) (m2 (b2 da) (mV 2) (mC (D.int 1))))) (mB (m2 (b2 iB) (mV 0) (mV 3))))) (dW (mV 0))) (gN 14))
  (d7 (dS (c4 (mN (b1 gTup) (c4 (mV 4) c5)) (c4 (mN (b1 gTup) (c4 (mV 14) c5)) c5)))))))
noncomputable def ga:FN:=gL 15 ly
theorem pw {f:cP}(F:dQ K "_law_beat" k4 f)(c:et P w K mg base 1 "_law_deed" 3 f0)(a:et P w K mg base 1 "_law_sight" 4 fC):
  et P w K mg base 2 "_law_beat" 4 ga:=xq ["_law_web_here","_law_own_here","_law_whole","_law_choice_here","_law_walkers","_law_marked","_law_wiped","_law_k","_law_room","_law_came","_law_mood","_law_later","_law_hand","_law_step","_law_chalk"] X G F λb=>
 (qF (qR (dg (a3 (cz t8 (a1 (jq xv qK))) (dY qN) (dY qN))) (gn O (dr gq (dr gq (dr gq fx))))) (qF (fo (qd xv) gq (qF (qR (jq (jq xv qK) xv) (gn O (dr gq (dr gq (dr gq fx))))) (qF (qR (wn c (a3 xv xv (wn a (qA xv (a3 (jq xv qK) xv xv))))) (gn O (dr gq (dr gq (dr gq fx))))) (qF (qV (ct (oq lF) xv dq) (qG (lq ap xv (a1 xv))) qQ) (qF (qV (ct (oq lF) xv dq) (qG (lq ap xv (a1 xv))) qQ) (qF (qV (l7 (jT (ct yk xv gp) (iJ (ct (oq lc) xv (cn ft (a1 (jq xv xv))))))) (qG (jU 8 9 O (gi O) O O (by decide) O O (a2 (jq (jq (jq xv xv) xv) qK) (qI ee qK (jq (jq (jq xv xv) xv) qK))))) qQ) (qG (qR (dg (a3 xv xv xv)) (jV xv xv (ml b.units)))))))))) (qF (fI 14 O (T:=["_law_room"]) (keep:=[5,2,6]) ⟨O,by decide+kernel,(kc "_law_marked" (kc "_law_whole" (kc "_law_wiped" (cg _))))⟩ O (ir (a1 (cn ft (a1 xv)))) (λ_ _ _=>⟨gq,(fU (l7 (wW (ct (oq lf) xv xv (by with_unfolding_all rfl)) (ul (l7 (jT (ct (oq lf) xv (jq xv qK) (by with_unfolding_all rfl)) (iJ (ct (oq q0) xv xv (by with_unfolding_all rfl))))))))),xv⟩) (gi O) O (by first|exact Or.inl rfl|exact Or.inr rfl)) (qG (qU (dg (a2 (cz d5 (a1 xv)) (cz d5 (a1 xv)))))))))
abbrev xJ:cZ:=js 8
noncomputable def zA:FS:=(di (dk (mN (c7 3 ix) (c4 (mV 0) (c4 (m2 (b2 da) (mV 1) (mC (D.int 0))) (c4 (mV 2) c5)))) (gN 3))
  (d7 (mN (c7 3 iy) (c4 (mV 0) (c4 (mV 2) (c4 (d4 2 [1] (ge (mV 3)) (gT 2 (gCs (gN 0) (gCs (gN 1) gNl))) eP (dW (mN (c7 3 eV) (c4 (mV 2) (c4 (mV 0) (c4 (mV 1) c5)))))) c5))))))
noncomputable def mT:FN:=gL 4 zA
theorem AT {f:cP}(F:dQ K "beat" xJ f)(a:et P w K mg base 2 "deed_of" 3 eV)(c:et P w K mg base 2 "moved" 3 iy)(b:et P w K mg base 2 "wants" 3 ix):
  et P w K mg base 3 "beat" 3 mT:=xq ["web","machine","whole","wanted"] X G F λd=>
 (qF (sq (wn b (a3 xv (jq xv qK) xv))) (qG (qU (wn c (a3 xv xv (fk ["mood","sight"] (qd xv) ⟨(tg2 gq gq),d9,(wn a (a3 xv xv xv))⟩))))))
abbrev mq:cZ:=js 14
noncomputable def nv:FS:=(d7 (d4 2 [1] (ge (mN (c7 3 ix) (c4 (mV 0) (c4 (m2 (b2 da) (mV 1) (mC (D.int 0))) (c4 (mV 2) c5))))) (gT 2 (gCs (gN 0) (gCs (gN 1) gNl))) eP (dW (mN (c7 3 eV) (c4 (mV 2) (c4 (mV 0) (c4 (mV 1) c5)))))))
noncomputable def gH:FN:=gL 3 nv
theorem qL {f:cP}(F:dQ K "deeds_of" mq f)(b:et P w K mg base 2 "deed_of" 3 eV)(a:et P w K mg base 2 "wants" 3 ix):
  et P w K mg base 3 "deeds_of" 3 gH:=xq ["web","machine","whole"] X G F λc=>
 (qG (qU (fk ["mood","sight"] (qd (wn a (a3 xv (jq xv qK) xv))) ⟨(tg2 gq gq),d9,(wn b (a3 xv xv xv))⟩)))
abbrev j1:cZ:=js 15
noncomputable def iV:FS:=(eE (ri (b2 jm) (mV 4) (c4 (rj (mB (m2 (b2 hK) (mV 5) (mV 3))) (m2 (b2 da) (mV 2) (mV 5)) (dS (c4 (mV 8) (c4 (mC (D.str "leave")) (c4 (mC D.non) c5))))) c5)))
noncomputable def kx:FS:=(di (dk (eW c5) (gN 4))
  (di (fO (wO (c4 (m2 (b2 da) (mV 1) (mC (D.int 0))) c5)) (gT 2 (gCs (gN 5) (gCs (gT 3 (gCs (gN 6) (gCs (gN 7) (gCs (gN 8) gNl)))) gNl))) iV)
  (d7 (mN (c7 3 iy) (c4 (mV 0) (c4 (mV 1) (c4 (mV 4) c5)))))))
noncomputable def fB:FN:=gL 9 kx
theorem nD {f:cP}(F:dQ K "moved_some" j1 f)(a:et P w K mg base 2 "moved" 3 iy):
  et P w K mg base 3 "moved_some" 4 fB:=xq ["web","whole","all_deeds","choice","done","k","room","came","mood"] X G F λb=>
 (qF (sq (dY qN)) (qF (fo (ie (a1 (jq xv qK))) (tg2 gq (gn O (dr gq (dr gq (dr gq fx))))) (qG (lq ap xv (a1 (jH (ct (oq lf) xv xv (by with_unfolding_all rfl)) (jq xv xv) (dg (a3 xv dq gp))))))) (qG (qU (wn a (a3 xv xv xv))))))
abbrev mr:cZ:=js 26
noncomputable def gt:FS:=(eE (mN (c7 3 fq) (c4 (mV 3) (c4 (mN (c7 2 fN) (c4 (mV 0) (c4 (d4 1 [3] (qc (c4 (mV 4) c5)) (gN 0) (mB (m2 (b2 wP) (mN (b1 eL) (c4 (m2 (b2 da) (mV 1) (mV 0)) c5)) (mC (D.int 4)))) (dW (mV 0))) c5))) (c4 (mV 4) c5)))))
noncomputable def gr:FS:=(di (dk (dS (c4 (mN (c7 2 c8) (c4 (mV 0) (c4 (mV 2) c5))) (c4 (mN (c7 2 c8) (c4 (mV 0) (c4 (mV 2) c5))) c5))) (gT 2 (gCs (gN 6) (gCs (gN 7) gNl))))
  (gg (rn (mB (m2 (b2 wP) (m2 (b2 en) (mN (b1 eL) (c4 (m2 (b2 da) (mV 3) (mV 6)) c5)) (mN (b1 lH) (c4 (m2 (b2 oz) (mV 6) (mV 7)) c5))) (mC (D.int 4)))) (mB (m2 (b2 wP) (mN (b1 eL) (c4 (m2 (b2 da) (mV 3) (mV 7)) c5)) (mC (D.int 4))))) (eE (mN (c7 3 fq) (c4 (mV 3) (c4 (mV 6) (c4 (mV 7) c5))))) nz))
noncomputable def kb:FS:=(dk (dS (c4 (mV 4) (c4 (mV 11) c5))) (gS (b3 gW) (mV 9) (mV 12)))
noncomputable def io:FS:=(fO (wO (c4 (mV 10) c5)) (gT 2 (gCs (gN 11) (gCs (gN 12) gNl))) kb)
noncomputable def nw:FS:=(di (dk (m2 (b2 en) (mC (D.int 1)) (mN (c7 2 c8) (c4 (mV 0) (c4 (mV 1) c5)))) (gN 2))
  (di (dk (d4 1 [] (qc (c4 (mV 2) c5)) (gN 0) eP (dW (eW c5))) (gN 3))
  (di (fO (EM (c4 (mC (D.int 1)) (c4 (mV 2) c5))) (gN 4) gt)
  (di (fO (qc (c4 (mN (c7 2 c8) (c4 (mV 0) (c4 (mC (D.int 4)) c5))) c5)) (gN 5) gr)
  (di (dk (d4 1 [0] (ge (mV 3)) (gN 0) eP (dW (mN (c7 2 dN) (c4 (mV 1) (c4 (mV 0) c5))))) (gN 8))
  (di (dk yH (gN 9))
  (di (fO (wO (c4 (mV 8) c5)) (gT 2 (gCs (gN 4) (gCs (gN 10) gNl))) io)
  (d7 (mN (b1 gTup) (c4 (d4 1 [9] (ge (mV 8)) (gN 0) eP (dW (mN (b1 gTup) (c4 (d4 2 [1] (ge (mV 0)) (gT 2 (gCs (gN 0) (gCs (gN 1) gNl))) eP (dW (m2 (b2 da) (mV 2) (dS (c4 (mV 0) (c4 (m2 (b2 gSub) (mC (D.int 1)) (mV 1)) c5)))))) c5)))) c5))))))))))
noncomputable def gI:FN:=gL 13 nw
theorem qM {f:cP}(F:dQ K "_law_web" mr f)(b:et P w K mg base 1 "_law_draw" 2 c8)(a:et P w K mg base 1 "_law_join" 3 fq)(c:et P w K mg base 2 "_law_of" 2 fN)(d:et P w K mg base 2 "_law_shuffled" 2 dN):
  et P w K mg base 3 "_law_web" 2 gI:=xq ["_law_box_here","_law_most","_law_many","_law_ends","_law_room","_law_turn","_law_one","_law_other","_law_rows","_law_places","_law_row","_law_door","_law_end"] X G F λe=>
 (qF (sq (qI ee qK (wn b (a2 xv xv)))) (qF (sq (fk ["_law_room"] (ir (a1 xv)) ⟨gq,d9,(dY qN)⟩)) (qF (fo (sG O (bz B) (a2 qK xv)) gq (qG (l8 (wn a (a3 xv (wn c (a2 xv (fk ["_law_one"] (ir (a1 xv)) ⟨gq,(fU (ct (oq lc) (cn ft (a1 (jq xv xv))) qK)),xv⟩))) xv))))) (qF (fo (ir (a1 (wn b (a2 xv qK)))) gq (qF (jU 6 7 O (gi O) O O (by decide) O O (a2 (wn b (a2 xv xv)) (wn b (a2 xv xv)))) (qG (qV (l7 (jT (ct (oq lc) (qI ee (cn ft (a1 (jq xv xv))) (cz sm (a1 (ce (oq lF) xv xv)))) qK) (iJ (ct (oq lc) (cn ft (a1 (jq xv xv))) qK)))) (qG (l8 (wn a (a3 xv xv xv)))) qQ)))) (qF (fI 8 O (T:=["_law_row"]) (keep:=[0]) ⟨O,by decide+kernel,(kc "_law_box_here" (cg _))⟩ O (qd xv) (λ_ _ _=>⟨gq,d9,(wn d (a2 xv xv))⟩) (gi O) O (by first|exact Or.inl rfl|exact Or.inr rfl)) (qF (sq w1) (qF (fo (ie (a1 xv)) (tg2 gq gq) (qG (fo (ie (a1 xv)) (tg2 gq gq) (qG (qR (dg (a2 xv xv)) (jV xv xv (ml e.units))))))) (qG (qU (cz d5 (a1 (fk ["_law_row"] (qd xv) ⟨gq,d9,(cz d5 (a1 (fk ["_law_number","_law_side"] (qd xv) ⟨(tg2 gq gq),d9,(jq xv (dg (a2 xv (qI yg qK xv))))⟩)))⟩))))))))))))
abbrev iP:cZ:=js 28
noncomputable def fL:FS:=(di (dk (m2 (b2 da) (eW (c4 (mC (D.str "leave")) (c4 (mC (D.str "leave")) (c4 (mC (D.str "mark")) (c4 (mC (D.str "wipe")) c5))))) (m2 (b2 i5) (mN (c7 2 c8) (c4 (mV 0) (c4 (mC (D.int 4)) c5))) (mN (b1 lH) (c4 (mV 1) c5)))) (gN 8))
  (di (dk (dS (c4 (mN (c7 2 c8) (c4 (mV 0) (c4 (mV 4) c5))) (c4 (mV 8) (c4 (m2 (b2 da) (eW (c4 (mC D.non) (c4 (mC (D.int 0)) (c4 (mC (D.int 1)) (c4 (mC (D.int 0)) (c4 (mC (D.int 2)) (c4 (mC (D.int 1)) (c4 (mC (D.int 3)) (c4 (mC (D.int 0)) c5))))))))) (mN (c7 2 c8) (c4 (mV 0) (c4 (mC (D.int 8)) c5)))) c5)))) (gN 9))
  (gg (mB (m2 (b2 (jN λi j=>decide (j<i))) (mN (c7 2 c8) (c4 (mV 0) (c4 (mC (D.int 12)) c5))) (mC (D.int 0)))) (eE (ri (b2 jm) (mV 5) (c4 (dS (c4 (dS (c4 (mV 6) (c4 (mV 7) c5))) (c4 (mV 9) c5))) c5))) nz)))
noncomputable def fK:FS:=(fO (ge (mN (c7 1 fh) (c4 (mV 3) c5))) (gN 7) fL)
noncomputable def ja:FS:=(di (dk (eW (c4 (dS c5) (c4 (dS (c4 (mC (D.str "came")) c5)) (c4 (dS (c4 (mC (D.str "doors")) c5)) (c4 (dS (c4 (mC (D.str "chalk")) c5)) (c4 (dS (c4 (mC (D.str "others")) c5)) (c4 (dS (c4 (mC (D.str "came")) (c4 (mC (D.str "doors")) c5))) (c4 (dS (c4 (mC (D.str "chalk")) (c4 (mC (D.str "others")) c5))) c5)))))))) (gN 2))
  (di (dk (dS (c4 (mN (c7 2 fN) (c4 (mV 0) (c4 (m2 (b2 en) (mV 2) (eW (c4 (dS (c4 (mC (D.str "doors")) (c4 (mC (D.str "others")) c5))) c5))) c5))) (c4 (m2 (b2 en) (mC (D.int 1)) (mN (c7 2 c8) (c4 (mV 0) (c4 (mC (D.int 3)) c5)))) c5))) (gT 2 (gCs (gN 3) (gCs (gN 4) gNl))))
  (di (dk (eW c5) (gN 5))
  (di (fO (qc (c4 (mV 4) c5)) (gN 6) fK)
  (d7 (dS (c4 (mV 3) (c4 (mN (b1 gTup) (c4 (mV 5) c5)) c5))))))))
noncomputable def eT:FN:=gL 10 ja
theorem lE {f:cP}(F:dQ K "_law_machine" iP f)(a:et P w K mg base 1 "_law_draw" 2 c8)(b:et P w K mg base 2 "_law_of" 2 fN)(c:et P w K mg base 1 "_law_sights" 1 fh):
  et P w K mg base 3 "_law_machine" 2 eT:=xq ["_law_box_here","_law_loud","_law_some_here","_law_eyes","_law_moods","_law_rows","_law_mood","_law_sight_here","_law_hand","_law_deed_here"] X G F λd=>
 (qF (sq (dY (qA (dg qN) (qA (dg (a1 dq)) (qA (dg (a1 dq)) (qA (dg (a1 dq)) (a3 (dg (a1 dq)) (dg (a2 dq dq)) (dg (a2 dq dq))))))))) (qF (jU 3 4 O (gi O) O O (by decide) O O (a2 (wn b (a2 xv (qI ee xv (dY (a1 (dg (a2 dq dq))))))) (qI ee qK (wn a (a2 xv qK))))) (qF (sq (dY qN)) (qF (fo (ir (a1 xv)) gq (qG (fo (qd (wn c (a1 xv))) gq (qF (sq (jq (dY (qA dq (a3 dq dq dq))) (qI jy (wn a (a2 xv qK)) (cz sm (a1 xv))))) (qF (sq (dg (a3 (wn a (a2 xv xv)) xv (jq (dY (qA gp (qA qK (qA qK (qA qK (qA qK (a3 qK qK qK))))))) (wn a (a2 xv qK)))))) (qG (qV (ct Du (wn a (a2 xv qK)) qK) (qG (lq ap xv (a1 (dg (a2 (dg (a2 xv xv)) xv))))) qQ))))))) (qG (qU (dg (a2 xv (cz d5 (a1 xv))))))))))
abbrev kX:cZ:=js 29
noncomputable def lv:FS:=(di (dk (jK (mN (c7 2 dN) (c4 (mV 0) (c4 (tL (c4 (mV 1) c5)) c5))) gh (fV (m2 (b2 en) (mV 2) (mN (c7 2 c8) (c4 (mV 0) (c4 (m2 (b2 en) (m2 (b2 gSub) (mV 1) (mV 2)) (mC (D.int 1))) c5)))))) (gN 3))
  (d7 (mN (b1 gTup) (c4 (mN (b1 ji) (c4 (mV 3) c5)) c5))))
noncomputable def fZ:FN:=gL 4 lv
theorem pp {f:cP}(F:dQ K "_law_some" kX f)(b:et P w K mg base 1 "_law_draw" 2 c8)(a:et P w K mg base 2 "_law_shuffled" 2 dN):
  et P w K mg base 3 "_law_some" 3 fZ:=xq ["_law_box_here","_law_many","_law_least","_law_bits"] X G F λc=>
 (qF (sq (gB (wn a (a2 xv (jG O O (bz B) O (bz B) (a1 xv)))) iL (iK (qI ee xv (wn b (a2 xv (qI ee (qI yg xv xv) qK))))))) (qG (qU (cz d5 (a1 (cn sj (a1 xv)))))))
abbrev kW:cZ:=js 13
noncomputable def lu:FS:=(d7 (mN (c7 4 fB) (c4 (mV 0) (c4 (mV 2) (c4 (mN (c7 3 gH) (c4 (mV 0) (c4 (mV 1) (c4 (mV 2) c5)))) (c4 (mV 3) c5))))))
noncomputable def fY:FN:=gL 4 lu
theorem po {f:cP}(F:dQ K "slow_beat" kW f)(a:et P w K mg base 3 "deeds_of" 3 gH)(b:et P w K mg base 3 "moved_some" 4 fB):
  et P w K mg base 4 "slow_beat" 4 fY:=xq ["web","machine","whole","choice"] X G F λc=>
 (qG (qU (wn b (qA xv (a3 xv (wn a (a3 xv xv xv)) xv)))))
abbrev qs:cZ:=js 19
noncomputable def mO:FS:=(eE (ri (b2 jm) (mV 4) (c4 (mN (c7 3 mT) (c4 (mV 0) (c4 (mV 1) (c4 (m2 (b2 da) (mV 4) (m1 (b1 tT) (mC (D.int 1)))) c5)))) c5)))
noncomputable def sn:FS:=(di (dk (eW (c4 (mN (c7 1 iz) (c4 (mV 2) c5)) c5)) (gN 4))
  (di (fO (qc (c4 (mV 3) c5)) (gN 5) mO)
  (d7 (mN (b1 gTup) (c4 (mV 4) c5)))))
noncomputable def iX:FN:=gL 6 sn
theorem vV {f:cP}(F:dQ K "walked" qs f)(a:et P w K mg base 3 "beat" 3 mT)(b:et P w K mg base 1 "begun" 1 iz):
  et P w K mg base 4 "walked" 4 iX:=xq ["web","machine","standing","beats","wholes","k"] X G F λc=>
 (qF (sq (dY (a1 (wn b (a1 xv))))) (qF (fo (ir (a1 xv)) gq (qG (lq ap xv (a1 (wn a (a3 xv xv (jq xv (sI yj qK)))))))) (qG (qU (cz d5 (a1 xv))))))
abbrev iD:cZ:=js 30
noncomputable def iF:FS:=(di (dk (mN (b1 gTup) (c4 (mN (b1 ji) (c4 (jK (mN (c7 2 dN) (c4 (mV 0) (c4 (tL (c4 (mN (b1 eL) (c4 (mV 1) c5)) c5)) c5))) gh (fV (m2 (b2 en) (mC (D.int 1)) (mN (c7 2 c8) (c4 (mV 0) (c4 (mV 2) c5)))))) c5)) c5)) (gN 3))
  (d7 (dS (c4 (mV 3) (c4 (rj (mB (m2 (b2 oz) (mN (c7 2 c8) (c4 (mV 0) (c4 (mC (D.int 2)) c5))) (mC (D.int 0)))) (mN (c7 3 fZ) (c4 (mV 0) (c4 (mN (b1 eL) (c4 (mV 1) c5)) (c4 (mC (D.int 0)) c5)))) (dS c5)) c5)))))
noncomputable def eK:FN:=gL 4 iF
theorem kI {f:cP}(F:dQ K "_law_standing" iD f)(c:et P w K mg base 1 "_law_draw" 2 c8)(b:et P w K mg base 2 "_law_shuffled" 2 dN)(a:et P w K mg base 3 "_law_some" 3 fZ):
  et P w K mg base 4 "_law_standing" 3 eK:=xq ["_law_box_here","_law_web_here","_law_most","_law_rooms"] X G F λd=>
 (qF (sq (cz d5 (a1 (cn sj (a1 (gB (wn b (a2 xv (jG O O (bz B) O (bz B) (a1 (cn ft (a1 xv)))))) iL (iK (qI ee qK (wn c (a2 xv xv)))))))))) (qG (qU (dg (a2 xv (jH (ct (oq lF) (wn c (a2 xv qK)) qK) (wn a (a3 xv (cn ft (a1 xv)) qK)) (dg qN)))))))
abbrev kU:cZ:=js 17
noncomputable def jx:FS:=(eE (ri (b2 jm) (mV 4) (c4 (mN (c7 4 fY) (c4 (mV 0) (c4 (mV 1) (c4 (m2 (b2 da) (mV 4) (m1 (b1 tT) (mC (D.int 1)))) (c4 (mV 5) c5))))) c5)))
noncomputable def ls:FS:=(di (dk (eW (c4 (mV 2) c5)) (gN 4))
  (di (fO (ge (mV 3)) (gN 5) jx)
  (d7 (mV 4))))
noncomputable def fX:FN:=gL 6 ls
theorem pj {f:cP}(F:dQ K "walked_on" kU f)(a:et P w K mg base 4 "slow_beat" 4 fY):
  et P w K mg base 5 "walked_on" 4 fX:=xq ["web","machine","whole","choices","wholes","choice"] X G F λb=>
 (qF (sq (dY (a1 xv))) (qF (fo (qd xv) gq (qG (lq ap xv (a1 (wn a (qA xv (a3 xv (jq xv (sI yj qK)) xv))))))) (qG (qU xv))))
abbrev ju:cZ:=js 16
noncomputable def jC:FS:=(d7 (mN (b1 gTup) (c4 (mN (c7 4 fX) (c4 (mV 0) (c4 (mV 1) (c4 (mN (c7 1 iz) (c4 (mV 2) c5)) (c4 (mV 3) c5))))) c5)))
noncomputable def dZ:FN:=gL 4 jC
theorem mQ {f:cP}(F:dQ K "slow_walked" ju f)(a:et P w K mg base 1 "begun" 1 iz)(b:et P w K mg base 5 "walked_on" 4 fX):
  et P w K mg base 6 "slow_walked" 4 dZ:=xq ["web","machine","standing","choices"] X G F λc=>
 (qG (qU (cz d5 (a1 (wn b (qA xv (a3 xv (wn a (a1 xv)) xv)))))))
abbrev qt:cZ:=js 37
noncomputable def lR:FS:=(eE (ri (b2 jm) (mV 8) (c4 (mN (c7 4 ga) (c4 (mV 2) (c4 (mV 4) (c4 (m2 (b2 da) (mV 8) (m1 (b1 tT) (mC (D.int 1)))) (c4 (mV 9) c5))))) c5)))
noncomputable def lQ:FS:=(gg (mB (m2 (b2 u8) (mN (b1 gj) (c4 (mN (c7 4 dZ) (c4 (mV 2) (c4 (mV 3) (c4 (mV 5) (c4 (mN (b1 gTup) (c4 (mV 7) c5)) c5))))) c5)) (mN (b1 gj) (c4 (mN (b1 gTup) (c4 (mV 8) c5)) c5)))) (d7 (mC (D.bl J))) nz)
noncomputable def zz:FS:=(di (dk (mN (c7 2 eH) (c4 (mV 0) (c4 (mC (D.int 0)) c5))) (gN 1))
  (di (dk (dS (c4 (mN (c7 2 gI) (c4 (mV 1) (c4 (mC (D.int 8)) c5))) (c4 (mN (c7 2 eT) (c4 (mV 1) (c4 (mC (D.bl M)) c5))) c5))) (gT 2 (gCs (gN 2) (gCs (gN 3) gNl))))
  (di (dk (mN (c7 1 fM) (c4 (mV 3) c5)) (gN 4))
  (di (dk (mN (c7 3 eK) (c4 (mV 1) (c4 (mV 2) (c4 (mC (D.int 4)) c5)))) (gN 5))
  (di (dk (mN (b1 eL) (c4 (m2 (b2 da) (mV 5) (mC (D.int 0))) c5)) (gN 6))
  (di (dk (m2 (b2 en) (eW (c4 (mN (c7 2 d0) (c4 (mV 1) (c4 (mV 6) c5))) c5)) (d4 1 [0,6] (qc (c4 (mN (b1 eL) (c4 (jK (mV 0) gh (fV (mC (D.int 40)))) c5)) c5)) (gN 0) eP (dW (mN (c7 2 (apart d0)) (c4 (mN (c7 2 eH) (c4 (mV 1) (c4 (m2 (b2 en) (mC (D.int 1)) (mV 0)) c5))) (c4 (mV 2) c5)))))) (gN 7))
  (di (dk (eW (c4 (mN (c7 1 fD) (c4 (mV 5) c5)) c5)) (gN 8))
  (di (fO (ge (mV 7)) (gN 9) lR)
  (di (dk (mN (b1 hH) (c4 (eW (c4 (mV 2) (c4 (mV 3) (c4 (mV 5) (c4 (mV 7) c5))))) c5)) (gN 10))
  (di (fO (qc (c4 (mC (D.int 2)) c5)) (gN 11) lQ)
  (di (dk (mN (c7 2 c8) (c4 (mV 1) (c4 (m2 (b2 en) (mN (b1 eL) (c4 (mV 7) c5)) (mC (D.int 1))) c5))) (gN 12))
  (di (gg (mB (m2 (b2 u8) (mN (b1 gj) (c4 (mN (c7 4 dZ) (c4 (mV 2) (c4 (mV 3) (c4 (mV 5) (c4 (mN (b1 gTup) (c4 (jK (mV 7) gh (fV (mV 12))) c5)) c5))))) c5)) (mN (b1 gj) (c4 (mN (b1 gTup) (c4 (jK (mV 8) gh (fV (m2 (b2 en) (mV 12) (mC (D.int 1))))) c5)) c5)))) (d7 (mC (D.bl J))) nz)
  (di (gg (mB (m2 (b2 u8) (mN (b1 gj) (c4 (mN (c7 4 dZ) (c4 (mV 2) (c4 (mV 3) (c4 (mV 5) (c4 (dS c5) c5))))) c5)) (mN (b1 gj) (c4 (dS (c4 (m2 (b2 da) (mV 8) (mC (D.int 0))) c5)) c5)))) (d7 (mC (D.bl J))) nz)
  (di (dk (m2 (b2 rG) (dS (c4 (tK (c4 (mV 6) c5)) c5)) (mV 12)) (gN 13))
  (di (gg (mB (m2 (b2 u8) (mN (b1 gj) (c4 (mN (c7 4 dZ) (c4 (mV 2) (c4 (mV 3) (c4 (mV 5) (c4 (mV 13) c5))))) c5)) (mN (b1 gj) (c4 (mN (c7 4 iX) (c4 (mV 2) (c4 (mV 3) (c4 (mV 5) (c4 (mV 12) c5))))) c5)))) (d7 (mC (D.bl J))) nz)
  (d7 (m2 (b2 oz) (mN (b1 hH) (c4 (eW (c4 (mV 2) (c4 (mV 3) (c4 (mV 5) (c4 (mV 7) c5))))) c5)) (mV 10))))))))))))))))))
noncomputable def m_law:FN:=gL 14 zz
theorem Dr {f:cP}{fd:cY}(F:wT K "law" "law" qt f fd)(o:et P w K mg base 2 "_law_beat" 4 ga)(h:et P w K mg base 1 "_law_begun" 1 fD)(e:et P w K mg base 1 "_law_box" 2 eH)(d:et P w K mg base 2 "_law_choice" 2 d0)(r:et P w K mg base 1 "_law_draw" 2 c8)(m:et P w K mg base 3 "_law_machine" 2 eT)(p:et P w K mg base 1 "_law_own" 1 fM)(g:et P w K mg base 4 "_law_standing" 3 eK)(i:et P w K mg base 3 "_law_web" 2 gI)(c:et P w K mg base 6 "slow_walked" 4 dZ)(j:et P w K mg base 4 "walked" 4 iX):
  jp P w K mg base sy 7 f fd ["_law_script"] (zP K 1 m_law):=Cp (k:=6) (n:=1) (N:=["_law_script","_law_box_here","_law_web_here","_law_machine_here","_law_own_here","_law_standing_here","_law_many","_law_picks","_law_due","_law_choice_here","_law_before","_law_turn","_law_cut","_law_every"]) (ps:=["_law_script"]) (b:=zz) F sk O λq A l s H E a=>
 (qF (sq (wn e (a2 xv qK))) (qF (jU 2 3 O (gi O) O O (by decide) O O (a2 (wn i (a2 xv qK)) (wn m (a2 xv l9)))) (qF (sq (wn p (a1 xv))) (qF (sq (wn g (a3 xv xv qK))) (qF (sq (cn ft (a1 (jq xv qK)))) (qF (sq (qI ee (dY (a1 (wn d (a2 xv xv)))) (fk ["_law_k"] (ir (a1 (cn ft (a1 (gB xv iL (iK qK)))))) ⟨gq,d9,(qH d.ap a (by first|decide|omega) rfl (a2 (wn e (a2 xv (qI ee qK xv))) xv))⟩))) (qF (sq (dY (a1 (wn h (a1 xv))))) (qF (fo (qd xv) gq (qG (lq ap xv (a1 (wn o (qA xv (a3 xv (jq xv (sI yj qK)) xv))))))) (qF (sq (cn (vm a) (a1 (dY (qA xv (a3 xv xv xv)))))) (qF (fo (ir (a1 qK)) gq (qG (qV (ct (oq tE) (cn (i9 a) (a1 (wn c (qA xv (a3 xv xv (cz d5 (a1 xv))))))) (cn (i9 a) (a1 (cz d5 (a1 xv))))) (qG (qU l9)) qQ))) (qF (sq (wn r (a2 xv (qI ee (cn ft (a1 xv)) qK)))) (qF (qV (ct (oq tE) (cn (i9 a) (a1 (wn c (qA xv (a3 xv xv (cz d5 (a1 (gB xv iL (iK xv))))))))) (cn (i9 a) (a1 (cz d5 (a1 (gB xv iL (iK (qI ee xv qK)))))))) (qG (qU l9)) qQ) (qF (qV (ct (oq tE) (cn (i9 a) (a1 (wn c (qA xv (a3 xv xv (dg qN)))))) (cn (i9 a) (a1 (dg (a1 (jq xv qK)))))) (qG (qU l9)) qQ) (qF (sq (qI Dt (dg (a1 (wY rfl rfl (bz B) rfl (bz B) (a1 xv)))) xv)) (qF (qV (ct (oq tE) (cn (i9 a) (a1 (wn c (qA xv (a3 xv xv xv))))) (cn (i9 a) (a1 (wn j (qA xv (a3 xv xv xv)))))) (qG (qU l9)) qQ) (qG (qU (ce (oq lF) (cn (vm a) (a1 (dY (qA xv (a3 xv xv xv))))) xv))))))))))))))))))
end
theorem all_mk {l:PySem.W.OpenLaw}{w:cS}{K:Fg1}{h:cX}{mg:Str->Option cN}{fa f1 f2 f3 f4 f5 f6 f7 f8 f9 f10 aq p N f14 F L f17 R f19 D E f22 Q f24 ao V q o f29 f30 f31 f32:cP}(X:K.In h)(G:h.Ns cT mg)(hfa:mg "law"=some (.ref fa))
  {g1 g2 g5 g8 c:cP}
  {t3 t4 t6 t7 t9 x A t13:Tok}
  {od2 od5 od8 g od1:Option cP} {n2 n5 n8 n11 n1:Nat} {sl2 sl5 sl8 i sl1:Array (Option cN)}
  (a1:dQ K "first_of" mn f1)
  (a2:dQ K "begun" uE f2)
  (a3:dQ K "sight_of" mj f3)
  (a4:dQ K "handled" nW f4)
  (a5:dQ K "stepped" nV f5)
  (a6:dQ K "_law_box" mx f6)
  (a7:dQ K "_law_draw" kZ f7)
  (a8:dQ K "_law_join" kY f8)
  (a9:dQ K "_law_sights" jv f9)
  (y:dQ K "_law_sight" j2 f10)
  (wq:dQ K "_law_own" mw aq)
  (a12:dQ K "_law_deed" k0 p)
  (a13:dQ K "_law_begun" j3 N)
  (a14:dQ K "deed_of" nX f14)
  (t:dQ K "wants" uC F)
  (k:dQ K "moved" uD L)
  (a17:dQ K "_law_of" nY f17)
  (a18:dQ K "_law_shuffled" iE R)
  (a19:dQ K "_law_choice" jw f19)
  (a20:dQ K "_law_beat" k4 D)
  (a21:dQ K "beat" xJ E)
  (a22:dQ K "deeds_of" mq f22)
  (n:dQ K "moved_some" j1 Q)
  (a24:dQ K "_law_web" mr f24)
  (a25:dQ K "_law_machine" iP ao)
  (a26:dQ K "_law_some" kX V)
  (U:dQ K "slow_beat" kW q)
  (r:dQ K "walked" qs o)
  (au:dQ K "_law_standing" iD f29)
  (a30:dQ K "walked_on" kU f30)
  (a31:dQ K "slow_walked" ju f31)
  (f:dQ K "law" qt f32)
  (e_PARTS:wN1 K cT "PARTS"=Z (Z (Value.ref g1)))
  (h1:K.lookup g1=Z ⟨.type "tuple",od1,.seq ([(Value.ref g2),(Value.ref g5),(Value.ref g8),(Value.ref c)]:List cN).toArray n1,sl1⟩)
  (h2:K.lookup g2=Z ⟨.type "tuple",od2,.seq ([(Value.str "came" t3),(Value.int (5) t4)]:List cN).toArray n2,sl2⟩)
  (h5:K.lookup g5=Z ⟨.type "tuple",od5,.seq ([(Value.str "chalk" t6),(Value.int (2) t7)]:List cN).toArray n5,sl5⟩)
  (h8:K.lookup g8=Z ⟨.type "tuple",od8,.seq ([(Value.str "doors" t9),(Value.int (5) x)]:List cN).toArray n8,sl8⟩)
  (h11:K.lookup c=Z ⟨.type "tuple",g,.seq ([(Value.str "others" A),(Value.int (2) t13)]:List cN).toArray n11,i⟩)
  (z:GD K BL):∃fd:cY,(∀(s:cO) (v:cN),BindsTo s fd ⟨[v],[]⟩ [("_law_script",v)]) /\ ∀base:cX,K.In base->base.Ns cT mg->jp l.prog w K mg base sy 7 fa fd ["_law_script"] (zP K 1 m_law):=by
 have e:=hfa.symm.trans (wM1 X G f.ns);cases e;have B:Blt BL mg:=z.blt X G;have c0:CGl K mg "PARTS" lX:=Ej (wM1 X G e_PARTS) (nl h1 (by show 4<=cV;decide) (eN (nl h2 (by show 2<=cV;decide) (eN pO (eN pP ku))) (eN (nl h5 (by show 2<=cV;decide) (eN pO (eN pP ku))) (eN (nl h8 (by show 2<=cV;decide) (eN pO (eN pP ku))) (eN (nl h11 (by show 2<=cV;decide) (eN pO (eN pP ku))) ku)))));obtain⟨_,⟨⟨_,_,kV,dc,pm,an,cd,ct,_,rfl,lL,cL⟩,kL⟩⟩:=f.fn;refine⟨wF1 "law" "law" (gY qt) (eI qt) (dz qt) .none kV dc pm an cd ct,λs v=>.of_eq O,λbase _ _=>?_⟩;have o0:=qC (P:=l.prog) (w:=w) (base:=base) X G B a1;have d:=yf (P:=l.prog) (w:=w) (base:=base) X G B a2;have o1:=qB (P:=l.prog) (w:=w) (base:=base) X G B a3 c0;have o2:=tu (P:=l.prog) (w:=w) (base:=base) X G B a4;have o3:=tt (P:=l.prog) (w:=w) (base:=base) X G B a5;have am:=qT (P:=l.prog) (w:=w) (base:=base) X G B a6;have a:=pu (P:=l.prog) (w:=w) (base:=base) X G B a7;have o10:=pq (P:=l.prog) (w:=w) (base:=base) X G B a8;have I:=mR (P:=l.prog) (w:=w) (base:=base) X G B a9;have o6:=nE (P:=l.prog) (w:=w) (base:=base) X G B y;have W:=qS (P:=l.prog) (w:=w) (base:=base) X G B wq;have o5:=pv (P:=l.prog) (w:=w) (base:=base) X G B a12;have o22:=nF (P:=l.prog) (w:=w) (base:=base) X G B a13;have o7:=tw X G B a14 o0;have o9:=yd X G B t o1;have o8:=ye X G B k o2 o3;have j:=tz X G B a17 a;have b:=kJ X G B a18 a;have m:=mS X G B a19 a;have o21:=pw X G B a20 o5 o6;have o16:=AT X G B a21 o7 o8 o9;have S:=qL X G B a22 o7 o9;have u:=nD X G B n o8;have H:=qM X G B a24 a o10 j b;have o25:=lE X G B a25 a j I;have o18:=pp X G B a26 a b;have o19:=po X G B U S u;have o30:=vV X G B r o16 d;have T:=kI X G B au a b o18;have o20:=pj X G B a30 o19;have C:=mQ X G B a31 d o20;exact Dr (P:=l.prog) (w:=w) (base:=base) X G B (zh lL cL kL) o21 o22 am m a o25 W T H C o30
noncomputable def hnd(g m c:Int):Ob:=.lst [.int g,.int m,.int c]
noncomputable def DJ(m c:Int):Int:=(m*40009+7368787*c+12345)%2305843009213693951
noncomputable def tH(m c:Int):Int:=(DJ m c*(DJ m c%65537+101*c)+9973)%2305843009213693921
theorem Gx{a b c:D}:sB [a,b,c] 0=Z a:=by rfl
theorem HK{a b c:D}:sB [a,b,c] 1=Z b:=by rfl
theorem HJ{a b c:D}:sB [a,b,c] 2=Z c:=by rfl
theorem Ed{T:c6}{g m c k:Int}(hg:0<g)(hk:0<k)(d:k<2^62):
  c8 [.ref 0,.int k] (hnd g m c::T)=Z (.int (g%k),hnd (g/k) m c::T):=by
 have a:k<2^64:=by lia
 have b:k<18446744073709551616:=a;simp[c8,gL,gD,jb,di,gg,mB,m2,b2,jN,mV,mC,da,kO,zf,dn,hnd,hg,hk,b,dk,gN,km,m7,gS,b3,gW,kl,i4,d7,Gx,tP]
theorem Ec{T:c6}{g m c k:Int}(hg:¬ 0<g)(hk:0<k)(hc:0<=c)(e:c<2^60):
  c8 [.ref 0,.int k] (hnd g m c::T)=Z (.int ((tH m (c+1)/4099+tH m (c+1)/2147483659)%k),hnd g (tH m (c+1)) (c+1)::T):=by
 have f:d8 m 40009=M:=rf (by decide) (by decide);have d:d8 7368787 (c+1)=M:=oh (by decide) (by decide);have a:d8 101 (c+1)=M:=oh (by decide) (by decide);have q:=Int.emod_lt_of_pos (m*40009+7368787*(c+1)+12345) (show(0:Int)<2305843009213693951 by decide);have h:=Int.emod_nonneg (m*40009+7368787*(c+1)+12345) (show(2305843009213693951:Int)≠0 by decide);have b:d8 ((m*40009+7368787*(c+1)+12345)%2305843009213693951) ((m*40009+7368787*(c+1)+12345)%2305843009213693951%65537+101*(c+1))=M:=oh (by omega) (by omega);simp[c8,gL,gD,jb,di,gg,mB,m2,b2,jN,mV,mC,da,kO,zf,dn,hnd,hg,hk,dk,gN,km,m7,gS,b3,gW,kl,i4,d7,Gx,HK,HJ,tP,nz,en,i5,f,d,a,b,DJ,tH]
def Hnd(o:Ob)(n:Nat):Prop:=∃g m c:Int,o=hnd g m c/\0<=c/\c<=n
theorem Hnd.und{o:Ob}{n k:Nat}(h:Hnd o n):o.und k=M:=by
 obtain⟨g,m,c,rfl,_⟩:=h;rfl
theorem Hnd.more{o:Ob}{n k:Nat}(h:Hnd o n)(hk:n<=k):Hnd o k:=by
 obtain⟨g,m,c,e,a,h1⟩:=h;exact⟨g,m,c,e,a,by lia⟩
theorem BP(ns:List Int)(k:Int)(h0:0<=k)(hk:k<64):∃g m,eH [.rol (ns.map D.int),.int k] []=Z (.ref 0,[hnd g m 0]):=by
 have j:d8 (10^45) (10^45)=M:=by decide+kernel
 have f:d8 9973 k=M:=oh (by decide) (by decide);have e:d8 (9973*k) k=M:=rf (by omega) (by omega);have c:d8 17 k=M:=oh (by decide) (by decide);have i:d8 0 0=M:=oh (by decide) (by decide);have d:∀(x:Int) (b:Prop) [Decidable b],d8 x (if b then 1 else 0)=M:=λx b _=>by
  split
  ·exact rf (by decide) (by decide)
  ·exact rf (by decide) (by decide)
 have lt:wP (.int k) (.int ns.length) []=Z (.bl (decide (k<ns.length)),[]):=by rfl
 by_cases h:k<ns.length
 ·have a:sB (ns.map D.int) k=some (.int (ns[k.toNat]'(by lia))):=by
   unfold sB tP;rw[ak h0,ak (by simpa using h)];simp[show k.toNat<ns.length by lia]
  generalize l:ns[k.toNat]'(by lia)=x at a
  simp[eH,gL,gD,jP,di,gg,mB,m2,b2,b1,mN,c4,c5,jN,mV,mC,da,kO,zf,eL,dn,dk,gN,km,i5,en,tS,lH,d7,eW,lt,h,a,f,e,c,d,cV,hnd,nz];simp[show d8 1000000000000000000000000000000000000000000000 1000000000000000000000000000000000000000000000=M from j,f,e,c,d]
 ·simp[eH,gL,gD,jP,di,gg,mB,m2,b2,b1,mN,c4,c5,jN,mV,mC,da,kO,zf,eL,dn,dk,gN,km,i5,en,tS,lH,d7,eW,lt,h,f,e,c,d,cV,hnd,nz];simp[show d8 1000000000000000000000000000000000000000000000 1000000000000000000000000000000000000000000000=M from j,i,f,e,c,d]
def jS(U:c6):Prop:=U.all (Ob.und U.length)=M
structure HS (n:Nat)(B U:c6):Prop where
 len:B.length<=U.length
 pos:0<B.length
 same:∀i,i<B.length->0<i->U[i]?=B[i]?
 hand:∃o,U[0]?=some o/\Hnd o n
 shut:jS U
theorem HS.more{n n':Nat}{B U:c6}(s:HS n B U)(hn:n<=n'):HS n' B U:=by
 obtain⟨o,e,h⟩:=s.hand;exact⟨s.len,s.pos,s.same,⟨o,e,h.more hn⟩,s.shut⟩
theorem HS.self{n:Nat}{U:c6}{o:Ob}(e:U[0]?=Z o)(h:Hnd o n)(a:jS U):HS n U U:=
 ⟨nR1 _,(gE1.mp e).1,λ_ _ _=>rfl,⟨o,e,h⟩,a⟩
theorem HS.here{n:Nat}{B U:c6}(s:HS n B U):HS n U U:=by
 obtain⟨o,e,h⟩:=s.hand;exact .self e h s.shut
theorem HS.trans{n n':Nat}{B U V:c6}(a:HS n B U)(b:HS n' U V):HS n' B V:=
 ⟨aC a.len b.len,a.pos,λi hi h1=>(b.same i (nL1 hi a.len) h1).trans (a.same i hi h1),b.hand,b.shut⟩
theorem HS.at{n:Nat}{B U:c6}(s:HS n B U){i:Nat}{o:Ob}(e:B[i]?=Z o)(h1:0<i):U[i]?=Z o:=by
 rw[s.same i (gE1.mp e).1 h1];exact e
theorem xF{U:c6}{G:c6}(s:jS U)(hg:∀o∈G,o.und (U++G).length=M):jS (U++G):=by
 unfold jS at *
 rw[List.all_append,bA1];rw[bB]at s;refine⟨bB.mpr λo a=>ff (by rw[lA1];lia) (s o a),bB.mpr hg⟩
theorem mi{U:c6}{i:Nat}{o:Ob}(s:jS U)(ho:o.und U.length=M):jS (U.set i o):=by
 unfold jS at *
 rw[aT,bB]at *
 intro x a;rcases List.mem_or_eq_of_mem_set a with z|z
 ·exact s x z
 ·rw[z];exact ho
theorem HS.app{n:Nat}{B U G:c6}(s:HS n B U)(hg:∀o∈G,o.und (U++G).length=M):HS n B (U++G):=by
 obtain⟨o,e,h⟩:=s.hand;have a:=s.len;refine⟨by rw[lA1];lia,s.pos,λi hi h1=>?_,⟨o,?_,h⟩,xF s.shut hg⟩
 ·rw[gL1 (by lia)];exact s.same i hi h1
 ·rw[gL1 (gE1.mp e).1];exact e
theorem HS.app1{n:Nat}{B U:c6}{o:Ob}(s:HS n B U)(hg:o.und 0=M):HS n B (U++[o]):=
 s.app λx a=>by rw[cm.mp a];exact ff (bm _) hg
theorem HS.set{n i:Nat}{B U:c6}{o:Ob}(s:HS n B U)(hi:B.length<=i)(ho:o.und U.length=M):HS n B (U.set i o):=by
 obtain⟨o',e,h⟩:=s.hand;have h1:=s.pos;refine⟨by rw[aT];exact s.len,s.pos,λj b a=>?_,⟨o',?_,h⟩,mi s.shut ho⟩
 ·rw[gS1 (by lia)];exact s.same j b a
 ·rw[gS1 (by lia)];exact e
theorem draw_W{n:Nat}{B U:c6}{k:Int}{Q:D×c6->Prop}(s:HS n B U)(hn:n<=2^50)(hk:0<k)(b:k<2^62)(q:∀(d:Nat) U',HS (n+1) B U'->HS (n+1) U U'->U'.length=U.length->(d:Int)<k->Q (.int d,U')):W (c7 2 c8 [.ref 0,.int k] U) Q:=by
 obtain⟨o,e,g,m,c,rfl,h,h1⟩:=s.hand;obtain⟨T,rfl⟩:∃T,U=hnd g m c::T:=by
  cases U with
  |nil=>cases e
  |cons a T=>cases e;exact⟨T,O⟩
 have call:∀d o',c8 [.ref 0,.int k] (hnd g m c::T)=Z (d,o'::T)->c7 2 c8 [.ref 0,.int k] (hnd g m c::T)=Z (d,o'::T):=λd o e=>wE e O (by simp[D.unds,D.und]) (by simp);have l:∀o':Ob,Hnd o' (n+1)->HS (n+1) (hnd g m c::T) (o'::T):=λo' p=>by
  refine⟨nR1 _,by simp,λi hi r=>?_,⟨o',O,p⟩,?_⟩
  ·cases i with
   |zero=>lia
   |succ i=>rfl
  ·have:=s.shut;unfold jS at *
   rw[bM,bA1]at *
   exact⟨p.und,this.2⟩
 by_cases j:0<g
 ·have f:=Int.emod_nonneg g (show k≠0 by lia);obtain⟨d,e⟩:=Int.eq_ofNat_of_zero_le f;refine⟨_,call _ _ (Ed j hk b),?_⟩;rw[e];have u:=l (hnd (g/k) m c) ⟨_,_,_,O,h,by lia⟩;exact q d _ (s.trans u) u O (by rw[<- e];exact Int.emod_lt_of_pos _ hk)
 ·have f:=Int.emod_nonneg (tH m (c+1)/4099+tH m (c+1)/2147483659) (show k≠0 by lia);obtain⟨d,e⟩:=Int.eq_ofNat_of_zero_le f;refine⟨_,call _ _ (Ec j hk h (by lia)),?_⟩;rw[e];have u:=l (hnd g (tH m (c+1)) (c+1)) ⟨_,_,_,O,by lia,by push_cast;lia⟩;exact q d _ (s.trans u) u O (by rw[<- e];exact Int.emod_lt_of_pos _ hk)
theorem oJ{n c c':Nat}{f:FN}{ds:List D}{B U:c6}{Q:D×c6->Prop}(hn:ds.length=n)(l:D.unds 0 ds=J)(s:HS c B U)(q:W (f ds U) λp=>HS c' U p.2/\p.1.und 0=M /\ ∀g,HS c' B g->HS c' U g->g.length=U.length->Q (p.1,g)):W (c7 n f ds U) Q:=by
 refine ln hn l (q.mono ?_);rintro⟨d,V⟩ ⟨v,h,q⟩;dsimp only at v h q;have m:=v.len;have r:=v.pos;have tl:(V.take U.length).length=U.length:=by rw[aP];lia
 obtain⟨o,e,j⟩:=v.hand;have get:∀i,i<U.length->(V.take U.length)[i]?=V[i]?:=λi hi=>by rw[aR hi]
 have sh:(V.take U.length).all (Ob.und U.length)=M:=by
  rw[bB];intro x k;obtain⟨i,hi⟩:=br k;have b:i<U.length:=by rw[<- tl];exact(gE1.mp hi).1
  rw[get i b]at hi;by_cases a:i=0
  ·subst a;rw[e]at hi;cases hi;exact j.und
  ·rw[v.same i b (by lia)]at hi;have:=s.shut;unfold jS at this;rw[bB]at this;exact this x (gM1 hi)
 have u:HS c' U (V.take U.length):=by
  refine⟨by rw[tl];lia,v.pos,λi hi a=>by rw[get i hi];exact v.same i hi a,⟨o,by rw[get 0 (by lia)];exact e,j⟩,?_⟩;unfold jS;rw[tl];exact sh
 have e:gc U.length (d,V)=(d,V.take U.length):=by
  unfold gc;dsimp only;rw[ak (by rw[d6 h,sh];rfl)]
 rw[e];exact q _ (s.trans u) u tl
theorem FH{c r:Nat}{B U:c6}{xs:List D}{Q:D×c6->Prop}(s:HS c B U)(hc:c<=2^45)(hr:U[r]? = Z (.lst xs))(g:0<r)(l:xs.length<=100000)(k:0<xs.length)(hx:∀ x∈xs,x.und 0=M)(q:∀x f,x∈xs->HS (c+1) B f->HS (c+1) U f->f.length=U.length->Q (x,f)):W (c7 2 fN [.ref 0,.ref r] U) Q:=by
 refine oJ (c':=c+1) O O s ?_;unfold fN;refine kn ?_;unfold oS;walk_at"w";refine dM hr ?_;dsimp only;refine draw_W s.here (by lia) (by lia) (by lia) λj f h1 h2 m n=>?_;have d:j<xs.length:=by lia
 refine oT (i:=j) (h2.at hr g) (gG1 d) ?_;exact⟨h2,hx _ (bP d),λh a b e=>q _ h (bP d) a b e⟩
theorem nh:∀{xs:List D} {i:Nat} (h:i<xs.length),(xs[i]::xs.eraseIdx i).Perm xs
 |x::xs,0,h=>List.Perm.refl _
 |x::xs,i+1,h=>by
  have:=nh (xs:=xs) (i:=i) (by simpa using h);rw[List.eraseIdx_cons_succ,List.getElem_cons_succ];exact(List.Perm.swap _ _ _).trans (this.cons x)
theorem w5{c:FT}{b:FS}{Q:Fl×Ev×c6->Prop}(I:Nat->Ev->c6->Prop)(step:∀k r S,I k r S->W (c r S) fun p=>if p.1=true then 0<k/\W (b r p.2) fun q=>q.1 = .nx/\I (k-1) q.2.1 q.2.2 else Q (.nx,r,p.2)):
  ∀(a k:Nat) (r:Ev) (S:c6),k<a->I k r S->W (qa c b a r S) Q
 |0,k,r,S,hf,_=>by lia
 |a+1,k,r,S,hf,hi=>by
  rw[qa];dsimp only;rw[db];obtain⟨⟨t,n⟩,e,h⟩:=step k r S hi;refine⟨_,e,?_⟩;dsimp only at h ⊢;cases t with
  |true=>
   rw[ak O]at h ⊢;obtain⟨m,⟨f,i,j⟩,l,d,g⟩:=h;dsimp only at d g;subst d;rw[l,oS1];exact w5 I step a (k-1) i j (by lia) g
  |false=>
   rw[aj (by decide)]at h ⊢;exact dJ.mpr h
inductive SH (c n:Nat)(xs:List D)(U:c6)(r0:Nat)(k:Nat)(r:Ev)(S:c6):Prop where
 |mk (left found:List D) (h1:HS (c+(n-k)) U S) (h2:S[U.length]?=some (.lst left)) (h3:S[U.length+1]?=some (.lst found)) (h4:(found++left).Perm xs) (h5:left.length=k)
  (h6:r=[some (.ref 0),some (.ref r0),some (.ref U.length),some (.ref (U.length+1))]):SH c n xs U r0 k r S
theorem gC{n:Nat}:∀{xs:List D},D.unds n xs=M ↔ ∀x∈xs,x.und n=M
 |[]=>by simp[D.unds]
 |x::xs=>by rw[D.unds,bA1,gC (xs:=xs)];simp
theorem sT{c r:Nat}{B U:c6}{xs:List D}{Q:D×c6->Prop}(s:HS c B U)(hc:c<=2^45)(hr:U[r]? = Z (.lst xs))(T:xs.length<=100)(hx:D.unds 0 xs=M)(q:∀k ys e,HS (c+xs.length) B e->HS (c+xs.length) U e->U.length<=k->e[k]?=Z (.lst ys)->ys.Perm xs->Q (.ref k,e)):W (c7 2 dN [.ref 0,.ref r] U) Q:=by
 refine ln O O ?_;unfold dN;refine kn ?_;unfold iG;have I:=s.here;refine dL (λl S=>S=U++[.lst xs,.lst []]/\l=[Z (.ref 0),Z (.ref r),Z (.ref U.length),Z (.ref (U.length+1))]) ?_ ?_
 ·((try walk_at"w");repeat(simp only[rH,fQ hr];try walk_at"w"))
 rintro l S ⟨rfl,rfl⟩;have nd:∀{ys zs:List D},(ys++zs).Perm xs->D.unds 0 ys=M/\D.unds 0 zs=M:=λ{ys zs} p=>by
  have h:=gC.mp hx;exact⟨gC.mpr λx h1=>h x (p.mem_iff.mp (aG _ h1)),gC.mpr λx h1=>h x (p.mem_iff.mp (mA1 _ h1))⟩
 refine dL (λl S=>SH c xs.length xs U r 0 l S) ?_ ?_
 ·refine w5 (SH c xs.length xs U r) ?_ 100000 xs.length _ _ (by lia) ⟨xs,[],?_,by rw[dV];rfl,by rw[gv];rfl,.refl _,O,O⟩
  ·rintro k l S ⟨a,b,h1,h2,t,g,n,rfl⟩;obtain ⟨L,au⟩:=nd g;have ao:a.length<=xs.length/\b.length+a.length=xs.length:=by
    have:=g.length_eq;rw[lA1]at this;lia
   have am:=h1.len;have A:=(gE1.mp t).1;have d:∀o,(S++[o])[U.length]?=Z (.lst a):=λo=>by rw[gL1 (by lia)];exact h2
   have f:∀o,(S++[o])[U.length+1]?=Z (.lst b):=λo=>by rw[gL1 A];exact t
   unfold gR;walk_at"w";rw[u7 (d _) (by rw[cC])];walk_at"w";have H:(!a.isEmpty)=decide (0<k):=by
    rw[<- n];cases a<;>simp
   rw[H];by_cases v:0<k
   ·rw[ak (by rw[al];exact v)];refine⟨v,?_⟩;unfold gQ eE;rw[db];refine jE ?_;walk_at"w";refine⟨_,_,O,f _,?_⟩;refine jE ?_;walk_at"w";refine⟨_,_,O,d _,?_⟩
    try walk_at"w"
    refine dM (d _) ?_;dsimp only;refine draw_W (h1.app1 (o:=.lst []) O) (by lia) (by lia) (by lia) λj e a1 a2 a3 R=>?_;have i:j<a.length:=by lia
    try walk_at"w"
    have G:=s.pos;have u:0<U.length:=by have:=s.len;lia
    refine Ex (a2.at (d _) u) (gG1 i) (by lia) ?_;have b3:(e.set U.length (.lst (a.eraseIdx j)))[U.length+1]?=Z (.lst b):=by
     rw[gS1 (by lia)];exact a2.at (f _) (by lia)
    have E:U.length+1<e.length:=by rw[a3,lA1];lia
    have P:=nh i;have m:(b++[a[j]]++a.eraseIdx j).Perm xs:=by
     rw[aY];exact(List.Perm.append_left b P).trans g
    obtain⟨F,y⟩:=nd m;refine(jF b3).mpr ⟨dj (by lia),?_⟩;refine SH.mk (a.eraseIdx j) (b++[a[j]]) ?_ ?_ ?_ m (by rw[b8 i];lia) O
    ·refine((HS.more (n':=c+(xs.length-(k-1))) a1 (by lia)).set (nR1 _) (by rw[Ob.und];exact eA y)).set (by lia) (by rw[Ob.und];exact eA F)
    ·rw[gS1 (by lia),aH (by lia)]
    ·rw[aH (by rw[aT];exact E)]
   ·rw[aj (by rw[al];exact v)];have w:k=0:=by lia
    subst w;exact⟨a,b,h1.app1 O,d _,f _,g,n,O⟩
  ·rw[Nat.sub_self,Nat.add_zero];refine I.app λo N=>?_;rcases aE.mp N with z|z
   ·rw[z,Ob.und];exact eA hx
   ·rw[cm.mp z];rfl
 rintro l S ⟨a,b,h1,h2,t,g,n,rfl⟩;walk_at"w";have C:a=[]:=List.eq_nil_of_length_eq_zero n;subst C;rw[aL]at g;have K:gc U.length (.ref (U.length+1),S)=(.ref (U.length+1),S):=by
  unfold gc;rw[aj];simp[D.und];intro z;lia
 rw[K];exact q _ b S ((s.trans h1).more (by lia)) (h1.more (by lia)) (by lia) t g
abbrev c9:=List (List (Nat×Nat))
structure EW (b m:Nat)(E:c9)(U:c6):Prop where
 el:E.length=m
 row:∀(i:Nat) (row:List (Nat×Nat)),E[i]?=some row->U[b+i]?=some (eB row)
 ends:U[b+m]?=some (.lst (gZ b m))
theorem EW.over{n b m:Nat}{E:c9}{U V:c6}(e:EW b m E U)(s:HS n U V)(d:0<b):EW b m E V:=
 ⟨e.el,λi a c=>s.at (e.row i a c) (by lia),s.at e.ends (by lia)⟩
theorem EW.setRow{b m i:Nat}{E:c9}{U:c6}{row:List (Nat×Nat)}(w:EW b m E U)(hi:i<m):EW b m (E.set i row) (U.set (b+i) (eB row)):=by
 have c:b+m<U.length:=(gE1.mp w.ends).1;refine⟨by rw[aT];exact w.el,λj a h=>?_,by rw[gS1 (by lia)];exact w.ends⟩;by_cases e:i=j
 ·subst e;rw[aH (by rw[w.el];exact hi)]at h;cases h;rw[aH (by lia)]
 ·rw[gS1 e]at h;rw[gS1 (by lia)];exact w.row j a h
theorem pX{b m i:Nat}{E:c9}{U:c6}{Q:D×c6->Prop}(w:EW b m E U)(hi:i<m)(q:Q (.ref (b+i),U)):W (da (.ref (b+m)) (.int i) U) Q:=
 oT (xs:=gZ b m) (x:=.ref (b+i)) w.ends (j6 hi) q
theorem ox:∀E:c9,ki (E.map λa=>D.int (a.length:Nat))=Z (E.map λa=>((a.length:Nat):Int))
 |[]=>rfl
 |r::E=>by rw[mP1,mP1,ki,ox E];rfl
theorem qm:∀E:c9,(E.map λa=>((a.length:Nat):Int)).sum=((Mi.tot E:Nat):Int)
 |[]=>rfl
 |r::E=>by
  have:=qm E;unfold Mi.tot at *
  rw[mP1,mP1,List.sum_cons,List.sum_cons,this]
  push_cast;rfl
theorem Et{E:c9}{S:c6}{n:Nat}{Q:D×c6->Prop}(h:S[n]?=Z (.lst (E.map λa=>D.int (a.length:Nat))))(q:Q (.int (Mi.tot E:Nat),S)):W (rF (.ref n) S) Q:=by
 refine W.of ?_ q;unfold rF;rw[fQ h];dsimp only;rw[ox,oS1,qm]
theorem zJ{g:G1}{m:FE}{r:Ev}{S:c6}{Q:D×c6->Prop}(h:W (m r S) λp=>W (g p.1 p.2) Q):W (mN (b1 g) (c4 m c5) r S) Q:=by
 unfold mN c4 c5;rw[db,db];refine h.mono ?_;rintro⟨d,a⟩ q;walk_at"w";exact q
theorem vB{b m i:Nat}{E:c9}{U G:c6}{Q:D×c6->Prop}(w:EW b m E U)(hi:i<m)(q:Q (.ref (b+i),U++G)):W (da (.ref (b+m)) (.int i) (U++G)) Q:=
 oT (xs:=gZ b m) (x:=.ref (b+i)) (by rw[gL1 (gE1.mp w.ends).1];exact w.ends) (j6 hi) q
theorem yQ{b m a c e:Nat}{E:c9}{U:c6}{Q:D×c6->Prop}(am:jS U)(w:EW b m E U)(ht:Mi.tot E=2*e)(ha:a<m)(hc:c<m)(hm:m<=8){f:List (Nat×Nat)}(p:E[a]? = some f)(au:f.length<=8)(H:∀ rb,E[c]? = some rb->rb.length<=8)(q:∀rb,(E.set a (f++[(e,0)]))[c]?=some rb->Q (.non,(U.set (b+a) (eB (f++[(e,0)]))).set (b+c) (eB (rb++[(e,1)])))):
  W (c7 3 fq [.ref (b+m),.int a,.int c] U) Q:=by
 have ao:b+m<U.length:=(gE1.mp w.ends).1;refine ln O O ?_;unfold fq;refine kn ?_;unfold lw;have C:∀S,rJ (.int ((Mi.tot E:Nat):Int)) (.int 2) S=Z (.int (e:Nat),S):=λS=>by
  simp only[rJ];rw[ak ⟨by lia,by lia⟩,ht]
  congr 3
  push_cast;lia
 refine dL (λr S=>S=U++[.lst (E.map λrow=>D.int (row.length:Nat))]/\r=[Z (.ref (b+m)),Z (.int a),Z (.int c),Z (.int (e:Nat))]) ?_ ?_
 ·walk_at"w";refine dM w.ends ?_;refine iA (λi l r S=>S=U/\l=(E.take i).map (λrow=>D.int (row.length:Nat)) /\ ∃x,r=[x]) (gZ b m) 0 [] _ _ ⟨O,by simp,_,O⟩ (λi l r S h=>by rw[h.1];exact fi w.ends) ?_ ?_
  ·rintro i d y l r S ⟨rfl,rfl,x,rfl⟩;have n:=(gE1.mp y).1;rw[h9]at n;rw[j6 n]at y;cases y;rw[bK];obtain⟨row,k⟩:∃row,E[i]?=some row:=⟨_,gG1 (by rw[w.el];exact n)⟩;walk_at"w";refine dM (xs:=row.map pD) (w.row i row k) ?_;rw[b7,k];simp
  ·rintro xs r S ⟨rfl,F,x,rfl⟩;rw[ci,bK,h9,<- w.el,bT]at F;subst F;walk_at"w";refine⟨dj (by rw[lM1,w.el];lia),?_⟩;refine Et (E:=E) (by rw[dV];rfl) ?_
   ((try walk_at"w");repeat(simp only[C];try walk_at"w"))
 rintro r S ⟨rfl,rfl⟩;generalize L:Ob.lst (E.map λrow=>D.int (row.length:Nat))=lens;have I:lens.und U.length=M:=by rw[<- L,Ob.und];exact dv λ_ _=>rfl
 have s:=w.setRow (row:=f++[(e,0)]) ha;have j:∀(V:c6) (i:Nat) (o:Ob),V[i]?=Z o->(V++[lens])[i]?=Z o:=λV i o h=>by rw[gL1 (gE1.mp h).1];exact h
 have st:∀(V:c6) (i:Nat) (o:Ob),i<V.length->(V++[lens]).set i o=V.set i o++[lens]:=λV i o h=>by rw[List.set_append_left _ _ h]
 have u:b+a<U.length:=(gE1.mp (w.row a f p)).1;refine dL (λr S=>S=U.set (b+a) (eB (f++[(e,0)]))++[lens]/\r=[Z (.ref (b+m)),Z (.int a),Z (.int c),Z (.int (e:Nat))]) ?_ ?_
 ·unfold eE;rw[db];refine jE ?_;walk_at"w";refine vB w ha ?_;refine⟨b+a,f.map pD,O,j _ _ _ (w.row a f p),?_⟩;walk_at"w";refine(jF (xs:=f.map pD) (j _ _ _ (w.row a f p))).mpr ⟨dj (by rw[lM1];lia),?_⟩;have A:(f.map pD++[D.tup [D.int ↑e,D.int 0]])=(f++[(e,0)]).map pD:=by simp[pD]
  rw[A,st _ _ _ u];trivial
 rintro r S ⟨rfl,rfl⟩;obtain⟨rb,g⟩:∃rb,(E.set a (f++[(e,0)]))[c]?=some rb:=⟨_,gG1 (by rw[s.el];exact hc)⟩;have N:rb.length<=10:=by
  by_cases z:a=c
  ·subst z;rw[aH (by rw[w.el];exact ha)]at g;cases g;simp;lia
  ·rw[gS1 z]at g;have:=H rb g;lia
 have B:b+c<(U.set (b+a) (eB (f++[(e,0)]))).length:=(gE1.mp (s.row c rb g)).1;unfold eE;rw[db];refine jE ?_;walk_at"w";refine vB s hc ?_;refine⟨b+c,rb.map pD,O,j _ _ _ (s.row c rb g),?_⟩;walk_at"w";refine(jF (xs:=rb.map pD) (j _ _ _ (s.row c rb g))).mpr ⟨dj (by rw[lM1];lia),?_⟩;have A:(rb.map pD++[D.tup [D.int ↑e,D.int 1]])=(rb++[(e,1)]).map pD:=by simp[pD]
 rw[A,st _ _ _ B];have t:((U.set (b+a) (eB (f++[(e,0)]))).set (b+c) (eB (rb++[(e,1)]))).all (Ob.und U.length)=M:=by
  have:=mi (i:=b+c) (o:=eB (rb++[(e,1)])) (mi (i:=b+a) (o:=eB (f++[(e,0)])) am gA) gA;unfold jS at this;rw[aT,aT]at this;exact this
 have K:gc U.length (.non,(U.set (b+a) (eB (f++[(e,0)]))).set (b+c) (eB (rb++[(e,1)]))++[lens])=(.non,(U.set (b+a) (eB (f++[(e,0)]))).set (b+c) (eB (rb++[(e,1)]))):=by
  have v:((U.set (b+a) (eB (f++[(e,0)]))).set (b+c) (eB (rb++[(e,1)]))++[lens]).take U.length=(U.set (b+a) (eB (f++[(e,0)]))).set (b+c) (eB (rb++[(e,1)])):=by
   rw[cu (by simp),b0 (by simp)]
  unfold gc;dsimp only;rw[v,ak (by rw[t];rfl)]
 have G:=q rb g;rw[<- K]at G;exact G
noncomputable def nM:Nat->List (Nat×Nat)
 |0=>[]
 |e+1=>(e,1)::(e,0)::nM e
theorem su:∀e,(nM e).length=2*e
 |0=>rfl
 |e+1=>by rw[nM,lC1,lC1,su e];lia
theorem fW:∀{e:Nat} {x:Nat×Nat},x∈nM e↔x.1<e/\x.2<=1
 |0,x=>by simp[nM]
 |e+1,x=>by
  rw[nM,aE,aE,fW (e:=e)];obtain⟨a,b⟩:=x;simp only[Prod.mk.injEq];lia
theorem jJ:∀e,(nM e).Nodup
 |0=>bq
 |e+1=>by
  rw[nM,aM,aM];refine⟨λh=>?_,λh=>?_,jJ e⟩
  ·rcases aE.mp h with h|h
   ·simp at h
   ·have:=(fW.mp h).1;simp at this
  ·have:=(fW.mp h).1;simp at this
theorem nb:∀{E:c9} {i:Nat} {row:List (Nat×Nat)} {x:Nat×Nat},E[i]?=Z row->(E.set i (row++[x])).flatten.Perm (x::E.flatten)
 |[],i,_,_,h=>by simp at h
 |a::E,0,row,x,h=>by
  simp at h;subst h;rw[cA,aW,aW,aY];exact b9
 |a::E,i+1,row,x,h=>by
  have:=nb (E:=E) (i:=i) (row:=row) (x:=x) (by simpa using h);rw[cB,aW,aW];exact(List.Perm.append_left a this).trans b9
structure DI (m:Nat)(E:c9)(e:Nat):Prop where
 len:E.length=m
 all:E.flatten.Perm (nM e)
 le:∀(i:Nat) (row:List (Nat×Nat)),E[i]?=some row->row.length<=4
theorem DI.start(m:Nat):DI m (aN m []) 0:=by
 refine⟨by simp,by simp[nM],λi a h=>?_⟩;rw[aQ]at h;split at h
 ·cases h;simp
 ·cases h
theorem DI.tot{m:Nat}{E:c9}{e:Nat}(d:DI m E e):Mi.tot E=2*e:=by
 unfold Mi.tot;rw[<- List.length_flatten,d.all.length_eq,su]
theorem DI.join{m a c e:Nat}{E:c9}{f h:List (Nat×Nat)}(d:DI m E e)(ha:E[a]? = some f)(l:f.length<4)(hb:(E.set a (f++[(e,0)]))[c]? = some h)(k:h.length<4):
  DI m ((E.set a (f++[(e,0)])).set c (h++[(e,1)])) (e+1):=by
 refine⟨by rw[aT,aT];exact d.len,?_,λj g b=>?_⟩
 ·exact(nb hb).trans (((nb ha).trans (d.all.cons _)).cons _)
 ·by_cases z:c=j
  ·subst z;rw[aH (gE1.mp hb).1]at b;cases b;simp;lia
  ·rw[gS1 z]at b;by_cases i:a=j
   ·subst i;rw[aH (gE1.mp ha).1]at b;cases b;simp;lia
   ·rw[gS1 i]at b;exact d.le j g b
theorem CB{n b m i:Nat}{most:Int}{am U:c6}{E:c9}{Q:Fl×Ev×c6->Prop}(s:HS n am U)(hb:am.length=b)(hn:n<=2^44)(w:EW b m E U)(d:DI m E i)(hi:i+1<m)(hm:m<=8)(he:∀(j:Nat) (row:List (Nat×Nat)),i+1<=j->E[j]?=some row->row=[])(q:∀K N,HS (n+1) am N->EW b m K N->DI m K (i+1)->(∀(j:Nat) (row:List (Nat×Nat)),i+2<=j->K[j]?=some row->row=[]) ->
   Q (.nx,[Z (.ref 0),Z (.int most),Z (.int m),Z (.ref (b+m)),Z (.int ((i+1:Nat):Int)),Y,Y,Y,Y,Y,Y,Y,Y],N)):
  W (gt [Z (.ref 0),Z (.int most),Z (.int m),Z (.ref (b+m)),Z (.int ((i+1:Nat):Int)),Y,Y,Y,Y,Y,Y,Y,Y] U) Q:=by
 have hbl:=s.len;have hp:=s.pos;have g:∀j,j<m -> ∃row,E[j]?=Z row:=λj l=>⟨_,gG1 (by rw[d.len];exact l)⟩
 let k:Nat->Bool:=λj=>decide ((E.getD j []).length<4)
 unfold gt eE;rw[db];simp(implicitDefEqProofs:=J) only[mN,c4,mV,gC1,cy,c5,oS1,dJ,db,iC,rB,H9,mP1,Option.join_some,bc,bn,ci,zL,EK];rw[lg,Int.toNat_natCast];refine⟨gz (by lia),?_⟩;refine gx k (λj:Nat=>.int j) (λr=>∃x,r=[x,Z (.ref (b+m))]) O (af (i+1)) _ ⟨_,O⟩ ?_ ?_
 ·rintro j l r ⟨x,rfl⟩;have t:j<m:=by have:=aB.mp l;lia
  obtain⟨row,f⟩:=g j t;walk_at"w";refine pX w t ?_;walk_at"w";refine dM (xs:=row.map pD) (w.row j row f) ?_;walk_at"w";refine⟨?_,⟨_,O⟩,λ_=>trivial⟩;simp only[k,bG,f,ck,lM1];rw[bN,al,al];lia
 ·rintro r' _;walk_at"w";have F:(List.range (i+1)).filter k≠[]:=by
   intro z;have u:∀(j:Nat) (row:List (Nat×Nat)),j<i+1->E[j]?=Z row->4<=row.length:=λj row l hr=>by
    have:=List.filter_eq_nil_iff.mp z j (aB.mpr l);simp only[k,bG,hr,ck,al]at this;lia
   have:=xj (E:=E) (k:=i+1) (by rw[d.len];lia) u;have:=d.tot;lia
  generalize hL:(af (i+1)).filter k=L at F;have V:∀j∈L,j<i+1/\k j=M:=λj l=>by
   rw[<- hL,aA]at l;exact⟨aB.mp l.1,l.2⟩
  have hLl:L.length<=8:=by
   rw[<- hL];have:=cD k (af (i+1));simp at this;lia
  refine⟨dj (by rw[lM1];lia),?_⟩;have aq:(Ob.lst (L.map λj:Nat=>D.int j)).und 0=M:=by rw[Ob.und];exact Mi.dv λ_ _=>rfl
  have s1:HS n am (U++[.lst (L.map λj:Nat=>D.int j)]):=s.app1 aq;have P:HS n U (U++[.lst (L.map λj:Nat=>D.int j)]):=s.here.app1 aq;refine FH s1 (by lia) (xs:=L.map λj:Nat=>D.int j) (by rw[dV];rfl) (by lia) (by rw[lM1];lia) (by rw[lM1];exact List.length_pos_iff.mpr F) (λx S=>by obtain⟨y,_,rfl⟩:=b6.mp S;rfl) λx U2 S X au l2=>?_;obtain⟨j,l,rfl⟩:=b6.mp S;obtain⟨hj1,G⟩:=V j l;obtain⟨row,f⟩:=g j (by lia);have ao:row.length<4:=by
   simp only[k,bG,f,ck,al]at G;exact G
  obtain⟨T,A⟩:=g (i+1) hi;have B:=he (i+1) T (nR1 _) A;subst B;have wq:EW b m E U2:=(w.over P (by lia)).over au (by lia);have C:j≠i+1:=by lia
  walk_at"w";refine yQ (a:=j) (c:=i+1) (e:=i) X.shut wq d.tot (by lia) hi hm f (by lia) (λT h=>by have:=d.le _ T h;lia) λR p=>?_;have v:R=[]:=by
   rw[gS1 C,A]at p;cases p;rfl
  subst v;have w3:=(wq.setRow (row:=row++[(i,0)]) (show j<m by lia)).setRow (row:=[]++[(i,1)]) hi;have s3:=(X.set (i:=b+j) (o:=eB (row++[(i,0)])) (by lia) gA).set (i:=b+(i+1)) (o:=eB ([]++[(i,1)])) (by lia) gA;refine q _ _ s3 w3 (d.join f ao p (by simp)) λj' I t H=>?_;rw[gS1 (by lia),gS1 (by lia)]at H;exact he j' I (by lia) H
theorem DG{n b m e:Nat}{most:Int}{A U:c6}{E:c9}{B C aq au:Option D}{Q:Fl×Ev×c6->Prop}(s:HS n A U)(hb:A.length=b)(hn:n<=2^44)(w:EW b m E U)(d:DI m E e)(he:e<=100)(hm0:0<m)(hm:m<=8)(q:∀ao F N K H,HS (n+2) A F->EW b m ao F->DI m ao N->N<=e+1 ->
   Q (.nx,[Z (.ref 0),Z (.int most),Z (.int m),Z (.ref (b+m)),B,C,K,H,Y,Y,Y,Y,Y],F)):
  W (gr [Z (.ref 0),Z (.int most),Z (.int m),Z (.ref (b+m)),B,C,aq,au,Y,Y,Y,Y,Y] U) Q:=by
 have S:=s.len;have hp:=s.pos;have g:∀j,j<m -> ∃row,E[j]?=Z row:=λj X=>⟨_,gG1 (by rw[d.len];exact X)⟩;unfold gr;refine dL (λr V=>∃(a c:Nat),a<m/\c<m/\HS (n+2) A V/\EW b m E V/\r=[Z (.ref 0),Z (.int most),Z (.int m),Z (.ref (b+m)),B,C,Z (.int (a:Nat)),Z (.int (c:Nat)),Y,Y,Y,Y,Y]) ?_ ?_
 ·walk_at"w";refine draw_W s (by lia) (by lia) (by lia) λa U1 s1 am l1 y=>?_;walk_at"w";refine draw_W s1 (by lia) (by lia) (by lia) λc U2 u G l2 hc=>?_;walk_at"w";exact⟨a,c,by lia,by lia,u,(w.over am (by lia)).over G (by lia),O⟩
 rintro r V ⟨a,c,y,hc,u,t,rfl⟩;obtain⟨p,k⟩:=g a y;obtain⟨I,v⟩:=g c hc;have wq:((a:Int) == (c:Int))=decide (a=c):=by
  rw[bN,beq_iff_eq,al];lia
 have ei:(if decide (a=c)=M then(1:Int)else 0)=((if a=c then 1 else 0:Nat):Int):=by
  by_cases z:a=c<;>simp[z]
 have l:Q (.nx,[Z (.ref 0),Z (.int most),Z (.int m),Z (.ref (b+m)),B,C,Z (.int (a:Nat)),Z (.int (c:Nat)),Y,Y,Y,Y,Y],V):=q E V e _ _ u t d (by lia);walk_at"w";refine pX t y ?_;walk_at"w";refine dM (xs:=p.map pD) (t.row a p k) ?_
 ((try walk_at"w");repeat(simp only[wq];try walk_at"w"))
 rw[ei,lM1];by_cases L:p.length+(if a=c then 1 else 0)<4
 ·rw[ak (by rw[al];lia)];refine pX t hc ?_;walk_at"w";refine dM (xs:=I.map pD) (t.row c I v) ?_;walk_at"w";rw[lM1];by_cases c2:I.length<4
  ·rw [if_pos (by rw [decide_eq_true_eq];lia)];refine yQ (a:=a) (c:=c) (e:=e) u.shut t d.tot y hc hm k (by have:=d.le a p k;lia) (fun x h=>by have:=d.le _ x h;lia) fun x f=>?_;have T:x.length<4:=by
    by_cases z:a=c
    ·subst z;rw[aH (by rw[d.len];lia)]at f;cases f;rw[ak O]at L;simp;lia
    ·rw[gS1 z,v]at f;cases f;lia
   have la:p.length<4:=by split at L<;>lia
   have P:=(t.setRow (row:=p++[(e,0)]) (show a<m by lia)).setRow (row:=x++[(e,1)]) (show c<m by lia);have R:=(u.set (i:=b+a) (o:=eB (p++[(e,0)])) (by lia) gA).set (i:=b+c) (o:=eB (x++[(e,1)])) (by lia) gA;exact q _ _ (e+1) _ _ R P (d.join k la f T) (by lia)
  ·rw[aj (by rw[al];lia)];exact l
 ·rw[aj (by rw[al];lia)]
  try walk_at"w"
  exact l
def At(R:c9)(r d:Nat)(x:Nat×Nat):Prop:=∃row,R[r]?=Z row/\row[d]?=Z x
theorem At.mem{R:c9}{r d:Nat}{x:Nat×Nat}(h:At R r d x):x∈R.flatten:=by
 obtain⟨a,h1,h2⟩:=h;exact cE.mpr ⟨a,gM1 h1,gM1 h2⟩
theorem wG{R:c9}{x:Nat×Nat}(h:x∈R.flatten):∃p:Nat×Nat,At R p.1 p.2 x:=by
 obtain⟨a,h1,h2⟩:=cE.mp h;obtain⟨r,b⟩:=br h1;obtain⟨d,c⟩:=br h2;exact⟨(r,d),a,b,c⟩
theorem og{α:Type}:∀{l:List α} {i j:Nat} {x:α},l.Nodup->l[i]?=Z x->l[j]?=Z x->i=j
 |[],i,j,x,_,h,_=>by simp at h
 |a::l,0,0,x,_,_,_=>rfl
 |a::l,0,j+1,x,n,h1,h2=>by
  simp at h1 h2;subst h1;exact absurd (gM1 h2) (aM.mp n).1
 |a::l,i+1,0,x,n,h1,h2=>by
  simp at h1 h2;subst h2;exact absurd (gM1 h1) (aM.mp n).1
 |a::l,i+1,j+1,x,n,h1,h2=>by
  exact congrArg (· + 1) (og (i:=i) (j:=j) (x:=x) (aM.mp n).2 (by simpa using h1) (by simpa using h2))
theorem l0:∀{R:c9} {r d b d':Nat} {x:Nat×Nat},R.flatten.Nodup->At R r d x->At R b d' x->r=b/\d=d'
 |[],r,d,b,d',x,_,⟨_,h,_⟩,_=>by simp at h
 |a::R,r,d,b,d',x,n,⟨row,h1,h2⟩,⟨row',h1',h2'⟩=>by
  rw[aW,bx]at n;cases r with
  |zero=>
   simp at h1;subst h1;cases b with
   |zero=>
    simp at h1';subst h1';exact⟨O,og n.1 h2 h2'⟩
   |succ b=>
    have m1:x∈R.flatten:=cE.mpr ⟨row',gM1 (by simpa using h1'),gM1 h2'⟩;exact absurd O (n.2.2 x (gM1 h2) x m1)
  |succ r=>
   cases b with
   |zero=>
    simp at h1';subst h1';have m1:x∈R.flatten:=cE.mpr ⟨row,gM1 (by simpa using h1),gM1 h2⟩;exact absurd O (n.2.2 x (gM1 h2') x m1)
   |succ b=>
    obtain⟨c,e⟩:=l0 (R:=R) n.2.1 ⟨row,by simpa using h1,h2⟩ ⟨row',by simpa using h1',h2'⟩;exact⟨by rw[c],e⟩
open Classical in
noncomputable def plc(R:c9)(x:Nat×Nat):Nat×Nat:=if h:∃p:Nat×Nat,At R p.1 p.2 x then Classical.choose h else(0,0)
theorem pi{R:c9}{x:Nat×Nat}(h:x∈R.flatten):At R (plc R x).1 (plc R x).2 x:=by
 have h':=wG h;unfold plc;rw[dif_pos h'];exact Classical.choose_spec h'
theorem C5{R:c9}{r d:Nat}{x:Nat×Nat}(n:R.flatten.Nodup)(h:At R r d x):plc R x=(r,d):=by
 obtain⟨a,b⟩:=l0 n (pi h.mem) h;exact Prod.ext a b
noncomputable def opp(x:Nat×Nat):Nat×Nat:=(x.1,1-x.2)
noncomputable def vF(R:c9):c9:=R.map λrow=>row.map λx=>plc R (opp x)
structure Es (m:Nat)(w:c9):Prop where
 len:w.length=m
 le:∀row∈w,row.length<=4
 back:∀r d p,At w r d p->At w p.1 p.2 (r,d)
 ne:∀r d p,At w r d p->p≠(r,d)
theorem oX{R:c9}{r d:Nat}{p:Nat×Nat}:At (vF R) r d p ↔ ∃x,At R r d x/\p=plc R (opp x):=by
 unfold At vF;constructor
 ·rintro⟨a,h1,h2⟩;rw[gP1]at h1;obtain⟨b,c,rfl⟩:=oM1.mp h1;rw[gP1]at h2;obtain⟨x,e,rfl⟩:=oM1.mp h2;exact⟨x,⟨b,c,e⟩,O⟩
 ·rintro⟨x,⟨a,h1,h2⟩,rfl⟩;exact⟨a.map λx=>plc R (opp x),by rw[gP1,h1];rfl,by rw[gP1,h2];rfl⟩
theorem z7{m e:Nat}{R:c9}(d:DI m R e):Es m (vF R):=by
 have n:R.flatten.Nodup:=d.all.nodup_iff.mpr (jJ e);have opp_mem:∀x,x∈R.flatten->opp x∈R.flatten/\opp (opp x)=x/\opp x≠x:=λx c=>by
  have:=fW.mp (d.all.mem_iff.mp c);obtain⟨a,b⟩:=x;simp at this;refine⟨d.all.mem_iff.mpr (fW.mpr ⟨this.1,by simp[opp]⟩),?_,?_⟩
  ·simp[opp];lia
  ·simp[opp];lia
 refine⟨by unfold vF;rw[lM1];exact d.len,?_,?_,?_⟩
 ·intro f o;obtain⟨r,g,rfl⟩:=b6.mp o;obtain⟨i,hi⟩:=br g;rw[lM1];exact d.le i r hi
 ·intro r l p h;obtain⟨x,c,rfl⟩:=oX.mp h;obtain⟨h1,h2,_⟩:=opp_mem x c.mem;exact oX.mpr ⟨opp x,pi h1,by rw[h2,C5 n c]⟩
 ·intro r l p h z;obtain⟨x,c,rfl⟩:=oX.mp h;obtain⟨h1,_,q⟩:=opp_mem x c.mem;have j:=pi h1;rw[z]at j;obtain⟨f,a1,a2⟩:=c;obtain⟨k,b1,b2⟩:=j;rw[a1]at b1;cases b1;rw[a2]at b2;exact q (Option.some.inj b2).symm
theorem xZ{f:Nat×Nat->D}:∀{a b:List D},a.Perm b -> ∀l:List (Nat×Nat),b=l.map f -> ∃c:List (Nat×Nat),a=c.map f/\c.Perm l:=by
 intro a b h
 induction h with
 |nil=>intro l e;exact⟨[],O,by cases l with|nil=>exact .refl _|cons _ _=>simp at e⟩
 |cons x _ ih=>
  intro l e;cases l with
  |nil=>simp at e
  |cons y l=>
   simp at e;obtain⟨c,g,p⟩:=ih l e.2;exact⟨y::c,by rw[mP1,e.1,g],p.cons y⟩
 |swap x y o=>
  intro l e
  match l,e with
  |a::b::l,e=>
   simp at e;exact⟨b::a::l,by rw[mP1,mP1,e.1,e.2.1,e.2.2],List.Perm.swap _ _ _⟩
 |trans _ _ i d=>
  intro l e;obtain⟨k,g,j⟩:=d l e;obtain⟨m,n,p2⟩:=i k g;exact⟨m,n,p2.trans j⟩
theorem n0:∀(k n:Nat),gZ n (k+1)=gZ n k++[.ref (n+k)]
 |0,n=>rfl
 |k+1,n=>by
  rw[gZ,n0 k (n+1),gZ,bn,show n+1+k=n+(k+1) by lia]
theorem xM{n k m:Nat}(h:n+k<=m):D.unds m (gZ n k)=M:=by
 induction k generalizing n with
 |zero=>rfl
 |succ k ih=>rw[gZ,D.unds,ih (by lia),D.und];simp;lia
theorem zk{U:c6}{m:Nat}:EW U.length m (aN m []) (U++(aN m (.lst [])++[.lst (gZ U.length m)])):=by
 refine⟨by simp,λi a h=>?_,?_⟩
 ·have hi:i<m:=by have:=(gE1.mp h).1;simpa using this
  rw[aQ,ak hi]at h;cases h;rw[gv,gL1 (by simpa using hi),aQ,ak hi];rfl
 ·rw[gv,gR1 (by simp)];simp
structure oU (b:Nat)(ks:List Nat)(R:c9)(V:c6):Prop where
 len:ks.length=R.length
 at_:∀(i k:Nat) (row:List (Nat×Nat)),ks[i]?=some k->R[i]?=some row->V[k]?=some (eB row)
 low:∀k∈ks,b<=k
theorem oU.over{n b:Nat}{ks:List Nat}{R:c9}{U V:c6}(e:oU b ks R U)(s:HS n U V)(c:0<b):oU b ks R V:=
 ⟨e.len,λi k a h1 h2=>s.at (e.at_ i k a h1 h2) (by have:=e.low k (gM1 h1);lia),e.low⟩
noncomputable def qw(k:Nat):D:=.ref k
theorem oC:∀{R E:c9},R.length=E.length->(∀(i:Nat) (r e:List (Nat×Nat)),R[i]?=Z r->E[i]?=Z e->r.Perm e)->R.flatten.Perm E.flatten
 |[],[],_,_=>.refl _
 |[],_::_,h,_=>by simp at h
 |_::_,[],h,_=>by simp at h
 |r::R,e::E,h,q=>by
  rw[aW,aW];exact(q 0 r e O O).append (oC (by simpa using h) λi b a h1 h2=>q (i+1) b a (by simpa using h1) (by simpa using h2))
theorem BC{n b m e:Nat}{am U:c6}{E:c9}{Q:List D×Ev×c6->Prop}(s:HS n am U)(hb:am.length=b)(hn:n<=2^44)(w:EW b m E U)(d:DI m E e)(hm:m<=8)(q:∀ks R V x,HS (n+40) am V->oU b ks R V->DI m R e->(∀k∈ks,k<V.length)->Q (ks.map qw,[x,some (.ref 0)],V)):
  W (fr [(b+m,gZ b m)] (gN 0) eP (dW (mN (c7 2 dN) (c4 (mV 1) (c4 (mV 0) c5)))) (gZ b m) [Y,Z (.ref 0)] U) Q:=by
 have hp0:=s.pos;have aq:=s.len;have f:∀j,j<m -> ∃row,E[j]?=Z row:=λj l=>⟨_,gG1 (by rw[d.len];exact l)⟩;refine iA (λi t r S=>∃ks R x,i<=m/\HS (n+5*i) am S/\EW b m E S/\t=ks.map qw/\r=[x,Z (.ref 0)]/\ks.length=i/\oU b ks R S/\(∀(j:Nat) (r e:List (Nat×Nat)),R[j]?=Z r->E[j]?=Z e->r.Perm e)/\(∀k∈ks,k<S.length)) (gZ b m) 0 [] _ _ ⟨[],[],Y,by lia,s,w,O,O,O,⟨O,λi k row h1=>by simp at h1,λk h=>by simp at h⟩,λj r e h1=>by simp at h1,λk h=>by simp at h⟩ ?_ ?_ ?_
 ·rintro i t r S ⟨ks,R,x,_,_,G,_⟩;exact fi G.ends
 ·rintro i dd ao t r S ⟨ks,R,x,hi,C,G,rfl,rfl,h,a,K,u⟩;have y:=(gE1.mp ao).1;rw[h9]at y;rw[j6 y]at ao;cases ao;rw[bK]at *
  obtain⟨row,g⟩:=f i y;have wq:=d.le i row g;walk_at"w";refine sT C (by lia) (G.row i row g) (by rw[lM1];lia) (Mi.dv λ_ _=>rfl) λk ys V T o hkl H L=>?_;rw[lM1]at T o;obtain⟨c,rfl,N⟩:=xZ L row O;have X:=C.len;have F:=a.over o (by lia);refine⟨ks++[k],R++[c],_,by lia,T.more (by lia),G.over o (by lia),by simp[qw],O,by simp[h],⟨by simp[a.len],λj B au h1 h2=>?_,λB p=>?_⟩,λj au e' h1 h2=>?_,λB p=>?_⟩
  ·by_cases l:j<ks.length
   ·rw[gL1 l]at h1;rw[gL1 (by rw[<- a.len];exact l)]at h2;exact F.at_ j B au h1 h2
   ·have A:j=ks.length:=by have:=(gE1.mp h1).1;simp at this;lia
    subst A;rw[cC]at h1;rw[a.len,cC]at h2;cases h1;cases h2;exact H
  ·rcases aF.mp p with z|z
   ·exact a.low B z
   ·simp at z;lia
  ·by_cases l:j<R.length
   ·rw[gL1 l]at h1;exact K j au e' h1 h2
   ·have A:j=R.length:=by have:=(gE1.mp h1).1;simp at this;lia
    subst A;rw[cC]at h1;cases h1;rw[<- a.len,h,g]at h2;cases h2;exact N
  ·have hv2:=o.len;show B<V.length;rcases aF.mp p with z|z
   ·have:=u B z;lia
   ·simp at z;subst z;exact(gE1.mp H).1
 ·rintro xs r S ⟨ks,R,x,hi,C,G,P,rfl,h,a,K,u⟩;rw[ci]at P;subst P;rw[bK,h9]at C h;have v:R.length=E.length:=by rw[<- a.len,h,d.len]
  have dR:DI m R e:=⟨by rw[v];exact d.len,(oC v K).trans d.all,λj row l=>by
   obtain⟨c,I⟩:=f j (by rw[<- d.len,<- v];exact(gE1.mp l).1);rw[(K j row c l I).length_eq];exact d.le j c I⟩
  exact q ks R S x (C.more (by lia)) a dR u
theorem Ch{m:FA}{r:Ev}{S:c6}{Q:wS×c6->Prop}{d:D}{S1:c6}(h:m r S=Z ([d],S1))(q:sW S1 d λp=>Q (⟨wr 0 p.1,p.2⟩,S1)):W (wO m r S) Q:=by
 unfold wO;rw[h,oS1];dsimp only;rw[db];exact W.mono (show W (dn S1 d) _ from q) λz w=>dJ.mpr w
theorem Aq{F:List (TK×D)}{k:TK}{v:D}{n:Nat}(h:∀p∈F,p.2.und n=M)(hv:v.und n=M):∀p∈fG F k v,p.2.und n=M:=by
 intro p a;unfold fG at a;split at a
 ·obtain⟨q,b,rfl⟩:=b6.mp a;split
  ·exact hv
  ·exact h q b
 ·rcases aF.mp a with z|z
  ·exact h p z
  ·simp at z;subst z;exact hv
theorem CM{V:c6}{pl k r:Nat}{F:List (TK×D)}{R:c9}{row:List (Nat×Nat)}{w ao B u G A K C H L:Option D}{Q:Fl×Ev×c6->Prop}(nd:R.flatten.Nodup)(hr:R[r]? = some row)(hpl:pl<V.length)(hk:V[k]? = some (eB row))(n:k≠pl)(hF:F.length+row.length<500)(T:∀p∈F,p.2.und 0=true)(o:∀b d x,b<r->At R b d x->dH F (ql x)=some (pD (b,d)))(q:∀c g f,c.length<=F.length+row.length->(∀p∈c,p.2.und 0=true)->(∀b d x,b<r+1->At R b d x->dH c (ql x)=some (pD (b,d))) ->
   Q (.nx,[w,ao,B,u,Z (.int (r:Nat)),G,A,K,C,Z (.ref pl),Z (.ref k),g,f],V.set pl (dO c))):
  W (io [w,ao,B,u,Z (.int (r:Nat)),G,A,K,C,Z (.ref pl),Z (.ref k),H,L] (V.set pl (dO F))) Q:=by
 unfold io fO;rw[db];refine Ch (d:=.ref k) (S1:=V.set pl (dO F)) O ?_;refine dM (xs:=row.map pD) (by rw[gS1 n.symm];exact hk) ?_;refine eY (λi b S=>∃c g f,i<=row.length/\c.length<=F.length+i/\(∀p∈c,p.2.und 0=M)/\S=V.set pl (dO c)/\b=[w,ao,B,u,Z (.int (r:Nat)),G,A,K,C,Z (.ref pl),Z (.ref k),g,f]/\(∀b d x,b<r->At R b d x->dH c (ql x)=Z (pD (b,d)))/\(∀d x,d<i->row[d]?=Z x->dH c (ql x)=Z (pD (r,d)))) _ 0 _ _ ⟨F,_,_,by lia,by lia,T,O,O,o,λd x t=>by lia⟩ ?_ ?_ ?_
 ·rintro i b S ⟨c,_,_,_,_,_,rfl,_⟩;exact fi (by rw[gS1 n.symm];exact hk)
 ·rintro i wq t b S ⟨c,I,am,hi,E,j,rfl,rfl,h1,h2⟩;dsimp only at t;rw[lV,gP1]at t;obtain⟨z,X,rfl⟩:=oM1.mp t;obtain⟨x,l,rfl⟩:=oM1.mp X;have U:=(gE1.mp l).1;rw[bK]at *
  walk_at"w";unfold kb;walk_at"w";refine Ew (F:=c) (by rw[aH hpl]) uV (by lia) ?_;have m:At R r i x:=⟨row,hr,l⟩;refine⟨fG c (ql x) (pD (r,i)),_,_,by lia,by have:=Ar (k:=ql x) (v:=pD (r,i)) (a:=c);lia,Aq j O,by rw[List.set_set];rfl,O,λb d y s h=>?_,λd y aq h=>?_⟩
  ·rw[ro];by_cases e:ql y=ql x
   ·have:=ux e;subst this;have:=(l0 nd h m).1;lia
   ·rw[aj e];exact h1 b d y s h
  ·rw[ro];by_cases e:ql y=ql x
   ·have:=ux e;subst this;have:=(l0 nd ⟨row,hr,h⟩ m).2;subst this;rw[ak O]
   ·rw[aj e];by_cases z:d<i
    ·exact h2 d y z h
    ·have:d=i:=by lia
     subst this;rw[l]at h;cases h;exact absurd O e
 ·rintro b S ⟨c,I,am,hi,E,j,rfl,rfl,h1,h2⟩;rw[lU,lM1,bK]at E h2;refine q c _ _ E j λb d x s l=>?_;by_cases z:b<r
  ·exact h1 b d x z l
  ·have:b=r:=by lia
   subst this;obtain⟨P,N,au⟩:=l;rw[hr]at N;cases N;exact h2 d x (gE1.mp au).1 au
noncomputable def dA(w:c9):D:=.tup (w.map λrow=>.tup (row.map pD))
structure iH (m:Nat)(w:c9):Prop where
 len:w.length=m
 le:∀row∈w,row.length<=4
 to:∀row∈w,∀e∈row,∃r,w[e.1]?=some r/\e.2<r.length
theorem eR(w:c9):(dA w).und 0=M:=by
 unfold dA;rw[D.und];exact dv λa _=>by rw[D.und];exact dv λ_ _=>rfl
theorem Es.ok{m:Nat}{w:c9}(g:Es m w):iH m w:=by
 refine⟨g.len,g.le,λb h e c=>?_⟩;obtain⟨r,h1⟩:=br h;obtain⟨d,h2⟩:=br c;obtain⟨a,f,i⟩:=g.back r d e ⟨b,h1,h2⟩;exact⟨a,f,(gE1.mp i).1⟩
theorem Eh{F:List (TK×D)}{n:Nat}(h:∀p∈F,p.2.und n=M):(Mi.dO F).und n=M:=by
 unfold Mi.dO;split
 ·rfl
 ·rw[Ob.und];exact Mi.dv λp a=>h p a
theorem I1{R:c9}:dA (vF R) = .tup (R.map λa=>.tup (a.map λx=>pD (plc R (opp x)))):=by
 unfold dA vF;simp only[bu]
 congr 1
 apply cq;intro a _;simp only[Function.comp_apply,bu];rfl
theorem Eb{c m:Nat}{most:Int}{U S:c6}{Q:Fl×Ev×c6->Prop}(B:HS c U S)(hc:c<=2^41)(u:S.length=U.length)(am:0<m)(wq:m<=8)(k:FS)(q:∀E e a n l h V,HS (c+40) U V->EW U.length m E V->DI m E e->W (k [some (.ref 0),some (.int most),some (.int (m:Nat)),some (.ref (U.length+m)),a,n,l,h,none,none,none,none,none] V) Q):
  W (di (dk (d4 1 [] (qc (c4 (mV 2) c5)) (gN 0) eP (dW (eW c5))) (gN 3))
   (di (fO (EM (c4 (mC (D.int 1)) (c4 (mV 2) c5))) (gN 4) gt)
   (di (fO (qc (c4 (mN (c7 2 c8) (c4 (mV 0) (c4 (mC (D.int 4)) c5))) c5)) (gN 5) gr) k))
   [Z (.ref 0),Z (.int most),Z (.int (m:Nat)),Y,Y,Y,Y,Y,Y,Y,Y,Y,Y] S) Q:=by
 have hp:=B.pos;refine dL (λr V=>HS c U V/\EW U.length m (aN m []) V/\r=[Z (.ref 0),Z (.int most),Z (.int (m:Nat)),Z (.ref (U.length+m)),Y,Y,Y,Y,Y,Y,Y,Y,Y]) ?_ ?_
 ·walk_at"w";refine⟨gz (by lia),?_⟩;rw[Int.toNat_natCast];refine iA (λi v r V=>v=gZ U.length i/\V=S++aN i (.lst []) /\ ∃x,r=[x]) (hC 0 m) 0 [] _ _ ⟨O,by simp,_,O⟩ (λ_ _ _ _ _=>rfl) ?_ ?_
  ·rintro i d s v r V ⟨rfl,rfl,x,rfl⟩;walk_at"w";rw[bK];refine⟨?_,?_,_,O⟩
   ·rw[n0,u,lR1]
   ·rw[List.replicate_succ']
  ·rintro xs r V ⟨e,rfl,_⟩;rw[ci,bK,fg]at e;subst e;rw[bK,fg];walk_at"w";rw[h9];refine⟨dj (by lia),B.app λo P=>?_,?_,?_⟩
   ·rcases aF.mp P with z|z
    ·rw[List.eq_of_mem_replicate z];rfl
    ·simp at z;subst z;rw[Ob.und];exact xM (by simp[u])
   ·have:=zk (U:=S) (m:=m);rw[u]at this;exact this
   ·simp[u]
 rintro r V ⟨au,X,rfl⟩;refine dL (λr V=>∃E a,HS (c+20) U V/\EW U.length m E V/\DI m E (m-1)/\r=[Z (.ref 0),Z (.int most),Z (.int (m:Nat)),Z (.ref (U.length+m)),a,Y,Y,Y,Y,Y,Y,Y,Y]) ?_ ?_
 ·walk_at"w";refine⟨zy (by decide) (by decide),gz (by lia),?_⟩;refine eY (λi r V=>i<=m-1 /\ ∃E a,HS (c+i) U V/\EW U.length m E V/\DI m E i/\(∀(j:Nat) (p:List (Nat×Nat)),i+1<=j->E[j]?=Z p->p=[])/\r=[Z (.ref 0),Z (.int most),Z (.int (m:Nat)),Z (.ref (U.length+m)),a,Y,Y,Y,Y,Y,Y,Y,Y]) _ 0 _ _ ?_ (λ_ _ _ _=>rfl) ?_ ?_
  ·refine⟨by lia,_,Y,au,X,DI.start m,λj p _ y=>?_,O⟩;rw[aQ]at y;split at y
   ·cases y;rfl
   ·cases y
  ·rintro i d s r V ⟨hi,E,a,f,w,g,A,rfl⟩;have b:=(gE1.mp s).1;rw [fg] at b;have I:d = .int ((i+1:Nat):Int):=by
    rw[px,gP1,ca b]at s;simp at s;rw[<- s]
    push_cast
    congr 1
    lia
   subst I;rw[bK]at *
   walk_at"w";refine CB f O (by lia) w g (by lia) (by lia) A λC K s' G H t=>?_;exact⟨O,by lia,C,_,s',G,H,t,O⟩
  ·rintro r V ⟨hi,E,a,f,w,g,A,rfl⟩;rw[fg]at *
   have L:0+((m:Int)-1).toNat=m-1:=by lia
   rw[L]at f g;exact⟨O,E,_,f.more (by lia),w,g,O⟩
 rintro r V ⟨E,a,f,w,g,rfl⟩;refine dL (λr V=>∃E e a n l h,HS (c+40) U V/\EW U.length m E V/\DI m E e/\r=[Z (.ref 0),Z (.int most),Z (.int (m:Nat)),Z (.ref (U.length+m)),a,n,l,h,Y,Y,Y,Y,Y]) ?_ ?_
 ·walk_at"w";refine draw_W f (by lia) (by lia) (by lia) λk V1 B F u aq=>?_;walk_at"w";have R:=f.len;refine⟨gz (by lia),?_⟩;rw[Int.toNat_natCast];refine eY (λi r V=>i<=k /\ ∃E e a n l h,HS (c+21+2*i) U V/\EW U.length m E V/\DI m E e/\e<=8+i/\r=[Z (.ref 0),Z (.int most),Z (.int (m:Nat)),Z (.ref (U.length+m)),a,n,l,h,Y,Y,Y,Y,Y]) _ 0 _ _ ⟨by lia,E,m-1,_,_,_,_,B,w.over F (by lia),g,by lia,O⟩ (λ_ _ _ _=>rfl) ?_ ?_
  ·rintro i d s r V ⟨hi,E,e,a,n,l,h,f,w,g,A,rfl⟩;have b:=(gE1.mp s).1;rw[fg]at b;rw[bK]at *
   walk_at"w";refine DG f O (by lia) w g (by lia) am (by lia) λC K N T ao s' G H t=>?_;exact⟨O,by lia,C,N,_,_,_,_,s',G,H,by lia,O⟩
  ·rintro r V ⟨hi,E,e,a,n,l,h,f,w,g,A,rfl⟩;rw[fg,bK]at *
   exact⟨O,E,e,_,_,_,_,f.more (by lia),w,g,O⟩
 rintro r V ⟨E,e,a,n,l,h,f,w,g,rfl⟩;exact q E e a n l h V f w g
theorem ES{c most:Nat}{B U:c6}{Q:D×c6->Prop}(s:HS c B U)(hc:c<=2^40)(hm0:0<most)(hm8:most<=8)(q:∀m w U',0<m->m<=most->iH m w->HS (c+200) B U'->HS (c+200) U U'->U'.length=U.length->Q (dA w,U')):W (c7 2 gI [.ref 0,.int most] U) Q:=by
 have hp:=s.pos;have hbl:=s.len;refine oJ (c':=c+200) O O s ?_;have s0:HS c U U:=s.here;unfold gI;refine kn ?_;unfold nw;refine dL (λr S=>∃m,0<m/\m<=most/\HS (c+1) U S/\S.length=U.length/\r=[Z (.ref 0),Z (.int most),Z (.int (m:Nat)),Y,Y,Y,Y,Y,Y,Y,Y,Y,Y]) ?_ ?_
 ·walk_at"w";refine draw_W s0 (by lia) (by lia) (by lia) λk U1 s1 _ l1 A=>?_;walk_at"w";exact⟨k+1,by lia,by lia,s1,l1,by simp[Int.add_comm]⟩
 rintro r S ⟨m,m0,mm,s1,l1,rfl⟩;refine Eb s1 (by lia) l1 m0 (by lia) _ λE e K x5 x6 x7 V sE w dE=>?_;refine dL (λr V=>∃ks R K x5 x6 x7 g,HS (c+100) U V/\oU U.length ks R V/\DI m R e/\(∀k∈ks,k<g)/\U.length<=g/\V.length=g+1/\V[g]?=Z (.lst (ks.map qw))/\r=[Z (.ref 0),Z (.int most),Z (.int (m:Nat)),Z (.ref (U.length+m)),K,x5,x6,x7,Z (.ref g),Y,Y,Y,Y]) ?_ ?_
 ·walk_at"w";refine dM w.ends ?_;refine BC sE O (by lia) w dE (by lia) λks R V2 x s2 h u H=>?_;walk_at"w";have hl2:=s2.len;refine⟨dj (by rw[lM1,h.len,u.len];lia),ks,R,_,_,_,_,V2.length,(s2.more (by lia)).app λo ao=>?_,⟨h.len,λi k row h1 h2=>?_,h.low⟩,u,H,hl2,by simp,by rw[cC],O⟩
  ·simp at ao;subst ao;rw[Ob.und];refine Mi.dv λk A=>?_;have:=H k A;simp[qw,D.und];lia
  ·have:=h.at_ i k row h1 h2;rw[gL1 (gE1.mp this).1];exact this
 rintro r V ⟨ks,R,K,x5,x6,x7,g,sV,A,u,H,hdp,hVl,v,rfl⟩;have nd:R.flatten.Nodup:=u.all.nodup_iff.mpr (jJ e);refine dL (λr V1=>V1=V++[.dct []]/\r=[Z (.ref 0),Z (.int most),Z (.int (m:Nat)),Z (.ref (U.length+m)),K,x5,x6,x7,Z (.ref g),Z (.ref V.length),Y,Y,Y]) ?_ ?_
 ·((try walk_at"w");repeat(simp only[yH];try walk_at"w"))
 rintro r V1 ⟨rfl,rfl⟩;generalize am:V++[Ob.dct []]=V1;have hpl:V.length<V1.length:=by rw[<- am];simp
 have sV1:HS (c+100) U V1:=by rw[<- am];exact sV.app1 O
 have n:∀(i:Nat) (o:Ob),V[i]?=Z o->V1[i]?=Z o:=λi o hi=>by rw[<- am,gL1 (gE1.mp hi).1];exact hi
 have T:V1=V1.set V.length (Mi.dO []):=by
  have:V1[V.length]?=Z (Mi.dO []):=by rw[<- am,cC];rfl
  obtain⟨hl,hx⟩:=gE1.mp this;rw[<- hx,List.set_getElem_self]
 refine dL (λr V2=>∃F K x10 X aq,V2=V1.set V.length (Mi.dO F)/\(∀C d x,At R C d x->dH F (ql x)=Z (pD (C,d)))/\(∀p∈F,p.2.und 0=M)/\r=[Z (.ref 0),Z (.int most),Z (.int (m:Nat)),Z (.ref (U.length+m)),K,x5,x6,x7,Z (.ref g),Z (.ref V.length),x10,X,aq]) ?_ ?_
 ·unfold fO;rw[db];refine Ch (d:=.ref g) (S1:=V1) O ?_;refine dM (n g _ v) ?_;refine eY (λi r V2=>∃F K x10 X aq,i<=m/\F.length<=4*i/\V2=V1.set V.length (Mi.dO F)/\(∀C d x,C<i->At R C d x->dH F (ql x)=Z (pD (C,d)))/\(∀p∈F,p.2.und 0=M)/\r=[Z (.ref 0),Z (.int most),Z (.int (m:Nat)),Z (.ref (U.length+m)),K,x5,x6,x7,Z (.ref g),Z (.ref V.length),x10,X,aq]) _ 0 _ _ ⟨[],_,_,_,_,by lia,by simp,T,λC d x hr=>by lia,λp hp=>by simp at hp,O⟩ ?_ ?_ ?_
  ·rintro i r V2 ⟨F,_,_,_,_,_,_,rfl,_⟩;exact fi (by rw[gS1 (by lia)];exact n g _ v)
  ·rintro i dd hd r V2 ⟨F,y4,y10,y11,y12,hi,hF,rfl,h1,hu,rfl⟩;dsimp only at hd;rw[lV,gP1]at hd;obtain⟨z,hz,rfl⟩:=oM1.mp hd;obtain⟨k,t,rfl⟩:=oM1.mp hz;have I:=(gE1.mp t).1;rw[bK]at *
   obtain⟨row,f⟩:∃row,R[i]?=some row:=⟨_,gG1 (by rw[<- A.len];exact I)⟩;have him:i<m:=by rw[<- u.len,<- A.len];exact I
   have hkd:=H k (gM1 t);have hrl:=u.le i row f
   ((try walk_at"w");repeat(simp only[qw];try walk_at"w"))
   refine CM (r:=i) nd f hpl (n k _ (A.at_ i k row t f)) (by lia) (by lia) hu h1 λF' o12 o13 hl hu' h1'=>?_;exact⟨O,F',_,_,_,_,by lia,by lia,O,h1',hu',O⟩
  ·rintro r V2 ⟨F,y4,y10,y11,y12,hi,hF,rfl,h1,hu,rfl⟩;rw[lU,lM1,bK]at h1;refine⟨O,F,_,_,_,_,O,λC d x hx=>h1 C d x ?_ hx,hu,O⟩;obtain⟨row,e1,_⟩:=hx;rw[A.len];exact(gE1.mp e1).1
 rintro r V2 ⟨F,y4,y10,y11,y12,rfl,hF,hu,rfl⟩;generalize au:V1.set V.length (Mi.dO F)=V2;have sV2:HS (c+100) U V2:=by rw[<- au];exact sV1.set (by lia) (Eh λp hp=>d6 (hu p hp))
 have j:∀(i:Nat) (o:Ob),V[i]?=Z o->V2[i]?=Z o:=λi o hi=>by
  rw[<- au,gS1 (by have:=(gE1.mp hi).1;lia)];exact n i o hi
 have L:V2[V.length]?=Z (Mi.dO F):=by rw[<- au,aH hpl]
 have hmem:∀x∈R.flatten,opp x∈R.flatten:=λx hx=>by
  have:=fW.mp (u.all.mem_iff.mp hx);exact u.all.mem_iff.mpr (fW.mpr ⟨this.1,by simp[opp]⟩)
 walk_at"w";refine dM (S:=V2) (j g _ v) ?_;refine iA (λi P r S=>∃G x,S=V2++G/\(∀o∈G,o.und 0=M)/\r=[x,Z (.ref V.length)]/\P=(R.take i).map λrow=>D.tup (row.map λx=>pD (plc R (opp x)))) (ks.map qw) 0 [] _ _ ⟨[],Y,by simp,λo ao=>by simp at ao,O,O⟩ ?_ ?_ ?_
 ·rintro i P r S ⟨G,x,rfl,_⟩;exact fi (by rw[gL1 (gE1.mp (j g _ v)).1];exact j g _ v)
 ·rintro i d hd P r S ⟨G,x,rfl,hG,rfl,rfl⟩;rw[gP1]at hd;obtain⟨k,t,rfl⟩:=oM1.mp hd;have I:=(gE1.mp t).1;obtain⟨row,f⟩:∃row,R[i]?=some row:=⟨_,gG1 (by rw[<- A.len];exact I)⟩;have hrl:=u.le i row f;have h:=j k _ (A.at_ i k row t f);have hk3:(V2++G)[k]?=Z (.lst (row.map pD)):=by rw[gL1 (gE1.mp h).1];exact h
  ((try walk_at"w");repeat(simp only[qw];try walk_at"w"))
  refine dM hk3 ?_;refine pA (λx=>pD (plc R (opp x))) (λr=>∃x y,r=[x,y,Z (.ref V.length)]) (fi hk3) row _ ⟨_,_,O⟩ ?_ ?_
  ·rintro y hy r ⟨a,b,rfl⟩;rw[pD];walk_at"w";have hy2:=(fW.mp (u.all.mem_iff.mp (cE.mpr ⟨row,gM1 f,hy⟩)));rw[show((1:Int)-(y.2:Int))=((1-y.2:Nat):Int) by lia];have hopp:=hmem y (cE.mpr ⟨row,gM1 f,hy⟩);have wq:=hF _ _ _ (pi hopp);refine Ez (F:=F) (k:=ql (opp y)) (by rw[gL1 (gE1.mp L).1];exact L) (uV (e:=opp y)) wq ?_;exact⟨O,O,_,_,O⟩
  ·rintro C _;walk_at"w";refine⟨dj (by rw[lM1];lia),?_⟩;refine dM (xs:=row.map λx=>pD (plc R (opp x))) (by rw[<- aY,<- lA1,dV];rfl) ?_;refine⟨G++[Ob.lst (row.map λx=>pD (plc R (opp x)))],_,O,λo ao=>?_,O,?_⟩
   ·rcases aF.mp ao with z|z
    ·exact hG o z
    ·simp at z;subst z;rw[Ob.und];exact Mi.dv λ_ _=>rfl
   ·rw[bK,b7,f];simp
 ·rintro xs r S ⟨G,x,rfl,hG,rfl,e1⟩;rw[ci,bK,lM1,A.len,bT]at e1;subst e1;walk_at"w";have hRl:=u.len;refine⟨dj (by rw[lM1];lia),?_⟩;refine dM (xs:=R.map λrow=>D.tup (row.map λx=>pD (plc R (opp x)))) (by rw[<- aY,<- lA1,dV];rfl) ?_;have e2:=I1 (R:=R);have N:D.unds 0 (R.map λrow=>D.tup (row.map λx=>pD (plc R (opp x))))=M:=Mi.dv λrow _=>by rw[D.und];exact Mi.dv λ_ _=>rfl
  refine⟨(sV2.app λo ao=>?_).more (by lia),by rw[D.und];exact N,λU' a b l=>?_⟩
  ·rcases aF.mp ao with z|z
   ·exact ff (bm _) (hG o z)
   ·simp at z;subst z;rw[Ob.und];exact eA N
  ·rw[<- e2];exact q m _ U' m0 mm (z7 u).ok a b l
theorem vA{w:c9}{i:Nat}{row:List (Nat×Nat)}{S:c6}{Q:D×c6->Prop}(h:w[i]?=Z row)(q:Q (.tup (row.map pD),S)):W (da (dA w) (.int i) S) Q:=
 lz (x:=.tup (row.map pD)) (by rw[gP1,h];rfl) q
theorem pC{w:c9}{S:c6}:eL (dA w) S=Z (.int w.length,S):=by simp[dA,eL,dn]
noncomputable def crowd(ws:List Wk)(rm:Nat):Nat:=(ws.filter λu=>u.1 == rm).length
noncomputable def uB(a b c d:Bool)(ws:List Wk)(cs:List Nat)(u:Wk)(row:List (Nat×Nat)):D:=
 sS a b c d u.2.1 (if cs.contains u.1 then 1 else 0) row.length (if 1<crowd ws u.1 then 1 else 0)
theorem wm{ws:List Wk}{rm:Nat}{S:c6}{b:Option D}{Q:List D×Ev×c6->Prop}(h:∀ a,Q ((ws.filter fun u=>u.1 == rm).map eQ,a,S)):
  W (fr [] (gN 0) (mB (m2 (b2 oz) (m2 (b2 da) (mV 0) (mC (D.int (0)))) (mV 1))) (dW (mV 0)) (dI ws) [b,Z (.int rm)] S) Q:=by
 refine gx (λu:Wk=>u.1 == rm) eQ (λr=>∃x,r=[x,Z (.int rm)]) O ws _ ⟨_,O⟩ ?_ λa _=>h a;rintro u c r ⟨x,rfl⟩;walk_at"w";refine lz (i:=0) O ?_;walk_at"w";refine⟨?_,⟨_,O⟩,λ_=>trivial⟩;rw[bN,beq_iff_eq,beq_iff_eq];lia
theorem Gp {w x y z:D}{S:c6}{r:Ev}{m1 m2 b a:FE}{Q:D×c6->Prop}(h1:m1 r S=some (w,S))(h2:m2 r S=some (x,S))(d:b r S=some (y,S))(c:a r S=some (z,S))
  (q:Q (.ref S.length,S++[.dct [(.inr "came",w),(.inr "chalk",x),(.inr "doors",y),(.inr "others",z)]])):
  W (mU [(mC (.str "came"),m1),(mC (.str "chalk"),m2),(mC (.str "doors"),b),(mC (.str "others"),a)] r S) Q:=by
 refine W.of ?_ q;simp only[mU,yF,mC,h1,h2,d,c,oS1,oP1,rq,pE];rfl
theorem Bn {w x y z:D}{S:c6}{n:Nat}(h:S[n]? = some (.dct [(.inr "came",w),(.inr "chalk",x),(.inr "doors",y),(.inr "others",z)])):
  da (.ref n) (.str "came") S=Z (w,S)/\da (.ref n) (.str "chalk") S=Z (x,S)/\da (.ref n) (.str "doors") S=Z (y,S)/\da (.ref n) (.str "others") S=Z (z,S):=by
 refine⟨?_,?_,?_,?_⟩<;>(simp only[da,h,kO,pE,oS1];rfl)
noncomputable def pL:Nat->D
 |0=>.str "came" |1=>.str "chalk" |2=>.str "doors" |_=>.str "others"
noncomputable def Cb:Nat->D
 |0=>.int 5|1=>.int 2|2=>.int 5|_=>.int 2
noncomputable def gE(a b c d:Bool)(w x y z:Int):Nat->D
 |0=>if a then .int w else .non
 |1=>if b then .int x else .non
 |2=>if c then .int y else .non
 |_=>if d then .int z else .non
theorem uJ {a b c d:Bool}{w x y z:Int}{S:c6}{n:Nat}(h:S[n]? = some (.dct [(.inr "came",.int w),(.inr "chalk",.int x),(.inr "doors",.int y),(.inr "others",.int z)])){i:Nat}(hi:i∈[0,1,2,3]){r:Ev}{f j g:Nat}
  (h1:r[f]?=Z (Z (pL i))) (h2:r[j]?=Z (Z (.tup (eM a b c d)))) (e:r[g]?=Z (Z (.ref n))):
  rj (mB (m2 (b2 hK) (mV f) (mV j))) (m2 (b2 da) (mV g) (mV f)) (mC D.non) r S=Z (gE a b c d w x y z i,S):=by
 obtain⟨o,k,m,l⟩:=Bn h;simp only[aE,bI,or_false]at hi;rcases hi with rfl|rfl|rfl|rfl
 ·cases a<;>simp only[rj,mB,m2,b2,mV,h1,h2,e,pL,oS1,Bt,o,gE,mC]<;>rfl
 ·cases b<;>simp only[rj,mB,m2,b2,mV,h1,h2,e,pL,oS1,yV,k,gE,mC]<;>rfl
 ·cases c<;>simp only[rj,mB,m2,b2,mV,h1,h2,e,pL,oS1,yU,m,gE,mC]<;>rfl
 ·cases d<;>simp only[rj,mB,m2,b2,mV,h1,h2,e,pL,oS1,wg,l,gE,mC]<;>rfl
theorem Ah{w:c9}{ws:List Wk}{cs:List Nat}{a b c d:Bool}{k:Nat}{u:Wk}{row:List (Nat×Nat)}{S:c6}{Q:D×c6->Prop}(m:ws[k]? = Z u)(hr:w[u.1]? = Z row)(o:ws.length<=1000)(q:Q (uB a b c d ws cs u row,S)):W (c7 4 gF [dA w,.tup (eM a b c d),de ws cs,.int k] S) Q:=by
 refine i8 O (by simp[D.unds,eR,fm];rw[D.und];exact⟨ng a b c d,O⟩) ?_;unfold gF;refine kn ?_;unfold nr;refine dL (λr S=>S=[]/\r=[Z (dA w),Z (.tup (eM a b c d)),Z (de ws cs),Z (.int k),Z (.tup (dI ws)),Z (.tup (dF cs)),Y,Y,Y,Y,Y]) ?_ ?_
 ·rw[de];walk_at"w"
 rintro r S ⟨rfl,rfl⟩;refine dL (λr S=>S=[]/\r=[Z (dA w),Z (.tup (eM a b c d)),Z (de ws cs),Z (.int k),Z (.tup (dI ws)),Z (.tup (dF cs)),Z (.int u.1),Z (.int u.2.1),Z (.int u.2.2),Y,Y]) ?_ ?_
 ·walk_at"w";refine lz (i:=k) (x:=eQ u) (by rw[dI,gP1,m];rfl) ?_;rw[eQ];walk_at"w"
 rintro r S ⟨rfl,rfl⟩;refine dL (λr S=>S=[.lst ((ws.filter λv=>v.1 == u.1).map eQ)]/\r=[Z (dA w),Z (.tup (eM a b c d)),Z (de ws cs),Z (.int k),Z (.tup (dI ws)),Z (.tup (dF cs)),Z (.int u.1),Z (.int u.2.1),Z (.int u.2.2),Z (.ref 0),Y]) ?_ ?_
 ·walk_at"w";rw[iQ];refine wm λl=>?_;walk_at"w";have:=cD (λv:Wk=>v.1 == u.1) ws;have h2:((ws.filter λv:Wk=>v.1 == u.1).map eQ).length<=100000:=by rw[lM1];lia
  exact⟨dj h2,trivial⟩
 rintro r S ⟨rfl,rfl⟩;generalize h:[Ob.lst ((ws.filter λv=>v.1 == u.1).map eQ)]=S1;have f:S1[0]?=Z (Ob.lst ((ws.filter λv=>v.1 == u.1).map eQ)):=by rw[<- h];rfl
 refine dL (λr S=>S=S1++[.dct [(.inr "came",.int u.2.1),(.inr "chalk",.int (if cs.contains u.1 then 1 else 0)),(.inr "doors",.int row.length),(.inr "others",.int (if 1<crowd ws u.1 then 1 else 0))]]/\r=[Z (dA w),Z (.tup (eM a b c d)),Z (de ws cs),Z (.int k),Z (.tup (dI ws)),Z (.tup (dF cs)),Z (.int u.1),Z (.int u.2.1),Z (.int u.2.2),Z (.ref 0),Z (.ref S1.length)]) ?_ ?_
 ·unfold dk;rw[db];have hc:(List.map eQ (ws.filter λv=>v.1 == u.1)).length=crowd ws u.1:=by rw[lM1];rfl
  refine Gp (w:=.int u.2.1) (x:=.int (if cs.contains u.1 then 1 else 0)) (y:=.int row.length) (z:=.int (if 1<crowd ws u.1 then 1 else 0)) O ?_ ?_ ?_ ?_
  ·simp only[rj,mB,m2,b2,mV,gC1,cy,oS1,uZ,mC];split<;>rfl
  ·have:W (da (dA w) (.int u.1) S1) λp=>p=(.tup (row.map pD),S1):=vA hr O;obtain⟨p,e,rfl⟩:=this;simp only[mN,c4,c5,m2,b1,b2,mV,gC1,cy,oS1,e,gU,lM1]
  ·simp only[rj,mB,mN,c4,c5,m2,b1,b2,mV,mC,gC1,cy,oS1,eL,fQ f,oP1,jN,hc];by_cases h1:1<crowd ws u.1
   ·rw[ak h1,ak (by rw[al];lia)]
   ·rw[aj h1,aj (by rw[al];lia)]
  ·walk_at"w"
 rintro r S ⟨rfl,rfl⟩;generalize g:S1++[Ob.dct [(.inr "came",.int u.2.1),(.inr "chalk",.int (if cs.contains u.1 then 1 else 0)),(.inr "doors",.int row.length),(.inr "others",.int (if 1<crowd ws u.1 then 1 else 0))]]=S2;have n:S2[S1.length]?=Z (Ob.dct [(.inr "came",.int u.2.1),(.inr "chalk",.int (if cs.contains u.1 then 1 else 0)),(.inr "doors",.int row.length),(.inr "others",.int (if 1<crowd ws u.1 then 1 else 0))]):=by rw[<- g,dV];rfl
 walk_at"w";have j:lX = .tup ([0,1,2,3].map λi:Nat=>D.tup [pL i,Cb i]):=rfl;rw[j,iQ];refine pA (gE a b c d u.2.1 (if cs.contains u.1 then 1 else 0) row.length (if 1<crowd ws u.1 then 1 else 0)) (λr=>∃x y,r=[x,y,Z (.tup (eM a b c d)),Z (.ref S1.length)]) O _ _ ⟨_,_,O⟩ ?_ ?_
 ·rintro i hi r ⟨x,y,rfl⟩;refine⟨([Z (pL i),Z (Cb i),Z (.tup (eM a b c d)),Z (.ref S1.length)],S2),O,?_⟩;refine⟨(M,S2),O,O,?_⟩;exact⟨_,uJ n hi O O O,O,O,_,_,O⟩
 ·rintro l _;walk_at"w";refine dM (xs:=[gE a b c d u.2.1 (if cs.contains u.1 then 1 else 0) row.length (if 1<crowd ws u.1 then 1 else 0) 0,gE a b c d u.2.1 (if cs.contains u.1 then 1 else 0) row.length (if 1<crowd ws u.1 then 1 else 0) 1,gE a b c d u.2.1 (if cs.contains u.1 then 1 else 0) row.length (if 1<crowd ws u.1 then 1 else 0) 2,gE a b c d u.2.1 (if cs.contains u.1 then 1 else 0) row.length (if 1<crowd ws u.1 then 1 else 0) 3]) (by rw[dV];rfl) ?_;exact⟨nU,q⟩
noncomputable def pt(b:Bool)(x:Nat):D:=if b=M then .int x else .non
noncomputable def Hj(a b c d:Bool)(x y z w:Nat):D:=.tup [pt a x,pt b y,pt c z,pt d w]
noncomputable def m5:List D:=[.str "leave",.str "mark",.str "wipe"]
noncomputable def nR:List D:=[.non,.int 0,.int 1,.int 2,.int 3]
structure fH (x:D):Prop where
 is:∃m h t,x = .tup [.int (m:Nat),h,t]/\m<4000/\h∈m5/\t∈nR
theorem fH.und{x:D}(h:fH x):x.und 0=M:=by
 obtain⟨m,x,t,rfl,_,h1,h2⟩:=h.is;have a:x.und 0=M:=by simp[m5]at h1;rcases h1 with z|z|z<;>subst z<;>rfl
 have b:t.und 0=M:=by simp[nR]at h2;rcases h2 with z|z|z|z|z<;>subst z<;>rfl
 simp[D.und,D.unds,a,b]
noncomputable def cx(b:Bool)(x:Nat):Nat:=if b=M then x else 0
noncomputable def nJ:List Bool->List Nat->Nat
 |b::bs,x::xs=>cx b x*8^bs.length+nJ bs xs
 |_,_=>0
theorem pQ:∀{bs:List Bool} {xs:List Nat},(∀x∈xs,x<=7)->nJ bs xs<8^bs.length
 |[],_,_=>by rw[nJ];simp;simp
 |b::bs,[],_=>by
  rw[nJ]
  ·exact Nat.pos_of_ne_zero (by simp)
  ·simp
 |b::bs,x::xs,h=>by
  have h1:=pQ (bs:=bs) λy a=>h y (mC1 _ a);have h2:cx b x<=7:=by unfold cx;split;exact h x mS1;lia
  rw[nJ,lC1,Nat.pow_succ];have c:cx b x*8^bs.length<=7*8^bs.length:=cF _ h2;lia
theorem Jg{S:c6}{n:Nat}{xs ys:List D}:lT S (n+1) (.tup xs) (.tup ys)=zn (lT S n) xs ys:=by
 rw[lT];simp[dn]
theorem Gm{S:c6}{n:Nat}{b:Bool}{x y:Nat}:lT S (n+1) (pt b x) (pt b y)=Z (decide (cx b x=cx b y)):=by
 cases b with
 |false=>rfl
 |true=>
  show Z ((x:Int) == (y:Int))=Z (decide (x=y))
  congr 1
  rw[bN,beq_iff_eq,al];lia
theorem Io{A B P u v:Nat}(a:u<P)(hv:v<P):(A*P+u=B*P+v↔A=B/\u=v)/\(A*P+u<B*P+v↔A<B\/(A=B/\u<v)):=by
 rcases Nat.lt_trichotomy A B with h|h|h
 ·have:=cF P (show A+1<=B from h);rw[Nat.succ_mul]at this;constructor<;>lia
 ·subst h;constructor<;>lia
 ·have:=cF P (show B+1<=A from h);rw[Nat.succ_mul]at this;constructor<;>lia
theorem zm{S:c6}{n:Nat}:∀ {bs:List Bool} {xs ys:List Nat},xs.length=bs.length->ys.length=bs.length->(∀ x∈xs,x<=7)->(∀ y∈ys,y<=7) ->
  zn (lT S (n+1)) (List.zipWith pt bs xs) (List.zipWith pt bs ys)=Z (decide (nJ bs xs=nJ bs ys))
 |[],xs,ys,_,_,_,_=>by simp[zn,nJ]
 |b::bs,[],ys,h,_,_,_=>by simp at h
 |b::bs,x::xs,[],_,h,_,_=>by simp at h
 |b::bs,x::xs,y::ys,h1,h2,hx,hy=>by
  have ih:=zm (S:=S) (n:=n) (bs:=bs) (xs:=xs) (ys:=ys) (by simpa using h1) (by simpa using h2) (λz a=>hx z (mC1 _ a)) (λz a=>hy z (mC1 _ a));have b1:=pQ (bs:=bs) (xs:=xs) λz a=>hx z (mC1 _ a);have b2:=pQ (bs:=bs) (xs:=ys) λz a=>hy z (mC1 _ a);rw[List.zipWith_cons_cons,List.zipWith_cons_cons,zn,Gm,ih,nJ,nJ];have c:=(Io (A:=cx b x) (B:=cx b y) b1 b2).1;rw[oS1,oP1]
  congr 1
  rw[bN,bA1,al,al,al];exact c.symm
structure Ky where
 m:Nat
 x:Nat
 y:Nat
 z:Nat
 w:Nat
structure Ky.Ok (k:Ky):Prop where
 m:k.m<4000
 x:k.x<=4
 y:k.y<=4
 z:k.z<=4
 w:k.w<=4
abbrev E4:=Bool×Bool×Bool×Bool
noncomputable def E4.bs(e:E4):List Bool:=[e.1,e.2.1,e.2.2.1,e.2.2.2]
noncomputable def Ky.xs(k:Ky):List Nat:=[k.x,k.y,k.z,k.w]
noncomputable def B9(b:Bool)(x:Nat):TK:=if b=M then .int x else .non
noncomputable def Ky.sg(k:Ky)(e:E4):D:=Hj e.1 e.2.1 e.2.2.1 e.2.2.2 k.x k.y k.z k.w
noncomputable def Ky.d(k:Ky)(e:E4):D:=.tup [.int k.m,k.sg e]
noncomputable def Ky.tk(k:Ky)(e:E4):TK:=.tup [.int k.m,.tup [B9 e.1 k.x,B9 e.2.1 k.y,B9 e.2.2.1 k.z,B9 e.2.2.2 k.w]]
noncomputable def Ky.code(k:Ky)(e:E4):Nat:=k.m*4096+nJ e.bs k.xs
theorem Ky.keyT(k:Ky)(e:E4):Mi.keyT (k.d e)=Z (k.tk e):=by
 obtain⟨a,b,c,d⟩:=e;cases a<;>cases b<;>cases c<;>cases d<;>rfl
theorem Ky.tkD(k:Ky)(e:E4):Mi.tkD (k.tk e)=k.d e:=(uU (k.keyT e)).1
theorem Ky.sg_zip(k:Ky)(e:E4):k.sg e = .tup (List.zipWith pt e.bs k.xs):=rfl
theorem Ky.Ok.all{k:Ky}(h:k.Ok):∀x∈k.xs,x<=7:=by
 intro x a;have:=h.x;have:=h.y;have:=h.z;have:=h.w
 simp[Ky.xs]at a;lia
theorem ij{k:Ky}(h:k.Ok)(e:E4):nJ e.bs k.xs<4096:=pQ (bs:=e.bs) h.all
theorem Ky.und(k:Ky)(e:E4)(n:Nat):(k.d e).und n=M:=by
 rw[<- k.tkD e];exact xa _
theorem Ky.sgu(k:Ky)(e:E4)(n:Nat):(k.sg e).und n=M:=by
 have:=k.und e n;unfold Ky.d at this;simp only[D.und,D.unds,bJ,Bool.true_and]at this;exact this
noncomputable def dO(F:List (TK×D)):Ob:=match F with
 |[]=>.dct []
 |_=>.dcT F
structure RW (e:E4)(F:List (TK×D)):Prop where
 row:∀p∈F,∃k:Ky,k.Ok/\p.1=k.tk e/\fH p.2
 nd:(F.map (·.1)).Nodup
abbrev Rw:=Ky×D
noncomputable def ea(e:E4)(p:Rw):D:=.tup [p.1.d e,p.2]
def e9(p:Rw):Prop:=p.1.Ok/\fH p.2
theorem RW.list{e:E4}:∀{F:List (TK×D)},(∀p∈F,∃k:Ky,k.Ok/\p.1=k.tk e/\fH p.2) -> ∃L:List Rw,L.map (λp=>(p.1.tk e,p.2))=F /\ ∀p∈L,e9 p
 |[],_=>⟨[],O,λp a=>by cases a⟩
 |x::F,h=>by
  obtain⟨L,h1,h2⟩:=RW.list (F:=F) λp a=>h p (mC1 _ a);obtain⟨k,d,b,c⟩:=h x mS1;refine⟨(k,x.2)::L,by rw[mP1,h1,<- b],λp a=>?_⟩;rcases aE.mp a with z|z
  ·subst z;exact⟨d,c⟩
  ·exact h2 p z
theorem CY(b:Bool)(x:Nat):B9 b x=if b=M then .int (cx b x)else .non:=by unfold B9 cx;cases b<;>rfl
theorem vf{b:Bool}{x y:Nat}(h:B9 b x=B9 b y):cx b x=cx b y:=by
 cases b with
 |false=>rfl
 |true=>
  have h':TK.int (x:Int)=TK.int (y:Int):=h;injection h' with h';exact(by lia:x=y)
theorem Gw(a b c d x y z w:_):nJ [a,b,c,d] [x,y,z,w]=((cx a x*8+cx b y)*8+cx c z)*8+cx d w:=by
 simp only[nJ,lC1,bh];lia
theorem uw{k l:Ky}{e:E4}(hk:k.Ok)(f:l.Ok):k.tk e=l.tk e↔k.code e=l.code e:=by
 obtain⟨a,b,c,d⟩:=e;have m:k.code (a,b,c,d)=k.m*4096+(((cx a k.x*8+cx b k.y)*8+cx c k.z)*8+cx d k.w):=by unfold Ky.code;rw[<- Gw];rfl
 have r:l.code (a,b,c,d)=l.m*4096+(((cx a l.x*8+cx b l.y)*8+cx c l.z)*8+cx d l.w):=by unfold Ky.code;rw[<- Gw];rfl
 have le:∀(b:Bool) (x:Nat),x<=4->cx b x<=4:=λb x h=>by unfold cx;split<;>lia
 rw[m,r];constructor
 ·intro h;unfold Ky.tk at h;injection h with h;injection h with h1 h2;injection h1 with h1;injection h2 with h2 _;injection h2 with h2;injection h2 with p h2;injection h2 with p2 h2;injection h2 with i h2;injection h2 with s _;rw[vf p,vf p2,vf i,vf s,show k.m=l.m by lia]
 ·intro h;have w:=le a _ hk.x;have u:=le b _ hk.y;have z:=le c _ hk.z;have A:=le d _ hk.w
  have t:=le a _ f.x;have r2:=le b _ f.y;have v:=le c _ f.z;have y:=le d _ f.w
  have q:k.m=l.m:=by lia
  have n:cx a k.x=cx a l.x:=by lia
  have g:cx b k.y=cx b l.y:=by lia
  have o:cx c k.z=cx c l.z:=by lia
  have j:cx d k.w=cx d l.w:=by lia
  unfold Ky.tk;simp only[CY,q,n,g,o,j]
def Inc(e:E4)(L:List Rw):Prop:=L.Pairwise λp q=>p.1.code e<q.1.code e
theorem rO{α:Type}{f:α->Nat}{c:Nat}{a:α}:∀{l:List α},(l.map f).Nodup->((l.find? λx=>decide (f x=c))=Z a↔a∈l/\f a=c)
 |[],_=>by simp
 |b::l,nd=>by
  rw[mP1,aM]at nd;rw[bf];by_cases z:f b=c
  ·rw[ah z];constructor
   ·intro h;cases h;exact⟨mS1,z⟩
   ·rintro⟨h1,h2⟩;rcases aE.mp h1 with y|y
    ·rw[y]
    ·exact absurd (b6.mpr ⟨a,y,h2.trans z.symm⟩) nd.1
  ·rw[ai z];show(l.find? λx=>decide (f x=c))=Z a↔_;rw[rO nd.2];constructor
   ·rintro⟨h1,h2⟩;exact⟨mC1 _ h1,h2⟩
   ·rintro⟨h1,h2⟩;rcases aE.mp h1 with y|y
    ·rw[y]at h2;exact absurd h2 z
    ·exact⟨y,h2⟩
theorem Inc.le{e:E4}{L:List Rw}(h:Inc e L)(ok:∀p∈L,e9 p){i j:Nat}{p q:Rw}(hi:L[i]?=Z p)(a:L[j]?=Z q)(c:i<=j):p.1.m<=q.1.m/\(i<j->p.1.code e<q.1.code e):=by
 have g:=(ok p (gM1 hi)).1;have f:=(ok q (gM1 a)).1;by_cases z:i=j
 ·subst z;rw[hi]at a;cases a;exact⟨nR1 _,λz=>by lia⟩
 ·obtain⟨h1,b⟩:=gE1.mp hi;obtain⟨h2,d⟩:=gE1.mp a;have:=List.pairwise_iff_getElem.mp h i j h1 h2 (by lia);rw[b,d]at this;refine⟨?_,λ_=>this⟩;have k:=ij g e;have l:=ij f e;unfold Ky.code at this;lia
theorem HA{e:E4}{L:List Rw}{i:Nat}{p:Rw}{S:c6}(h:L[i]?=Z p):da (.tup (L.map (ea e))) (.int (i:Nat)) S=Z (ea e p,S):=by
 obtain⟨x,a,b⟩:=(lz (i:=i) (xs:=L.map (ea e)) (x:=ea e p) (S:=S) (Q:=λx=>x=(ea e p,S)) (by rw[gP1,h];rfl) O);rw[a,b]
theorem HB{e:E4}{p:Rw}{S:c6}:da (ea e p) (.int 0) S=Z (p.1.d e,S):=rfl
theorem Jb{e:E4}{p:Rw}{S:c6}:da (ea e p) (.int 1) S=Z (p.2,S):=rfl
theorem Ik{e:E4}{k:Ky}{S:c6}:da (k.d e) (.int 0) S=Z (.int k.m,S):=rfl
theorem Ja{e:E4}{k:Ky}{S:c6}:da (k.d e) (.int 1) S=Z (k.sg e,S):=rfl
theorem my{e:E4}{L:List Rw}(ok:∀p∈L,e9 p)(n:Nat):(D.tup (L.map (ea e))).und n=M:=by
 rw[D.und];refine Mi.dv λp a=>?_;have h1:=p.1.und e n;have h2:=d6 (n:=n) (ok p a).2.und;simp[ea,D.und,D.unds,h1,h2]
theorem D1{e:E4}{L:List Rw}{S:c6}:eL (.tup (L.map (ea e))) S=Z (.int L.length,S):=by simp[eL,dn]
theorem B1{c:FT}{b:FS}{Q:Fl×Ev×c6->Prop}(I:Nat->Ev->c6->Prop)(N:Nat)(step:∀k r S,I k r S->W (c r S) fun p=>if p.1=true then k<N/\W (b r p.2) fun q=>q.1 = .nx/\I (k+1) q.2.1 q.2.2 else Q (.nx,r,p.2)):
  ∀(a k:Nat) (r:Ev) (S:c6),N-k<a->I k r S->W (qa c b a r S) Q
 |0,k,r,S,hf,_=>by lia
 |a+1,k,r,S,hf,hi=>by
  rw[qa];dsimp only;rw[db];obtain⟨⟨t,n⟩,e,h⟩:=step k r S hi;refine⟨_,e,?_⟩;dsimp only at h ⊢;cases t with
  |true=>
   rw[ak O]at h ⊢;obtain⟨m,⟨f,i,j⟩,l,d,g⟩:=h;dsimp only at d g;subst d;rw[l,oS1];exact B1 I N step a (k+1) i j (by lia) g
  |false=>
   rw[aj (by decide)]at h ⊢;exact dJ.mpr h
theorem BB{e:E4}{L:List Rw}{q:Nat}{S:c6}{Q:D×c6->Prop}(g:Inc e L)(ok:∀ p∈L,e9 p)(v:L.length<=4000)(h:∀a:Nat,a<=L.length->(∀i p,L[i]?=Z p->i<a->p.1.m<q)->(∀i p,L[i]?=Z p->a<=i->q<=p.1.m)->Q (.int a,S)):W (c7 2 gG [.tup (L.map (ea e)),.int (q:Nat)] S) Q:=by
 refine i8 O (by rw[D.unds,my ok,D.unds,D.und];rfl) ?_;unfold gG;refine kn ?_;unfold nt;generalize s:D.tup (L.map (ea e))=R;refine dL (λr S=>S=[]/\r=[Z R,Z (.int (q:Nat)),Z (.int ((0:Nat):Int)),Y,Y]) ?_ ?_
 ·walk_at"w";rfl
 rintro r o ⟨rfl,rfl⟩;refine dL (λr S=>S=[]/\r=[Z R,Z (.int (q:Nat)),Z (.int ((0:Nat):Int)),Z (.int (L.length:Nat)),Y]) ?_ ?_
 ·subst s
  ((try walk_at"w");repeat(simp only[D1];try walk_at"w"))
  rw[lM1]
 rintro r o ⟨rfl,rfl⟩;refine dL (λr S=>∃(a:Nat) (d:Option D),S=[]/\a<=L.length/\(∀i p,L[i]?=Z p->i<a->p.1.m<q)/\(∀i p,L[i]?=Z p->a<=i->q<=p.1.m)/\r=[Z R,Z (.int (q:Nat)),Z (.int (a:Nat)),Z (.int (a:Nat)),d]) ?_ ?_
 ·refine B1 (λk r S=>∃(a high:Nat) (d:Option D),S=[]/\a<=high/\high<=L.length/\high-a+k<=L.length/\(∀i p,L[i]?=Z p->i<a->p.1.m<q)/\(∀i p,L[i]?=Z p->high<=i->q<=p.1.m)/\r=[Z R,Z (.int (q:Nat)),Z (.int (a:Nat)),Z (.int (high:Nat)),d]) L.length ?_ 100000 0 _ _ (by lia) ⟨0,L.length,_,O,by lia,by lia,by lia,λi p _ z=>by lia,λi p c z=>?_,O⟩
  ·rintro k r S ⟨a,high,d,rfl,h1,h2,m,n,l,rfl⟩;unfold j9;walk_at"w";by_cases z:a<high
   ·rw[ak (by rw[al];lia)];refine⟨by lia,?_⟩;unfold j8;have f:(a+high)/2<L.length:=by lia
    obtain⟨p,c⟩:∃p,L[(a+high)/2]?=some p:=⟨_,gG1 f⟩;have j:rJ (.int ((a:Int)+(high:Int))) (.int 2) []=Z (.int (((a+high)/2:Nat):Int),[]):=by
     simp only[rJ];rw[ak ⟨by lia,by lia⟩]
     push_cast
     rfl
    subst s
    ((try walk_at"w");repeat(simp only[j,HA c,HB,Ik];try walk_at"w"))
    by_cases t:p.1.m<q
    ·rw[ak (by rw[al];lia)];refine⟨(a+high)/2+1,high,_,by lia,h2,by lia,λi u b hi=>?_,l,by push_cast;rfl⟩;exact bE (g.le ok b c (by lia)).1 t
    ·rw[aj (by rw[al];lia)];refine⟨a,(a+high)/2,_,by lia,by lia,by lia,n,λi u b hi=>?_,O⟩;exact aC (by lia) (g.le ok c b hi).1
   ·rw[aj (by rw[al];lia)];have:a=high:=by lia
    subst this;exact⟨a,_,h2,n,l,O⟩
  ·have:=(gE1.mp c).1;lia
 rintro r o ⟨a,d,rfl,h1,h2,m,rfl⟩;walk_at"w";exact⟨O,h a h1 h2 m⟩
theorem w6{c:FT}{b:FS}{Q:Fl×Ev×c6->Prop}(I:Nat->Ev->c6->Prop)(N:Nat)(step:∀k r S,I k r S->W (c r S) fun p=>if p.1=true then k<N/\W (b r p.2) fun q=>(q.1 = .nx/\I (k+1) q.2.1 q.2.2) \/ ∃d,q.1 = .rt d/\Q q else Q (.nx,r,p.2)):
  ∀(a k:Nat) (r:Ev) (S:c6),N-k<a->I k r S->W (qa c b a r S) Q
 |0,k,r,S,hf,_=>by lia
 |a+1,k,r,S,hf,hi=>by
  rw[qa];dsimp only;rw[db];obtain⟨⟨t,u⟩,e,h⟩:=step k r S hi;refine⟨_,e,?_⟩;dsimp only at h ⊢;cases t with
  |true=>
   rw[ak O]at h ⊢;obtain⟨s,⟨f,l,m⟩,o,j⟩:=h;rw[o,oS1];rcases j with⟨g,i⟩|⟨d,g,n⟩
   ·dsimp only at g i;subst g;exact w6 I N step a (k+1) l m (by lia) i
   ·dsimp only at g;subst g;exact dJ.mpr n
  |false=>
   rw[aj (by decide)]at h ⊢;exact dJ.mpr h
theorem Gk{k l:Ky}{e:E4}{S:c6}(hk:k.Ok)(a:l.Ok):oz (k.sg e) (l.sg e) S=Z (.bl (decide (nJ e.bs k.xs=nJ e.bs l.xs)),S):=by
 show(lT S (58+1+1) (k.sg e) (l.sg e)).map _=_;rw[Ky.sg_zip,Ky.sg_zip,Jg,zm O O hk.all a.all];rfl
theorem Inc.nd{e:E4}:∀{L:List Rw},Inc e L->(L.map λp=>p.1.code e).Nodup:=λh=>
 cw.mpr (List.Pairwise.imp (λz=>nN1 z) h)
noncomputable def nH(k:Ky):D:=.tup [.int k.m,.str "leave",.non]
noncomputable def kQ(e:E4)(L:List Rw)(k:Ky):D:=((L.find? λp=>decide (p.1.code e=k.code e)).map (·.2)).getD (nH k)
theorem rZ{e:E4}{L:List Rw}{k:Ky}{E:D}{S:c6}{Q:D×c6->Prop}(l:Inc e L)(ok:∀ p∈L,e9 p)(am:L.length<=4000)(hk:k.Ok)(F:E.und 0=M)(q:Q (kQ e L k,S)):W (c7 3 eV [.tup [E,.tup (L.map (ea e))],.int k.m,k.sg e] S) Q:=by
 refine i8 O (by
  have C:=my (e:=e) ok 0;have r2:=k.sgu e 0;rw[D.und]at C;simp[D.unds,D.und,F,C,r2]) ?_
 unfold eV;refine kn ?_;unfold oR;generalize au:D.tup [E,.tup (L.map (ea e))]=ao;refine dL (λr S=>S=[]/\r=[Z ao,Z (.int k.m),Z (k.sg e),Z (.tup (L.map (ea e))),Y]) ?_ ?_
 ·subst au;have H:da (.tup [E,.tup (L.map (ea e))]) (.int 1) []=Z (.tup (L.map (ea e)),[]):=rfl
  ((try walk_at"w");repeat(simp only[H];try walk_at"w"))
 rintro r N ⟨rfl,rfl⟩;refine dL (λr S=>∃a:Nat,S=[]/\a<=L.length/\(∀i p,L[i]?=Z p->i<a->p.1.m<k.m)/\(∀i p,L[i]?=Z p->a<=i->k.m<=p.1.m)/\r=[Z ao,Z (.int k.m),Z (k.sg e),Z (.tup (L.map (ea e))),Z (.int (a:Nat))]) ?_ ?_
 ·walk_at"w";refine BB l ok am λa h1 h2 y=>?_;exact⟨a,O,h1,h2,y,O⟩
 rintro r N ⟨a,rfl,h1,h2,y,rfl⟩;have hnd:=l.nd;have d:(∀(i:Nat) (p:Rw),L[i]?=Z p->p.1.code e≠k.code e)->kQ e L k=nH k:=λh=>by
  unfold kQ;rw[List.find?_eq_none.mpr λp c=>?_]
  ·rfl
  ·obtain⟨i,hi⟩:=br c;rw[al];exact h i p hi
 have o:∀p,p∈L->p.1.m≠k.m->p.1.code e≠k.code e:=λp c s z=>by
  have:=(Io (A:=p.1.m) (B:=k.m) (ij (ok p c).1 e) (ij hk e)).1.mp z;exact s this.1
 unfold di;refine db.mpr ?_;refine w6 (λj r S=>S=[]/\a+j<=L.length/\(∀i p,L[i]?=Z p->i<a+j->p.1.code e≠k.code e)/\r=[Z ao,Z (.int k.m),Z (k.sg e),Z (.tup (L.map (ea e))),Z (.int ((a+j:Nat):Int))]) L.length ?_ 100000 0 _ _ (by lia) ⟨O,by lia,λi p c hi=>o p (gM1 c) (by have:=h2 i p c (by lia);lia),O⟩;rintro j r S ⟨rfl,P,t,rfl⟩;unfold k8;by_cases w:a+j<L.length
 ·obtain⟨p,c⟩:∃p,L[a+j]?=some p:=⟨_,gG1 w⟩;have m:=gM1 c
  ((try walk_at"w");repeat(simp only[D1,HA c,HB,Ik,lM1];try walk_at"w"))
  rw[ak (by rw[al];lia)];by_cases I:p.1.m=k.m
  ·rw[ak (by rw[beq_iff_eq];lia)];refine⟨by lia,?_⟩;unfold k7
   ((try walk_at"w");repeat(simp only[HA c,HB,Ja,Jb,Gk (ok p m).1 hk];try walk_at"w"))
   have g:p.1.code e=k.code e↔nJ e.bs p.1.xs=nJ e.bs k.xs:=by unfold Ky.code;rw[I];lia
   by_cases hc:nJ e.bs p.1.xs=nJ e.bs k.xs
   ·rw[ak (ah hc)];right;have G:(L.find? λp=>decide (p.1.code e=k.code e))=Z p:=(rO (f:=λp:Rw=>p.1.code e) hnd).mpr ⟨m,g.mpr hc⟩;have K:kQ e L k=p.2:=by unfold kQ;rw[G];rfl
    rw[K]at q;exact⟨_,O,(ok p m).2.und,q⟩
   ·rw[aj (by rw[al];exact hc)];refine W.of (x:=(.nx,[Z ao,Z (.int k.m),Z (k.sg e),Z (.tup (L.map (ea e))),Z (.int (((a+j:Nat):Int)+1))],[])) O ?_;left;refine⟨O,O,by lia,λi n b hi=>?_,by push_cast;rfl⟩;by_cases v:i=a+j
    ·subst v;rw[c]at b;cases b;exact λz=>hc (g.mp z)
    ·exact t i n b (by lia)
  ·rw [if_neg (by rw [beq_iff_eq];lia)];have u:kQ e L k=nH k:=d fun i n b=>by
    by_cases hi:i<a+j
    ·exact t i n b hi
    ·have b1:=y (a+j) p c (by lia);have b2:=(l.le ok c b (by lia)).1;exact o n (gM1 b) (by lia)
   rw[u]at q;exact⟨O,q⟩
 ·((try walk_at"w");repeat(simp only[D1,lM1];try walk_at"w"))
  rw[aj (by rw[al];lia)];have u:kQ e L k=nH k:=d λi n b=>by
   have:=(gE1.mp b).1;exact t i n b (by lia)
  rw[u]at q;exact⟨O,q⟩
noncomputable def dm:D->Nat
 | .tup [.int m,_,_]=>m.toNat
 |_=>0
noncomputable def dh:D->Str
 | .tup [_,.str h,_]=>h
 |_=>""
noncomputable def dt:D->Option Nat
 | .tup [_,_,.int t]=>Z t.toNat
 |_=>Y
noncomputable def tD:Option Nat->D
 |none=>.non
 |some t=>.int (t:Nat)
theorem fH.eta{x:D}(h:fH x):x = .tup [.int (dm x:Nat),.str (dh x),tD (dt x)]/\dm x<4000:=by
 obtain⟨m,y,t,rfl,a,h1,h2⟩:=h.is;simp only[m5,aE,bI,or_false]at h1;simp only[nR,aE,bI,or_false]at h2;rcases h1 with e|e|e<;>subst e<;>rcases h2 with e|e|e|e|e<;>subst e<;>exact⟨O,a⟩
noncomputable def fe(w:c9)(u:Wk)(x:D):Wk:=match dt x with
 |some t=>match (w[u.1]?).bind (·[t]?)with
  |some p=>(p.1,p.2+1,dm x)
  |none=>(u.1,u.2.1,dm x)
 |none=>(u.1,u.2.1,dm x)
theorem yR{t:Nat}{S:c6}:Bx (.int (t:Nat)) .non S=Z (.bl J,S):=rfl
theorem D8{S:c6}:Bx .non .non S=Z (.bl M,S):=rfl
theorem vL{w:c9}{u:Wk}{row:List (Nat×Nat)}{x:D}{S:c6}{Q:D×c6->Prop}(hr:w[u.1]?=Z row)(hx:fH x)(q:Q (eQ (fe w u x),S)):W (c7 3 ib [dA w,eQ u,x] S) Q:=by
 refine i8 O (by simp[D.unds,eR,hx.und];rfl) ?_;unfold ib;refine kn ?_;unfold oP;have ex:=hx.eta.1;unfold fe at q;simp only[hr,oS1]at q;generalize n:dm x=m at *
 generalize l:dh x=h at *
 generalize o:dt x=t at *
 refine dL (λr V=>V=[]/\r=[Z (dA w),Z (eQ u),Z x,Z (.int u.1),Z (.int u.2.1),Z (.int u.2.2),Y,Y,Y,Y,Y]) ?_ ?_
 ·generalize k:eQ u=U;have d:U = .tup [.int u.1,.int u.2.1,.int u.2.2]:=k.symm;subst d;walk_at"w"
 rintro r V ⟨rfl,rfl⟩;refine dL (λr V=>V=[]/\r=[Z (dA w),Z (eQ u),Z x,Z (.int u.1),Z (.int u.2.1),Z (.int u.2.2),Z (.int (m:Nat)),Z (.str h),Z (tD t),Y,Y]) ?_ ?_
 ·subst ex;walk_at"w"
 rintro r V ⟨rfl,rfl⟩;cases t with
 |none=>
  have c:tD Y = .non:=rfl;rw[c]
  ((try walk_at"w");repeat(simp only[D8];try walk_at"w"))
  exact⟨O,q⟩
 |some t=>
  have c:tD (Z t) = .int (t:Nat):=rfl;rw[c];have b:∀a,da (dA w) (.int (u.1:Nat)) a=Z (.tup (row.map pD),a):=λa=>by
   obtain⟨p,e,h⟩:W (da (dA w) (.int (u.1:Nat)) a) λp=>p=(.tup (row.map pD),a):=vA hr O;rw[e,h]
  dsimp only at q;by_cases g:t<row.length
  ·have f:=gG1 g;rw[f]at q;refine dL (λr V=>V=[]/\r=[Z (dA w),Z (eQ u),Z x,Z (.int u.1),Z (.int u.2.1),Z (.int u.2.2),Z (.int (m:Nat)),Z (.str h),Z (.int (t:Nat)),Y,Y]) ?_ ?_
   ·((try walk_at"w");repeat(simp only[yR,b,gU,lM1];try walk_at"w"))
    rw[aj (by rw[al];lia)];trivial
   rintro r V ⟨rfl,rfl⟩;have j:∀a,da (.tup (row.map pD)) (.int (t:Nat)) a=Z (pD row[t],a):=λa=>by
    obtain⟨p,e,h⟩:W (da (.tup (row.map pD)) (.int (t:Nat)) a) λp=>p=(pD row[t],a):=lz (by rw[gP1,f];rfl) O;rw[e,h]
   generalize row[t]=p at *
   refine dL (λr V=>V=[]/\r=[Z (dA w),Z (eQ u),Z x,Z (.int u.1),Z (.int u.2.1),Z (.int u.2.2),Z (.int (m:Nat)),Z (.str h),Z (.int (t:Nat)),Z (.int p.1),Z (.int p.2)]) ?_ ?_
   ·((try walk_at"w");repeat(simp only[b,j,pD];try walk_at"w"))
   rintro r V ⟨rfl,rfl⟩;walk_at"w";have i:(1:Int)+(p.2:Int)=((p.2+1:Nat):Int):=by lia
   rw[i];exact⟨O,q⟩
  ·rw[bU (by lia)]at q
   ((try walk_at"w");repeat(simp only[yR,b,gU,lM1];try walk_at"w"))
   rw[ak (by rw[al];lia)];exact⟨O,q⟩
abbrev Pr:=Wk×D
noncomputable def kS(ps:List Pr):List Wk:=ps.map (·.1)
noncomputable def tX(ps:List Pr):List D:=ps.map (·.2)
theorem B0(ps:List Pr):dI (kS ps)=ps.map λp=>eQ p.1:=by unfold dI kS;rw[bu];rfl
theorem oe{S:c6}{x n:Nat}{cs:List Nat}(h:S[n]?=Z (.lst (dF cs))):iB (.int x) (.ref n) S=Z (.bl (!cs.contains x),S):=by
 simp only[iB,jj,m6,h,dn,oS1,eh,show(60:Nat)=59+1 from rfl,pH,oP1]
theorem Ea{S:c6}{x n:Nat}{cs:List Nat}(h:S[n]?=Z (.lst (dF cs))):hK (.int x) (.ref n) S=Z (.bl (cs.contains x),S):=by
 simp only[hK,tU,EN,h,dn,oS1,eh,show(60:Nat)=59+1 from rfl,pH,oP1]
theorem Bm{x:D}(h:fH x)(S:c6):da x (.int 1) S=Z (.str (dh x),S):=by
 have e:=h.eta.1;generalize dm x=a at e;generalize dt x=c at e;generalize dh x=b at *
 subst e;rfl
theorem uW{u:Wk}{S:c6}:da (eQ u) (.int 0) S=Z (.int u.1,S):=rfl
theorem Bk{u:Wk}{S:c6}:da (eQ u) (.int 2) S=Z (.int u.2.2,S):=rfl
noncomputable def pz(ps:List Pr)(h:Str)(r:Nat):Bool:=ps.any λp=>p.1.1 == r&&dh p.2 == h
noncomputable def gJ(m:Nat)(ps:List Pr)(cs:List Nat):List Nat:=(af m).filter λr=>pz ps "mark" r||(cs.contains r && !pz ps "wipe" r)
theorem Dw(a b:List Nat):dF a++dF b=dF (a++b):=by simp[dF]
noncomputable def nA(ps:List Pr)(h:Str):List Nat:=(ps.filter λp=>dh p.2 == h).map (·.1.1)
theorem vw{ps:List Pr}{h:Str}{r:Nat}:r∈nA ps h↔pz ps h r=M:=by
 unfold nA pz;rw[b6,bO];constructor
 ·rintro⟨u,a,rfl⟩;obtain⟨h1,h2⟩:=aA.mp a;exact⟨u,h1,by simp[h2]⟩
 ·rintro⟨u,a,e⟩;rw[bA1,beq_iff_eq]at e;exact⟨u,aA.mpr ⟨a,e.2⟩,e.1⟩
theorem y0{h:Str}{ps:List Pr}{n:Nat}{S:c6}{Q:D×c6->Prop}{m:FA}{r:Ev}(hd:∀ p∈ps,fH p.2)(d:ps.length<=8)(a:S[n]? = Z (.lst (tX ps)))(hm:m r S=Z ([.tup (dI (kS ps)),.ref n],S))(hr:rB 2 [] r=[Y,Y])(q:Q (.ref S.length,S++[.lst (dF (nA ps h))])):W (d4 2 [] (Ce m) (gT 2 (gCs (gN 0) (gCs (gN 1) gNl))) (mB (m2 (b2 oz) (m2 (b2 da) (mV 1) (mC (D.int (1)))) (mC (D.str h)))) (dW (m2 (b2 da) (mV 0) (mC (D.int (0))))) r S) Q:=by
 rw[iC];refine zF hm a ?_;dsimp only;rw[hr,B0,tX,sF];refine gx (λp:Pr=>dh p.2 == h) (λp:Pr=>D.int p.1.1) (λr=>∃x y,r=[x,y]) (fi a) ps _ ⟨_,_,O⟩ ?_ λc _=>?_
 ·rintro u b r ⟨x,y,rfl⟩
  ((try walk_at"w");repeat(simp only[Bm (hd u b)];try walk_at"w"))
  refine⟨⟨_,_,O⟩,λ_=>?_⟩
  ((try walk_at"w");repeat(simp only[uW];try walk_at"w"))
 ·have e:(ps.filter λp:Pr=>dh p.2 == h).map (λp:Pr=>D.int (p.1.1:Nat))=dF (nA ps h):=by unfold dF nA;rw[bu];rfl
  rw[e];have f:=cD (λp:Pr=>dh p.2 == h) ps;refine⟨dj ?_,q⟩;dsimp only;rw[fA];unfold nA;rw[lM1];lia
theorem wj{m:Nat}{ps:List Pr}{cs:List Nat}{n:Nat}{S:c6}{Q:D×c6->Prop}(hd:∀ p∈ps,fH p.2)(v:ps.length<=8)(hc:cs.length<=8)(hw:∀ p∈ps,p.1.1<m)(j:∀ r∈cs,r<m)(l:S[n]? = Z (.lst (tX ps)))(o:S.all (Ob.und S.length)=M)(q:Q (.tup (dF (gJ m ps cs)),S)):W (c7 2 ic [de (kS ps) cs,.ref n] S) Q:=by
 refine ln O (by simp[D.unds,D.und]) ?_;unfold ic;refine kn ?_;unfold oQ;have C:=(gE1.mp l).1;refine dL (λr V=>V=S/\r=[Z (de (kS ps) cs),Z (.ref n),Z (.tup (dI (kS ps))),Z (.tup (dF cs)),Y,Y,Y]) ?_ ?_
 ·generalize H:de (kS ps) cs=ao;have k:ao = .tup [.tup (dI (kS ps)),.tup (dF cs)]:=H.symm;subst k;walk_at"w"
 rintro r V ⟨z,rfl⟩;subst z;refine dL (λr g=>g=V++[.lst (dF (nA ps "mark"))]/\r=[Z (de (kS ps) cs),Z (.ref n),Z (.tup (dI (kS ps))),Z (.tup (dF cs)),Z (.ref V.length),Y,Y]) ?_ ?_
 ·unfold dk;refine db.mpr (y0 hd v l O O ?_);walk_at"w"
 rintro r b ⟨a,rfl⟩;have B:b[n]?=Z (.lst (tX ps)):=by rw[a,gL1 C];exact l
 have w:b[V.length]?=Z (.lst (dF (nA ps "mark"))):=by rw[a,dV];rfl
 refine dL (λr g=>g=b++[.lst (dF (nA ps "wipe"))]/\r=[Z (de (kS ps) cs),Z (.ref n),Z (.tup (dI (kS ps))),Z (.tup (dF cs)),Z (.ref V.length),Z (.ref b.length),Y]) ?_ ?_
 ·unfold dk;refine db.mpr (y0 hd v B O O ?_);walk_at"w"
 rintro r i ⟨c,rfl⟩;have t:i[V.length]?=Z (.lst (dF (nA ps "mark"))):=by rw[c,gL1 (gE1.mp w).1];exact w
 have E:i[b.length]?=Z (.lst (dF (nA ps "wipe"))):=by rw[c,dV];rfl
 refine dL (λr g=>g=i++[.lst (dF (cs.filter λr=> !(nA ps "wipe").contains r))]/\r=[Z (de (kS ps) cs),Z (.ref n),Z (.tup (dI (kS ps))),Z (.tup (dF cs)),Z (.ref V.length),Z (.ref b.length),Z (.ref i.length)]) ?_ ?_
 ·walk_at"w";rw[iQ];refine gx (f:=λr:Nat=>D.int r) (λr:Nat=> !(nA ps "wipe").contains r) (λr:Nat=>D.int r) (λr=>∃x,r=[x,Z (.ref b.length)]) O cs _ ⟨_,O⟩ ?_ λam _=>?_
  ·rintro u s r ⟨x,rfl⟩
   ((try walk_at"w");repeat(simp only[oe E];try walk_at"w"))
   exact⟨⟨_,O⟩,λ_=>trivial⟩
  ·walk_at"w";have y:=cD (λr:Nat=> !(nA ps "wipe").contains r) cs;exact⟨dj (by rw[lM1];lia),O,trivial⟩
 rintro r V3 ⟨d,rfl⟩;have F:V3[V.length]?=Z (.lst (dF (nA ps "mark"))):=by rw[d,gL1 (gE1.mp t).1];exact t
 have G:V3[i.length]?=Z (.lst (dF (cs.filter λr=> !(nA ps "wipe").contains r))):=by rw[d,dV];rfl
 have y:=cD (λr:Nat=> !(nA ps "wipe").contains r) cs;have I:(nA ps "mark").length<=ps.length:=by unfold nA;rw[lM1];exact cD _ _
 walk_at"w";refine(ub G F).mpr ⟨dj (by rw[fA,fA];lia),?_⟩;rw[Dw];refine wJ (xs:=cs.filter (λr=> !(nA ps "wipe").contains r)++nA ps "mark") (m:=m) (f:=λr=>pz ps "mark" r||(cs.contains r && !pz ps "wipe" r)) (by rw[dV];rfl) (λr=>?_) (by rw[lA1];lia) ?_
 ·have A:(nA ps "wipe").contains r=pz ps "wipe" r:=by
   rw[bN,cf,vw]
  rw[aF,aA,vw,A];constructor
  ·rintro(⟨h1,h2⟩|h1)
   ·exact⟨j r h1,by rw[cf.mpr h1,h2];simp⟩
   ·refine⟨?_,by rw[h1];rfl⟩;unfold pz at h1;obtain⟨u,s,e⟩:=bO.mp h1;rw[bA1,beq_iff_eq]at e;rw[<- e.1];exact hw u s
  ·rintro⟨_,h⟩;rw[bL,bA1]at h;rcases h with h|⟨h1,h2⟩
   ·exact .inr h
   ·exact .inl ⟨cf.mp h1,h2⟩
 ·walk_at"w";refine dM (xs:=dF (gJ m ps cs)) (by rw[gv];rfl) ?_;rw[tR (by rw[D.und];exact eO _) o (by rw[d,c,a];simp only[aY];exact bv _ _)];exact q
noncomputable def Bu(m:Nat)(w:c9)(ps:List Pr)(cs:List Nat):D:=de (ps.map λp=>fe w p.1 p.2) (gJ m ps cs)
theorem kj{m:Nat}{w:c9}{ps:List Pr}{cs:List Nat}:(Bu m w ps cs).und 0=M:=fm
theorem uP{m:Nat}{w:c9}{ps:List Pr}{cs:List Nat}{n:Nat}{S:c6}{Q:D×c6->Prop}(i:w.length=m)(hd:∀ p∈ps,fH p.2)(t:ps.length<=8)(hc:cs.length<=8)(hw:∀ p∈ps,p.1.1<m)(g:∀ r∈cs,r<m)(d:S[n]? = Z (.lst (tX ps)))(b:S.all (Ob.und S.length)=M)(q:Q (Bu m w ps cs,S)):W (c7 3 iy [dA w,de (kS ps) cs,.ref n] S) Q:=by
 refine ln O (by simp[D.unds,D.und]) ?_;unfold iy;refine kn ?_;unfold vq;have A:=(gE1.mp d).1;refine dL (λr V=>V=S/\r=[Z (dA w),Z (de (kS ps) cs),Z (.ref n),Z (.tup (dI (kS ps))),Z (.tup (dF cs)),Y]) ?_ ?_
 ·generalize E:de (kS ps) cs=ao;have h:ao = .tup [.tup (dI (kS ps)),.tup (dF cs)]:=E.symm;subst h;walk_at"w"
 rintro r V ⟨l,rfl⟩;subst l;refine dL (λr s=>s=V++[.lst (dI (ps.map λp=>fe w p.1 p.2))]/\r=[Z (dA w),Z (de (kS ps) cs),Z (.ref n),Z (.tup (dI (kS ps))),Z (.tup (dF cs)),Z (.ref V.length)]) ?_ ?_
 ·unfold dk;refine db.mpr ?_;rw[iC];refine zF (xs:=dI (kS ps)) (ys:=tX ps) (n:=n) O d ?_;dsimp only;rw[B0,tX,sF];refine pA (λp:Pr=>eQ (fe w p.1 p.2)) (λr=>∃x y,r=[x,y,Z (dA w)]) (fi d) ps _ ⟨_,_,O⟩ ?_ λF _=>?_
  ·rintro u j r ⟨x,y,rfl⟩;obtain⟨row,c⟩:∃row,w[u.1.1]?=some row:=⟨_,gG1 (by rw[i];exact hw u j)⟩;walk_at"w";refine vL c (hd u j) ?_;exact⟨O,O,_,_,O⟩
  ·have e:ps.map (λp:Pr=>eQ (fe w p.1 p.2))=dI (ps.map λp=>fe w p.1 p.2):=by unfold dI;rw[bu];rfl
   rw[e];refine⟨dj (by dsimp only;rw[lK,lM1];lia),?_⟩;walk_at"w"
 rintro r f ⟨a,rfl⟩;have z:f[n]?=Z (.lst (tX ps)):=by rw[a,gL1 A];exact d
 have C:f[V.length]?=Z (.lst (dI (ps.map λp=>fe w p.1 p.2))):=by rw[a,dV];rfl
 have k:f.all (Ob.und f.length)=M:=by
  rw[a,List.all_append,bA1,lA1];rw[bB]at b;refine⟨bB.mpr λo B=>ff (bt _ _) (b o B),?_⟩;rw[bM,Ob.und,eA (uq _)];rfl
 walk_at"w";refine dM C ?_;refine wj hd t hc hw g z k ?_;walk_at"w";have v:D.tup [.tup (dI (ps.map λp=>fe w p.1 p.2)),.tup (dF (gJ m ps cs))]=Bu m w ps cs:=rfl;rw[v,tR kj b (by rw[a];exact bv _ _)];exact q
noncomputable def nG(e:E4):D:=.tup (eM e.1 e.2.1 e.2.2.1 e.2.2.2)
theorem gX(e:E4):(nG e).und 0=M:=by unfold nG;rw[D.und];exact ng _ _ _ _
noncomputable def mcD(e:E4)(L:List Rw):D:=.tup [nG e,.tup (L.map (ea e))]
theorem gu{e:E4}{L:List Rw}(ok:∀p∈L,e9 p):(mcD e L).und 0=M:=by
 have h1:=gX e;have h2:=my (e:=e) ok 0;unfold mcD;rw[D.und,D.unds,D.unds,h1,h2];rfl
theorem kR{k:Ky}(hk:k.Ok):fH (nH k):=⟨k.m,_,_,O,hk.m,by simp[m5],by simp[nR]⟩
theorem kP{e:E4}{L:List Rw}{k:Ky}(ok:∀p∈L,e9 p)(hk:k.Ok):fH (kQ e L k):=by
 unfold kQ;cases h:L.find? λp=>decide (p.1.code e=k.code e)with
 |none=>exact kR hk
 |some p=>exact(ok p (List.mem_of_find?_eq_some h)).2
noncomputable def ky(w:c9)(ws:List Wk)(cs:List Nat)(u:Wk):Ky:=⟨u.2.2,u.2.1,if cs.contains u.1 then 1 else 0,((w[u.1]?).getD []).length,if 1<crowd ws u.1 then 1 else 0⟩
theorem uA{w:c9}{ws:List Wk}{cs:List Nat}{u:Wk}{row:List (Nat×Nat)}{e:E4}(h:w[u.1]?=Z row):uB e.1 e.2.1 e.2.2.1 e.2.2.2 ws cs u row=(ky w ws cs u).sg e:=by
 have a:∀b:Bool,((if b=M then 1 else 0:Nat):Int)=if b=M then(1:Int)else 0:=λb=>by cases b<;>rfl
 have c:((if 1<crowd ws u.1 then 1 else 0:Nat):Int)=if 1<crowd ws u.1 then(1:Int)else 0:=by split<;>rfl
 unfold uB sS Ky.sg Hj ky pt;rw[h];dsimp only;rw[a,c];rfl
structure fP (m:Nat)(w:c9)(ws:List Wk)(cs:List Nat):Prop where
 web:iH m w
 m8:m<=8
 few:ws.length<=8
 cl:cs.length<=8
 wk:∀u∈ws,∃row,w[u.1]?=some row/\u.2.1<=row.length/\u.2.2<4000
 ch:∀r∈cs,r<m
theorem fP.lt{m:Nat}{w:c9}{ws:List Wk}{cs:List Nat}(h:fP m w ws cs):∀u∈ws,u.1<m:=λu a=>by
 obtain⟨b,e,_⟩:=h.wk u a;have:=(gE1.mp e).1;rw[h.web.len]at this;exact this
theorem fP.ky{m:Nat}{w:c9}{ws:List Wk}{cs:List Nat}(h:fP m w ws cs):∀u∈ws,(ky w ws cs u).Ok:=λu b=>by
 obtain⟨a,e,h1,h2⟩:=h.wk u b;have c:=h.web.le a (gM1 e);refine⟨h2,?_,?_,?_,?_⟩
 ·show u.2.1<=4;lia
 ·show(if cs.contains u.1 then 1 else 0)<=4;split<;>lia
 ·show((w[u.1]?).getD []).length<=4;rw[e];exact c
 ·show(if 1<crowd ws u.1 then 1 else 0)<=4;split<;>lia
theorem ur{m:Nat}{w:c9}{ws:List Wk}{cs:List Nat}{e:E4}{S:c6}{Q:D×c6->Prop}(h:fP m w ws cs)(q:Q (.ref S.length,S++[.lst (ws.map λu=>(ky w ws cs u).d e)])):W (c7 3 ix [dA w,nG e,de ws cs] S) Q:=by
 refine Cf O (by simp[D.unds,eR,fm,gX]) ?_;unfold ix;refine kn ?_;unfold vp d7;rw[db,iC];refine zM (xs:=dI ws) O ?_;dsimp only;have i:=h.few;rw[dI,pN];refine pA (λp:Wk×Nat=>(Law.ky w ws cs p.1).d e) (λr=>∃x y,r=[x,y,Z (dA w),Z (nG e),Z (de ws cs)]) O ws.zipIdx _ ⟨_,_,O⟩ ?_ λg _=>?_
 ·rintro⟨u,k⟩ d r ⟨x,y,rfl⟩;have b:ws[k]?=Z u:=hU d;obtain⟨c,a,_⟩:=h.wk u (gM1 b)
  ((try walk_at"w");repeat(simp only[Bk];try walk_at"w"))
  refine Ah b a (by lia) ?_;walk_at"w";rw[uA a];exact⟨O,_,_,O⟩
 ·have f:(ws.zipIdx.map λp:Wk×Nat=>(Law.ky w ws cs p.1).d e)=ws.map λu=>(Law.ky w ws cs u).d e:=ik (λu=>(Law.ky w ws cs u).d e) ws;rw[f];refine⟨dj (by dsimp only;rw[lM1];lia),?_⟩;walk_at"w";exact⟨_,O,Mi.dv λu _=>Ky.und _ e 0,q⟩
noncomputable def ddW(w:c9)(ws:List Wk)(cs:List Nat)(e:E4)(L:List Rw)(u:Wk):D:=kQ e L (ky w ws cs u)
noncomputable def ss(w:c9)(ws:List Wk)(cs:List Nat)(e:E4)(L:List Rw):List Pr:=ws.map λu=>(u,ddW w ws cs e L u)
noncomputable def iT(w:c9)(ws:List Wk)(cs:List Nat)(e:E4)(L:List Rw)(ch:List Nat)(q:Wk×Nat):D:=if ch.contains q.2 then ddW w ws cs e L q.1 else nH (ky w ws cs q.1)
noncomputable def dX(w:c9)(ws:List Wk)(cs:List Nat)(e:E4)(L:List Rw)(ch:List Nat):List Pr:=ws.zipIdx.map λq=>(q.1,iT w ws cs e L ch q)
theorem BR{w:c9}{ws:List Wk}{cs:List Nat}{e:E4}{L:List Rw}:kS (ss w ws cs e L)=ws:=by unfold kS ss;rw[bu];exact cv _
theorem xD{w:c9}{ws:List Wk}{cs:List Nat}{e:E4}{L:List Rw}{ch:List Nat}:kS (dX w ws cs e L ch)=ws:=by
 unfold kS dX;rw[bu];exact(ik (λu:Wk=>u) ws).trans (cv _)
theorem l6{α:Type}{l:List α}{p:α×Nat}(h:p∈l.zipIdx):p.1∈l:=gM1 (hU h)
theorem Ep{m:Nat}{w:c9}{ws:List Wk}{cs:List Nat}{e:E4}{L:List Rw}{S:c6}{Q:D×c6->Prop}(h:fP m w ws cs)(c:Inc e L)(ok:∀p∈L,e9 p)(j:L.length<=4000)(q:Q (Bu m w (ss w ws cs e L) cs,S)):W (c7 3 mT [dA w,mcD e L,de ws cs] S) Q:=by
 refine i8 O (by simp[D.unds,eR,fm,gu ok]) ?_;unfold mT
 refine kn ?_;unfold zA
 have g:=h.few;have f:∀u∈ws,fH (ddW w ws cs e L u):=λu a=>kP ok (h.ky u a);refine dL (λr V=>V=[.lst (ws.map λu=>(ky w ws cs u).d e)]/\r=[Z (dA w),Z (mcD e L),Z (de ws cs),Z (.ref 0)]) ?_ ?_
 ·have i:∀S,da (mcD e L) (.int 0) S=Z (nG e,S):=λS=>rfl
  ((try walk_at"w");repeat(simp only[i];try walk_at"w"))
  refine ur h ?_;walk_at"w"
 rintro r V ⟨rfl,rfl⟩;unfold d7;rw[db];have b:W (d4 2 [1] (ge (mV 3)) (gT 2 (gCs (gN 0) (gCs (gN 1) gNl))) eP (dW (mN (c7 3 eV) (c4 (mV 2) (c4 (mV 0) (c4 (mV 1) c5))))) [Z (dA w),Z (mcD e L),Z (de ws cs),Z (.ref 0)] [.lst (ws.map λu=>(ky w ws cs u).d e)]) λp=>p=(.ref 1,[.lst (ws.map λu=>(ky w ws cs u).d e),.lst (ws.map (ddW w ws cs e L))]):=by
  walk_at"w";refine dM (xs:=ws.map λu=>(ky w ws cs u).d e) O ?_;refine pA (ddW w ws cs e L) (λr=>∃x y,r=[x,y,Z (mcD e L)]) (fi O) ws _ ⟨_,_,O⟩ ?_ λl _=>?_
  ·rintro u a r ⟨x,y,rfl⟩;unfold Ky.d;walk_at"w";refine rZ c ok j (h.ky u a) (gX e) ?_;exact⟨O,O,_,_,O⟩
  ·refine⟨dj (by dsimp only;rw[lM1];lia),?_⟩;walk_at"w"
 obtain⟨p,k,rfl⟩:=b;generalize d4 2 [1] (ge (mV 3)) (gT 2 (gCs (gN 0) (gCs (gN 1) gNl))) eP (dW (mN (c7 3 eV) (c4 (mV 2) (c4 (mV 0) (c4 (mV 1) c5)))))=G at *
 ((try walk_at"w");repeat(simp only[k];try walk_at"w"))
 have mv:=λQ q=>uP (m:=m) (w:=w) (ps:=ss w ws cs e L) (cs:=cs) (n:=1) (S:=[.lst (ws.map λu=>(ky w ws cs u).d e),.lst (ws.map (ddW w ws cs e L))]) (Q:=Q) h.web.len (λp d=>by
  obtain⟨u,a,rfl⟩:=b6.mp d;exact f u a) (by unfold ss;rw[lM1];exact g) h.cl (λp d=>by
  obtain⟨u,a,rfl⟩:=b6.mp d;exact h.lt u a) h.ch (by unfold tX ss;rw[bu];rfl) (by
  rw[bM,bM,Ob.und,Ob.und,Mi.dv λu _=>Ky.und _ e _,Mi.dv λu a=>d6 (f u a).und];rfl) q
 rw[BR]at mv;exact mv _ ⟨kj,q⟩
theorem Ek{n:Nat}{f:FN}{ds:List D}{S:c6}{Q:D×c6->Prop}(hn:ds.length=n)(b:D.unds 0 ds=M)(h:W (f ds []) λp=>∃xs ys,p=(.ref 1,[.lst xs,.lst ys])/\D.unds 0 xs=M/\D.unds 0 ys=M/\Q (.ref (S.length+1),S++[.lst xs,.lst ys])):W (c7 n f ds S) Q:=by
 obtain⟨p,e,xs,ys,rfl,a,c,q⟩:=h;refine⟨_,i7 e hn b O,?_⟩;simp only[D.sh,mP1,bc,Ob.sh,gP a,gP c];exact q
theorem BD{m:Nat}{w:c9}{ws:List Wk}{cs:List Nat}{e:E4}{L:List Rw}{S:c6}{Q:D×c6->Prop}(h:fP m w ws cs)(b:Inc e L)(ok:∀ p∈L,e9 p)(f:L.length<=4000)(q:∀c,c.und 0=M->Q (.ref (S.length+1),S++[c,.lst (ws.map (ddW w ws cs e L))])):W (c7 3 gH [dA w,mcD e L,de ws cs] S) Q:=by
 refine Ek O (by simp[D.unds,eR,fm,gu ok]) ?_;unfold gH;refine kn ?_;unfold nv d7;have j:=h.few;have g:∀u∈ws,fH (ddW w ws cs e L u):=λu a=>kP ok (h.ky u a);have d:∀S,da (mcD e L) (.int 0) S=Z (nG e,S):=λS=>rfl;rw[db,iC]
 ((try walk_at"w");repeat(simp only[d];try walk_at"w"))
 refine ur h ?_;refine dM (xs:=ws.map λu=>(ky w ws cs u).d e) O ?_;refine pA (ddW w ws cs e L) (λr=>∃x y,r=[x,y,Z (mcD e L)]) (fi O) ws _ ⟨_,_,O⟩ ?_ λi _=>?_
 ·rintro u a r ⟨x,y,rfl⟩;unfold Ky.d;walk_at"w";refine rZ b ok f (h.ky u a) (gX e) ?_;exact⟨O,O,_,_,O⟩
 ·refine⟨dj (by dsimp only;rw[lM1];lia),?_⟩;walk_at"w";exact⟨_,_,O,Mi.dv λu _=>Ky.und _ e 0,Mi.dv λu a=>(g u a).und,q _ (by rw[Ob.und];exact Mi.dv λu _=>Ky.und _ e 0)⟩
theorem D9{S:c6}{x:Nat}{cs:List Nat}:hK (.int x) (.tup (dF cs)) S=Z (.bl (cs.contains x),S):=uZ
theorem A3{m:Nat}{w:c9}{ws:List Wk}{cs ch:List Nat}{e:E4}{L:List Rw}{n:Nat}{S:c6}{Q:D×c6->Prop}(h:fP m w ws cs)(ok:∀ p∈L,e9 p)(F:S[n]? = Z (.lst (ws.map (ddW w ws cs e L))))(j:S.all (Ob.und S.length)=M)(q:Q (Bu m w (dX w ws cs e L ch) cs,S)):W (c7 4 fB [dA w,de ws cs,.ref n,.tup (dF ch)] S) Q:=by
 refine ln O (by simp[D.unds,D.und]) ?_;unfold fB;refine kn ?_;unfold kx;have N:=(gE1.mp F).1;have H:=h.few;have P:∀u∈ws,fH (ddW w ws cs e L u):=λu K=>kP ok (h.ky u K);have T:∀S,da (de ws cs) (.int 0) S=Z (.tup (dI ws),S):=λS=>rfl;have B:∀o,(S++[o])[n]?=Z (.lst (ws.map (ddW w ws cs e L))):=λo=>by rw[gL1 N];exact F
 have y:∀p∈dX w ws cs e L ch,fH p.2/\p.1∈ws:=λp y=>by
  obtain⟨x,au,rfl⟩:=b6.mp y;have g:=l6 au;refine⟨?_,g⟩;unfold iT;dsimp only;split
  ·exact P _ g
  ·exact kR (h.ky _ g)
 refine dL (λr V=>V=S++[.lst []]/\r=[Z (dA w),Z (de ws cs),Z (.ref n),Z (.tup (dF ch)),Z (.ref S.length),Y,Y,Y,Y]) ?_ ?_
 ·walk_at"w"
 rintro r V ⟨rfl,rfl⟩;refine dL (λr V=>V=S++[.lst (tX (dX w ws cs e L ch))] /\ ∃t v l s,r=[Z (dA w),Z (de ws cs),Z (.ref n),Z (.tup (dF ch)),Z (.ref S.length),t,v,l,s]) ?_ ?_
 ·unfold fO;rw[db];refine zM (xs:=dI ws) (by simp only[c4,m2,b2,mV,mC,c5,gC1,cy,oS1,T]) ?_;dsimp only;rw[dI,pN];refine eY (λi r V=>V=S++[.lst ((ws.zipIdx.take i).map (iT w ws cs e L ch))] /\ ∃t v l s,r=[Z (dA w),Z (de ws cs),Z (.ref n),Z (.tup (dF ch)),Z (.ref S.length),t,v,l,s]) _ 0 _ _ ⟨by simp,_,_,_,_,O⟩ (λ_ _ _ _=>rfl) ?_ ?_
  ·rintro i d z r V ⟨rfl,t,v,l,s,rfl⟩;rw[gP1]at z;obtain⟨⟨u,k⟩,E,rfl⟩:=oM1.mp z;have am:ws[k]?=Z u:=hU (gM1 E);have C:=(gE1.mp E).1;rw[cG]at C;rw[bK];have G:((ws.zipIdx.take i).map (iT w ws cs e L ch)).length<=8:=by rw[lM1,aP,cG];lia
   have c:(S++[Ob.lst ((ws.zipIdx.take i).map (iT w ws cs e L ch))])[S.length]?=Z (.lst ((ws.zipIdx.take i).map (iT w ws cs e L ch))):=by rw[dV];rfl
   have st:∀a b:Ob,(S++[a]).set S.length b=S++[b]:=λa b=>by rw[cH _ _ (nR1 _),Nat.sub_self];rfl
   have more:(ws.zipIdx.take (i+1)).map (iT w ws cs e L ch)=(ws.zipIdx.take i).map (iT w ws cs e L ch)++[iT w ws cs e L ch (u,k)]:=by rw[b7,E,b5];rfl
   have ao:nH (ky w ws cs u) = .tup [.int u.2.2,.str "leave",.non]:=rfl;unfold eQ;walk_at"w";unfold iV eE;rw[db];refine jE ?_;walk_at"w";refine⟨S.length,_,O,c,?_⟩
   ((try walk_at"w");repeat(simp only[D9];try walk_at"w"))
   rw[more];unfold iT;dsimp only;split
   ·refine oT (B _) (i:=k) (x:=ddW w ws cs e L u) (by rw[gP1,am];rfl) ?_;refine(jF c).mpr ⟨dj (by lia),?_⟩;rw[st];exact⟨O,_,_,_,_,O⟩
   ·skip
    refine(jF c).mpr ⟨dj (by lia),?_⟩;rw[st,ao];exact⟨O,_,_,_,_,O⟩
  ·rintro r V ⟨rfl,t,v,l,s,rfl⟩;refine⟨O,?_,_,_,_,_,O⟩;rw[lM1,bK,bT];unfold tX dX;rw[bu];rfl
 rintro r V ⟨rfl,t,v,l,s,rfl⟩;have A:D.unds 0 (tX (dX w ws cs e L ch))=M:=Mi.dv λp f=>(y p f).1.und;have I:(S++[Ob.lst (tX (dX w ws cs e L ch))]).all (Ob.und (S++[Ob.lst (tX (dX w ws cs e L ch))]).length)=M:=by
  rw[List.all_append,bA1,lA1];rw[bB]at j;refine⟨bB.mpr λo R=>ff (bt _ _) (j o R),?_⟩;rw[bM,Ob.und,eA A];rfl
 have mv:=λQ q=>uP (m:=m) (w:=w) (ps:=dX w ws cs e L ch) (cs:=cs) (n:=S.length) (S:=S++[Ob.lst (tX (dX w ws cs e L ch))]) (Q:=Q) h.web.len (λp f=>(y p f).1) (by unfold dX;rw[lM1,cG];exact H) h.cl (λp f=>h.lt _ (y p f).2) h.ch (by rw[dV];rfl) I q;rw[xD]at mv;walk_at"w";refine mv _ ?_;walk_at"w";rw[za kj j];exact q
theorem CF{m:Nat}{w:c9}{ws:List Wk}{cs ch:List Nat}{e:E4}{L:List Rw}{S:c6}{Q:D×c6->Prop}(h:fP m w ws cs)(a:Inc e L)(ok:∀p∈L,e9 p)(d:L.length<=4000)(q:Q (Bu m w (dX w ws cs e L ch) cs,S)):W (c7 4 fY [dA w,mcD e L,de ws cs,.tup (dF ch)] S) Q:=by
 refine i8 O (by simp[D.unds,eR,fm,gu ok,D.und,eO]) ?_;unfold fY
 refine kn ?_;unfold lu
 have f:∀u∈ws,fH (ddW w ws cs e L u):=λu b=>kP ok (h.ky u b);walk_at"w";refine BD h a ok d λg c=>?_;walk_at"w";refine A3 h ok O ?_ ?_
 ·rw[bM,bM,ff (bm _) c,Ob.und,Mi.dv λu b=>d6 (f u b).und];rfl
 ·walk_at"w";exact⟨kj,q⟩
theorem mP{rm:Nat}:∀ {ws:List Wk} {n k:Nat},(k<n->((ws.zipIdx n).filter fun p=> !(p.2 == k)&&p.1.1 == rm).length=crowd ws rm) /\
  (∀u,n<=k->ws[k-n]?=Z u->u.1=rm->((ws.zipIdx n).filter λp=> !(p.2 == k)&&p.1.1 == rm).length+1=crowd ws rm)
 |[],n,k=>⟨λ_=>rfl,λu _ h=>by simp at h⟩
 |x::ws,n,k=>by
  obtain⟨h1,h2⟩:=mP (rm:=rm) (ws:=ws) (n:=n+1) (k:=k);have c:crowd (x::ws) rm=(if x.1 == rm then 1 else 0)+crowd ws rm:=by
   unfold crowd;rw[cr];split<;>simp<;>lia
  rw[bH,cr,c];constructor
  ·intro d;have:=h1 (by lia);have e:(n == k)=J:=by rw[beq_eq_false_iff_ne];lia
   rw[e];cases hx:(x.1 == rm)with
   |true=>simp[this];lia
   |false=>simp[this]
  ·intro u d a b;by_cases z:k=n
   ·subst z;rw[Nat.sub_self]at a;cases a;rw[b];have:=h1 (by lia);simp[this];lia
   ·have e:(n == k)=J:=by rw[beq_eq_false_iff_ne];lia
    have:=h2 u (by lia) (by rw[show k-n=(k-(n+1))+1 by lia,gC1]at a;exact a) b;rw[e];cases hx:(x.1 == rm)with
    |true=>simp;lia
    |false=>simp;lia
theorem Ee {w x y z:D}{S S':c6}{r:Ev}{m1 m2 b a:FE}{Q:D×c6->Prop}(h1:m1 r S=some (w,S))(h2:m2 r S=some (x,S))(d:b r S=some (y,S))(c:a r S=some (z,S'))
  (q:Q (.ref S'.length,S'++[.dct [(.inr "came",w),(.inr "chalk",x),(.inr "doors",y),(.inr "others",z)]])):
  W (mU [(mC (.str "came"),m1),(mC (.str "chalk"),m2),(mC (.str "doors"),b),(mC (.str "others"),a)] r S) Q:=by
 refine W.of ?_ q;simp only[mU,yF,mC,h1,h2,d,c,oS1,oP1,rq,pE];rfl
theorem yK{w:c9}{ws:List Wk}{cs:List Nat}{a b c d:Bool}{k:Nat}{u:Wk}{row:List (Nat×Nat)}{S:c6}{Q:D×c6->Prop}(h:ws[k]? = Z u)(hr:w[u.1]? = Z row)(H:ws.length<=1000)(q:Q (uB a b c d ws cs u row,S)):W (c7 4 fC [dA w,.tup (eM a b c d),de ws cs,.int k] S) Q:=by
 refine i8 O (by simp[D.unds,eR,fm];rw[D.und];exact⟨ng a b c d,O⟩) ?_;unfold fC;refine kn ?_;unfold kA;have g:∀(S:c6),da (de ws cs) (.int 0) S=Z (.tup (dI ws),S):=λS=>rfl;have E:∀(S:c6),da (de ws cs) (.int 1) S=Z (.tup (dF cs),S):=λS=>rfl;refine dL (λr S=>S=[]/\r=[Z (dA w),Z (.tup (eM a b c d)),Z (de ws cs),Z (.int k),Z (.int u.1),Z (.int u.2.1),Z (.int u.2.2),Y,Y]) ?_ ?_
 ·((try walk_at"w");repeat(simp only[g];try walk_at"w"))
  refine lz (i:=k) (x:=eQ u) (by rw[dI,gP1,h];rfl) ?_;rw[eQ];walk_at"w"
 rintro r S ⟨rfl,rfl⟩;refine dL (λr S=>∃xs,S=[.lst xs]/\(!xs.isEmpty)=decide (1<crowd ws u.1)/\r=[Z (dA w),Z (.tup (eM a b c d)),Z (de ws cs),Z (.int k),Z (.int u.1),Z (.int u.2.1),Z (.int u.2.2),Z (.ref 0),Y]) ?_ ?_
 ·unfold dk;rw[db,iC];refine zM (xs:=dI ws) (by simp only[c4,m2,b2,mV,mC,c5,gC1,cy,oS1,g]) ?_;dsimp only;rw[dI,pN];refine gx (λp:Wk×Nat=> !(p.2 == k)&&p.1.1 == u.1) (λp:Wk×Nat=>eQ p.1) (λr=>∃x y,r=[x,y,Z (.int k),Z (.int u.1)]) O ws.zipIdx _ ⟨_,_,O⟩ ?_ λs _=>?_
  ·rintro⟨v,j⟩ I r ⟨x,y,rfl⟩;have t:((j:Int) == (k:Int))=(j == k):=by rw[bN,beq_iff_eq,beq_iff_eq];lia
   have F:((v.1:Int) == (u.1:Int))=(v.1 == u.1):=by rw[bN,beq_iff_eq,beq_iff_eq];lia
   ((try walk_at"w");repeat(simp only[t,uW,F];try walk_at"w"))
   cases(j == k)with
   |true=>exact⟨O,⟨_,_,O⟩,λz=>by cases z⟩
   |false=>
    cases hh:(v.1 == u.1)with
    |true=>exact⟨O,⟨_,_,O⟩,λ_=>trivial⟩
    |false=>exact⟨O,⟨_,_,O⟩,λz=>by cases z⟩
  ·have B:=cD (λp:Wk×Nat=> !(p.2 == k)&&p.1.1 == u.1) ws.zipIdx;rw[cG]at B;have C:=(mP (rm:=u.1) (ws:=ws) (n:=0) (k:=k)).2 u (by lia) h O;walk_at"w";refine⟨dj (by rw[lM1];lia),_,O,?_,trivial⟩;rw[<- C];generalize List.filter (λp:Wk×Nat=> !(p.2 == k)&&p.1.1 == u.1) ws.zipIdx=zs;cases zs<;>simp
 rintro r S ⟨xs,rfl,f,rfl⟩;refine dL (λr S=>S=[.lst xs,.lst []]++[.dct [(.inr "came",.int u.2.1),(.inr "chalk",.int (if cs.contains u.1 then 1 else 0)),(.inr "doors",.int row.length),(.inr "others",.int (if 1<crowd ws u.1 then 1 else 0))]]/\r=[Z (dA w),Z (.tup (eM a b c d)),Z (de ws cs),Z (.int k),Z (.int u.1),Z (.int u.2.1),Z (.int u.2.2),Z (.ref 0),Z (.ref 2)]) ?_ ?_
 ·unfold dk;rw[db];refine Ee (S':=[.lst xs,.lst []]) (w:=.int u.2.1) (x:=.int (if cs.contains u.1 then 1 else 0)) (y:=.int row.length) (z:=.int (if 1<crowd ws u.1 then 1 else 0)) O ?_ ?_ ?_ ?_
  ·simp only[mN,c4,c5,b1,m2,b2,mV,gC1,cy,oS1,E,uZ,mC,lH]
  ·obtain⟨p,e,rfl⟩:W (da (dA w) (.int u.1) [.lst xs]) λp=>p=(.tup (row.map pD),[.lst xs]):=vA hr O;simp only[mN,c4,c5,m2,b1,b2,mV,gC1,cy,oS1,e,gU,lM1]
  ·have o:u8 (.ref 0) (.ref 1) [.lst xs,.lst []]=some (.bl (!xs.isEmpty),[.lst xs,.lst []]):=u7 rfl rfl;have A:eW c5 [some (dA w),some (.tup (eM a b c d)),some (de ws cs),some (.int k),some (.int u.1),some (.int u.2.1),some (.int u.2.2),some (.ref 0),none] [.lst xs]=some (.ref 1,[.lst xs,.lst []]):=by
    obtain⟨p,e,rfl⟩:W (eW c5 [some (dA w),some (.tup (eM a b c d)),some (de ws cs),some (.int k),some (.int u.1),some (.int u.2.1),some (.int u.2.2),some (.ref 0),none] [.lst xs]) λp=>p=(.ref 1,[.lst xs,.lst []]):=by
     rw[zK];exact⟨_,O,Im,O⟩
    exact e
   simp only[mN,c4,c5,m2,b1,b2,mV,gC1,cy,oS1,A,o,lH,f];by_cases h1:1<crowd ws u.1
   ·rw[ak h1,ak (by rw[al];lia)]
   ·rw[aj h1,aj (by rw[al];lia)]
  ·walk_at"w"
 rintro r S ⟨rfl,rfl⟩;generalize l:[Ob.lst xs,.lst []]++[Ob.dct [(.inr "came",.int u.2.1),(.inr "chalk",.int (if cs.contains u.1 then 1 else 0)),(.inr "doors",.int row.length),(.inr "others",.int (if 1<crowd ws u.1 then 1 else 0))]]=S2;have G:S2[2]?=Z (Ob.dct [(.inr "came",.int u.2.1),(.inr "chalk",.int (if cs.contains u.1 then 1 else 0)),(.inr "doors",.int row.length),(.inr "others",.int (if 1<crowd ws u.1 then 1 else 0))]):=by rw[<- l];rfl
 walk_at"w";have m:([D.str "came",D.str "chalk",D.str "doors",D.str "others"]:List D)=[0,1,2,3].map pL:=rfl;rw[iQ,m];refine pA (gE a b c d u.2.1 (if cs.contains u.1 then 1 else 0) row.length (if 1<crowd ws u.1 then 1 else 0)) (λr=>∃x,r=[x,Z (.tup (eM a b c d)),Z (.ref 2)]) O _ _ ⟨_,O⟩ ?_ ?_
 ·rintro i hi r ⟨x,rfl⟩;refine⟨([Z (pL i),Z (.tup (eM a b c d)),Z (.ref 2)],S2),O,?_⟩;refine⟨(M,S2),O,O,?_⟩;exact⟨_,uJ G hi O O O,O,O,_,O⟩
 ·rintro s _;walk_at"w";refine dM (xs:=[gE a b c d u.2.1 (if cs.contains u.1 then 1 else 0) row.length (if 1<crowd ws u.1 then 1 else 0) 0,gE a b c d u.2.1 (if cs.contains u.1 then 1 else 0) row.length (if 1<crowd ws u.1 then 1 else 0) 1,gE a b c d u.2.1 (if cs.contains u.1 then 1 else 0) row.length (if 1<crowd ws u.1 then 1 else 0) 2,gE a b c d u.2.1 (if cs.contains u.1 then 1 else 0) row.length (if 1<crowd ws u.1 then 1 else 0) 3]) (by rw[dV];rfl) ?_;exact⟨nU,q⟩
theorem BE{F:List (TK×D)}{n:Nat}{S:c6}(h:S[n]?=Z (dO F)):wv S n=Z F:=by
 unfold wv;rw[h];cases F<;>rfl
structure RL (e:E4)(F:List (TK×D))(L:List Rw):Prop where
 inc:Inc e L
 ok:∀p∈L,e9 p
 len:L.length<=4000
 lk:∀k:Ky,k.Ok->dH F (k.tk e)=(L.find? λp=>decide (p.1.code e=k.code e)).map (·.2)
noncomputable def owD(e:E4)(n:Nat):D:=.tup [nG e,.ref n]
theorem Bh{e:E4}{F:List (TK×D)}{L:List Rw}{k:Ky}{n:Nat}{S:c6}{Q:D×c6->Prop}(d:RL e F L)(hk:k.Ok)(c:S[n]?=Z (dO F))(q:Q (kQ e L k,S)):W (c7 3 f0 [owD e n,.int k.m,k.sg e] S) Q:=by
 refine ln O (by simp[owD,D.unds,D.und]) ?_;unfold f0;refine kn ?_;unfold lx;have f:m2 (b2 da) (mV 0) (mC (D.int 1)) [Z (owD e n),Z (.int k.m),Z (k.sg e)] S=Z (.ref n,S):=rfl;have g:fits 2=M/\fits 3=M:=⟨HH,HG⟩;have b:dS (c4 (mV 1) (c4 (mV 2) c5)) [Z (owD e n),Z (.int k.m),Z (k.sg e)] S=Z (k.d e,S):=by
  obtain⟨p,e,rfl⟩:W (dS (c4 (mV 1) (c4 (mV 2) c5)) [some (owD e n),some (.int k.m),some (k.sg e)] S) λp=>p=(k.d e,S):=by
   rw[pV];exact⟨_,O,HH,O⟩
  exact e
 have hc:dS (c4 (mV 1) (c4 (mC (D.str "leave")) (c4 (mC D.non) c5))) [Z (owD e n),Z (.int k.m),Z (k.sg e)] S=Z (nH k,S):=by
  obtain⟨p,e,rfl⟩:W (dS (c4 (mV 1) (c4 (mC (D.str "leave")) (c4 (mC D.non) c5))) [some (owD e n),some (.int k.m),some (k.sg e)] S) λp=>p=(nH k,S):=by
   rw[pV];exact⟨_,O,HG,O⟩
  exact e
 have a:gD 3 [owD e n,.int k.m,k.sg e]=[Z (owD e n),Z (.int k.m),Z (k.sg e)]:=rfl;rw[a];refine W.of (x:=(.rt (kQ e L k),[Z (owD e n),Z (.int k.m),Z (k.sg e)],S)) ?_ ?_
 ·simp only[d7,tN,f,b,hc,oS1,BE c,k.keyT e];rw[oP1,d.lk k hk];rfl
 ·dsimp only;rw[pJ O];exact q
noncomputable def hE(ws:List Wk)(dd:Wk->D)(h:Str)(ch:List Nat):List Nat:=ch.filterMap λk=>(ws[k]?).bind λu=>if dh (dd u) == h then Z u.1 else Y
theorem rD{ws:List Wk}{dd:Wk->D}{h:Str}{ch:List Nat}{k:Nat}{u:Wk}(hk:ws[k]?=Z u):hE ws dd h (ch++[k])=hE ws dd h ch++(if dh (dd u) == h then[u.1]else[]):=by
 unfold hE;rw[List.filterMap_append]
 congr 1
 rw[aD,hk];dsimp only[oS1];cases(dh (dd u) == h)<;>rfl
theorem u4(ws:List Wk)(dd:Wk->D)(h:Str)(ch:List Nat):(hE ws dd h ch).length<=ch.length:=List.length_filterMap_le ..
theorem yX {w:c9}{ws:List Wk}{cs ch:List Nat}{e:E4}{L:List Rw}{h:Str}(d:h≠"leave"){r:Nat}:(hE ws (ddW w ws cs e L) h ch).contains r=pz (dX w ws cs e L ch) h r:=by
 unfold hE pz dX;rw[bN,cf,aK,bO];constructor
 ·rintro⟨k,f,c⟩;obtain⟨u,i,b⟩:=oB1.mp c;split at b
  ·rename_i l;cases b;refine⟨(u,iT w ws cs e L ch (u,k)),b6.mpr ⟨(u,k),?_,O⟩,?_⟩
   ·exact List.mem_iff_getElem?.mpr ⟨k,by rw[cI,i];simp⟩
   ·unfold iT;dsimp only;rw[ak (cf.mpr f),l];simp
  ·cases b
 ·rintro⟨p,j,c⟩;obtain⟨⟨u,k⟩,g,rfl⟩:=b6.mp j;rw[bA1,beq_iff_eq]at c;obtain⟨b,a⟩:=c;unfold iT at a;dsimp only at b a;split at a
  ·rename_i hc;refine⟨k,cf.mp hc,?_⟩;rw[hU g];dsimp only[oS1];rw[ak a,b]
  ·exfalso;rw[beq_iff_eq]at a;exact d a.symm
noncomputable def sK(w:c9)(ws:List Wk)(dd:Wk->D)(ch:List Nat):List Wk:=ws.zipIdx.map λq=>if ch.contains q.2 then fe w q.1 (dd q.1)else q.1
theorem z5{w:c9}{ws:List Wk}{dd:Wk->D}:sK w ws dd []=ws:=(ik (λu:Wk=>u) ws).trans (cv _)
theorem w4{w:c9}{ws:List Wk}{dd:Wk->D}{ch:List Nat}{k:Nat}{u:Wk}(hk:ws[k]?=Z u):(sK w ws dd ch).set k (fe w u (dd u))=sK w ws dd (ch++[k]):=by
 have a:=(gE1.mp hk).1;apply List.ext_getElem?;intro j;unfold sK;by_cases z:k=j
 ·subst z;rw[aH (by rw[lM1,cG];exact a),gP1,cI,hk];simp
 ·rw[gS1 z,gP1,gP1,cI];cases ws[j]? with
  |none=>rfl
  |some v=>
   have:(ch++[k]).contains (0+j)=ch.contains (0+j):=by
    rw[bN,cf,cf,aF,cm];constructor
    ·rintro(h|h)
     ·exact h
     ·lia
    ·exact .inl
   simp only[oP1,this]
theorem z6{w:c9}{ws:List Wk}{dd:Wk->D}{ch:List Nat}:(sK w ws dd ch).length=ws.length:=by unfold sK;rw[lM1,cG]
theorem vM{w:c9}{ws:List Wk}{cs:List Nat}{u:Wk}:fe w u (nH (ky w ws cs u))=u:=by
 obtain⟨a,b,c⟩:=u;rfl
theorem Cr{w:c9}{ws:List Wk}{cs ch:List Nat}{e:E4}{L:List Rw}:sK w ws (ddW w ws cs e L) ch=(dX w ws cs e L ch).map λp=>fe w p.1 p.2:=by
 unfold sK dX;rw[bu];apply cq;rintro⟨u,k⟩ _;show _=fe w u (iT w ws cs e L ch (u,k));unfold iT;dsimp only;split
 ·rfl
 ·rw[vM]
noncomputable def V3(S:c6)(a b c:List D):c6:=S++[.lst a,.lst b,.lst c]
theorem Cu{S:c6}{a b c:List D}:(V3 S a b c)[S.length]?=Z (.lst a):=by unfold V3;rw[dV];rfl
theorem EX{S:c6}{a b c:List D}:(V3 S a b c)[S.length+1]?=Z (.lst b):=by unfold V3;rw[gv];rfl
theorem EV{S:c6}{a b c:List D}:(V3 S a b c)[S.length+2]?=Z (.lst c):=by unfold V3;rw[gv];rfl
theorem ET{S:c6}{a b c x:List D}:(V3 S a b c).set S.length (.lst x)=V3 S x b c:=by unfold V3;rw[cH _ _ (nR1 _),Nat.sub_self];rfl
theorem B3{S:c6}{a b c x:List D}:(V3 S a b c).set (S.length+1) (.lst x)=V3 S a x c:=by unfold V3;rw[cH _ _ (by lia),show S.length+1-S.length=1 by lia];rfl
theorem B2{S:c6}{a b c x:List D}:(V3 S a b c).set (S.length+2) (.lst x)=V3 S a b x:=by unfold V3;rw[cH _ _ (by lia),show S.length+2-S.length=2 by lia];rfl
theorem EU{S:c6}{a b c:List D}{n:Nat}{o:Ob}(h:S[n]?=Z o):(V3 S a b c)[n]?=Z o:=by unfold V3;rw[gL1 (gE1.mp h).1];exact h
theorem yE{S:c6}{a b c:List D}{x:Str}{h:Str}{rm i n:Nat}{xs:List Nat}{r:Ev}{T f:c6}{Q:Fl×Ev×c6->Prop}(e:r[12]? = some (some (.str x)))(m:r[8]? = some (some (.int (rm:Nat))))(hi:r[i]? = some (some (.ref n)))(hn:T[n]?=some (.lst (dF xs)))(p:xs.length<=1000)(ht:f=T.set n (.lst (dF (xs++if x == h then[rm]else[]))))(o:T.set n (.lst (dF xs))=T)(q:Q (.nx,r,f)):
  W (gg (mB (m2 (b2 oz) (mV 12) (mC (D.str h)))) (eE (ri (b2 jm) (mV i) (c4 (mV 8) c5))) nz r T) Q:=by
 have d:mV 12 r T=Z (.str x,T):=by simp[mV,e]
 have g:mV 8 r T=Z (.int (rm:Nat),T):=by simp[mV,m]
 have l:mV i r T=Z (.ref n,T):=by simp[mV,hi]
 unfold gg;rw[db];have j:mB (m2 (b2 oz) (mV 12) (mC (D.str h))) r T=Z (x == h,T):=by
  simp only[mB,m2,b2,d,mC,oS1,va]
 refine⟨_,j,?_⟩;dsimp only;cases hx:(x == h)with
 |true=>
  rw[ak O];rw[hx,ak O]at ht;unfold eE;rw[db];refine jE ?_;refine⟨_,l,n,dF xs,O,hn,?_⟩;have k:c4 (mV 8) c5 r T=Z ([.int (rm:Nat)],T):=by simp only[c4,g,c5,oS1]
  refine⟨_,k,?_⟩;refine(jF hn).mpr ⟨dj (by rw[fA];lia),?_⟩;dsimp only;have:dF xs++[D.int (rm:Nat)]=dF (xs++[rm]):=by simp[dF]
  rw[this,<- ht];exact dJ.mpr q
 |false=>
  rw[aj (by decide)];rw[hx,aj (by decide),aL,o]at ht;rw[<- ht];exact dJ.mpr q
theorem Bi {m:Nat}{w:c9}{ws:List Wk}{cs ch:List Nat}{e:E4}{F:List (TK×D)}{L:List Rw}{n k:Nat}{u:Wk}{S:c6}{chs:List Nat}{y8 y9 y10 y11 y12 y13:Option D}{Q:Fl×Ev×c6->Prop}(h:fP m w ws cs)(K:RL e F L)(hS:S[n]? = some (dO F))(hk:ws[k]? = some u)(hcl:ch.length<=100)
  (q:∀au U v s G C,Q (.nx,[Z (dA w),Z (owD e n),Z (de ws cs),Z (.tup (dF chs)),Z (.ref S.length),Z (.ref (S.length+1)),Z (.ref (S.length+2)),Z (.int (k:Nat)),au,U,v,s,G,C,Y],
   V3 S (dI (sK w ws (ddW w ws cs e L) (ch++[k]))) (dF (hE ws (ddW w ws cs e L) "mark" (ch++[k]))) (dF (hE ws (ddW w ws cs e L) "wipe" (ch++[k]))))):
  W (hj [Z (dA w),Z (owD e n),Z (de ws cs),Z (.tup (dF chs)),Z (.ref S.length),Z (.ref (S.length+1)),Z (.ref (S.length+2)),Z (.int (k:Nat)),y8,y9,y10,y11,y12,y13,Y]
   (V3 S (dI (sK w ws (ddW w ws cs e L) ch)) (dF (hE ws (ddW w ws cs e L) "mark" ch)) (dF (hE ws (ddW w ws cs e L) "wipe" ch)))) Q:=by
 have hf:=h.few;have i:=gM1 hk;obtain⟨f,o,_⟩:=h.wk u i;have hd:fH (ddW w ws cs e L u):=kP K.ok (h.ky u i);have e0:∀S,da (de ws cs) (.int 0) S=Z (.tup (dI ws),S):=λS=>rfl;have aq:∀S,da (owD e n) (.int 0) S=Z (nG e,S):=λS=>rfl;have eu:∀d,da (.tup (dI ws)) (.int (k:Nat)) d=Z (eQ u,d):=λd=>by
  obtain⟨p,e,h⟩:W (da (.tup (dI ws)) (.int (k:Nat)) d) λp=>p=(eQ u,d):=lz (by rw[dI,gP1,hk];rfl) O;rw[e,h]
 have H:=w4 (w:=w) (dd:=ddW w ws cs e L) (ch:=ch) hk;have I:=rD (dd:=ddW w ws cs e L) (h:="mark") (ch:=ch) hk;have y:=rD (dd:=ddW w ws cs e L) (h:="wipe") (ch:=ch) hk;have l1:=u4 ws (ddW w ws cs e L) "mark" ch;have l2:=u4 ws (ddW w ws cs e L) "wipe" ch;have N:=z6 (w:=w) (ws:=ws) (dd:=ddW w ws cs e L) (ch:=ch);have E:=(gE1.mp hk).1;rw[I,y,<- H]at q;unfold hj;generalize hA:sK w ws (ddW w ws cs e L) ch=A at *
 generalize hM:hE ws (ddW w ws cs e L) "mark" ch=ao at *
 generalize hP:hE ws (ddW w ws cs e L) "wipe" ch=P at *
 generalize hB:D.tup (dF chs)=B at *
 refine dL (λr V=>V=V3 S (dI A) (dF ao) (dF P)/\r=[Z (dA w),Z (owD e n),Z (de ws cs),Z B,Z (.ref S.length),Z (.ref (S.length+1)),Z (.ref (S.length+2)),Z (.int (k:Nat)),Z (.int u.1),Z (.int u.2.1),Z (.int u.2.2),y11,y12,y13,Y]) ?_ ?_
 ·((try walk_at"w");repeat(simp only[e0,eu];try walk_at"w"))
  unfold eQ;walk_at"w"
 rintro r V ⟨rfl,rfl⟩;have ex:=hd.eta.1;refine dL (λr V=>V=V3 S (dI A) (dF ao) (dF P)/\r=[Z (dA w),Z (owD e n),Z (de ws cs),Z B,Z (.ref S.length),Z (.ref (S.length+1)),Z (.ref (S.length+2)),Z (.int (k:Nat)),Z (.int u.1),Z (.int u.2.1),Z (.int u.2.2),Z (.int (dm (ddW w ws cs e L u):Nat)),Z (.str (dh (ddW w ws cs e L u))),Z (tD (dt (ddW w ws cs e L u))),Y]) ?_ ?_
 ·((try walk_at"w");repeat(simp only[aq];try walk_at"w"))
  refine yK hk o (by lia) ?_;rw[uA o];have ld:=λQ q=>Bh (k:=ky w ws cs u) (S:=V3 S (dI A) (dF ao) (dF P)) (Q:=Q) K (h.ky u i) (EU hS) q;walk_at"w";refine ld _ ?_;show W _ _;have x:kQ e L (ky w ws cs u) = .tup [.int (dm (ddW w ws cs e L u):Nat),.str (dh (ddW w ws cs e L u)),tD (dt (ddW w ws cs e L u))]:=ex;rw[x];walk_at"w"
 rintro r V ⟨rfl,rfl⟩;have g:fe w u (ddW w ws cs e L u)=match dt (ddW w ws cs e L u) with
   |some t=>match f[t]? with
    |some p=>(p.1,p.2+1,dm (ddW w ws cs e L u))
    |none=>(u.1,u.2.1,dm (ddW w ws cs e L u))
   |none=>(u.1,u.2.1,dm (ddW w ws cs e L u)):=by
  unfold fe;rw[o];rfl
 generalize hX:ddW w ws cs e L u=X at *
 generalize hm:dm X=dmx at *
 generalize hh:dh X=dhx at *
 generalize ht:dt X=dtx at *
 refine dL (λr V=>V=V3 S (dI A) (dF (ao++if dhx == "mark" then[u.1]else[])) (dF P)/\r=[Z (dA w),Z (owD e n),Z (de ws cs),Z B,Z (.ref S.length),Z (.ref (S.length+1)),Z (.ref (S.length+2)),Z (.int (k:Nat)),Z (.int u.1),Z (.int u.2.1),Z (.int u.2.2),Z (.int (dmx:Nat)),Z (.str dhx),Z (tD dtx),Y]) ?_ ?_
 ·refine yE (S:=S) (a:=[]) (b:=[]) (c:=[]) O O O EX (by lia) B3.symm B3 ?_;exact⟨O,O,O⟩
 rintro r V ⟨rfl,rfl⟩;generalize hM2:(ao++if dhx == "mark" then[u.1]else[])=M2 at *
 refine dL (λr V=>V=V3 S (dI A) (dF M2) (dF (P++if dhx == "wipe" then[u.1]else[]))/\r=[Z (dA w),Z (owD e n),Z (de ws cs),Z B,Z (.ref S.length),Z (.ref (S.length+1)),Z (.ref (S.length+2)),Z (.int (k:Nat)),Z (.int u.1),Z (.int u.2.1),Z (.int u.2.2),Z (.int (dmx:Nat)),Z (.str dhx),Z (tD dtx),Y]) ?_ ?_
 ·refine yE (S:=S) (a:=[]) (b:=[]) (c:=[]) O O O EV (by lia) B2.symm B2 ?_;exact⟨O,O,O⟩
 rintro r V ⟨rfl,rfl⟩;generalize hP2:(P++if dhx == "wipe" then[u.1]else[])=P2 at *
 have j:∀d,da (dA w) (.int (u.1:Nat)) d=Z (.tup (f.map pD),d):=λd=>by
  obtain⟨p,e,h⟩:W (da (dA w) (.int (u.1:Nat)) d) λp=>p=(.tup (f.map pD),d):=vA o O;rw[e,h]
 refine dL (λr V=>V=V3 S (dI A) (dF M2) (dF P2) /\ ∃a b:Nat,fe w u X=(a,b,dmx)/\r=[Z (dA w),Z (owD e n),Z (de ws cs),Z B,Z (.ref S.length),Z (.ref (S.length+1)),Z (.ref (S.length+2)),Z (.int (k:Nat)),Z (.int (a:Nat)),Z (.int (b:Nat)),Z (.int u.2.2),Z (.int (dmx:Nat)),Z (.str dhx),Z (tD dtx),Y]) ?_ ?_
 ·generalize V3 S (dI A) (dF M2) (dF P2)=V at *
  cases dtx with
  |none=>
   dsimp only at g;have l:lS (tD Y) .non V=Z (.bl J,V):=rfl
   ((try walk_at"w");repeat(simp only[l];try walk_at"w"))
   exact⟨_,_,g,O⟩
  |some t=>
   dsimp only at g;have l:∀d,lS (tD (Z t)) .non d=Z (.bl M,d):=λd=>rfl;have el:∀d,wP (tD (Z t)) (.int (f.length:Nat)) d=Z (.bl (decide ((t:Int)<(f.length:Int))),d):=λd=>rfl;by_cases wq:t<f.length
   ·have am:=gG1 wq;rw [am] at g;have e2:∀ d,da (.tup (f.map pD)) (tD (some t)) d=some (pD f[t],d):=fun d=>by
     obtain⟨p,e,h⟩:W (da (.tup (f.map pD)) (.int (t:Nat)) d) λp=>p=(pD f[t],d):=lz (by rw[gP1,am];rfl) O;show da (.tup (f.map pD)) (.int (t:Nat)) d=_;rw[e,h]
    generalize f[t]=p at *
    have T:∀d,da (pD p) (.int 0) d=Z (.int p.1,d):=λd=>rfl;have R:∀d,da (pD p) (.int 1) d=Z (.int p.2,d):=λd=>rfl
    ((try walk_at"w");repeat(simp only[l,j,gU,lM1,el];try walk_at"w"))
    rw[ak (by rw[al];lia)]
    ((try walk_at"w");repeat(simp only[j,e2,T,R];try walk_at"w"))
    rw[show(1:Int)+(p.2:Int)=((p.2+1:Nat):Int) by lia];exact⟨_,_,g,O⟩
   ·rw[bU (by lia)]at g
    ((try walk_at"w");repeat(simp only[l,j,gU,lM1,el];try walk_at"w"))
    rw[aj (by rw[al];lia)];exact⟨_,_,g,O⟩
 rintro r V ⟨rfl,a,b,z,rfl⟩;walk_at"w";refine Eu Cu (by rw[lK,N];exact E) ?_;rw[ET];have e3:(dI A).set k (D.tup [.int (a:Nat),.int (b:Nat),.int (dmx:Nat)])=dI (A.set k (fe w u X)):=by
  rw[z];unfold dI;rw[List.map_set];rfl
 rw[e3];exact q _ _ _ _ _ _
theorem Bj{m:Nat}{w:c9}{ws:List Wk}{cs ch:List Nat}{e:E4}{F:List (TK×D)}{L:List Rw}{n:Nat}{S:c6}{Q:D×c6->Prop}(h:fP m w ws cs)(rl:RL e F L)(hS:S[n]? = Z (dO F))(K:S.all (Ob.und S.length)=M)(I:∀ k∈ch,k<ws.length)(au:ch.length<=8)(q:Q (Bu m w (dX w ws cs e L ch) cs,S)):W (c7 4 ga [dA w,owD e n,de ws cs,.tup (dF ch)] S) Q:=by
 have B:D.unds 0 [dA w,owD e n,de ws cs,.tup (dF ch)]=J:=by
  have:(owD e n).und 0=J:=by simp[owD,D.und,D.unds]
  simp[D.unds,this]
 refine ln O B ?_;unfold ga
 refine kn ?_;unfold ly
 have hf:=h.few;have G:=h.web.len;have wq:=h.m8;have e0:∀S,da (de ws cs) (.int 0) S=Z (.tup (dI ws),S):=λS=>rfl;have X:∀S,da (de ws cs) (.int 1) S=Z (.tup (dF cs),S):=λS=>rfl;refine dL (λr V=>V=V3 S (dI (sK w ws (ddW w ws cs e L) [])) (dF (hE ws (ddW w ws cs e L) "mark" [])) (dF (hE ws (ddW w ws cs e L) "wipe" []))/\r=[Z (dA w),Z (owD e n),Z (de ws cs),Z (.tup (dF ch)),Z (.ref S.length),Z (.ref (S.length+1)),Z (.ref (S.length+2)),Y,Y,Y,Y,Y,Y,Y,Y]) ?_ ?_
 ·rw[z5]
  ((try walk_at"w");repeat(simp only[e0];try walk_at"w"))
  simp[rH,dn,V3,hE,dF];exact dJ.mpr ⟨by simp,O,by simp⟩
 rintro r V ⟨rfl,rfl⟩;refine dL (λr V=>V=V3 S (dI (sK w ws (ddW w ws cs e L) ch)) (dF (hE ws (ddW w ws cs e L) "mark" ch)) (dF (hE ws (ddW w ws cs e L) "wipe" ch)) /\ ∃t p s j g o l,r=[Z (dA w),Z (owD e n),Z (de ws cs),Z (.tup (dF ch)),Z (.ref S.length),Z (.ref (S.length+1)),Z (.ref (S.length+2)),t,p,s,j,g,o,l,Y]) ?_ ?_
 ·walk_at"w";rw[iQ];refine eY (λi r V=>V=V3 S (dI (sK w ws (ddW w ws cs e L) (ch.take i))) (dF (hE ws (ddW w ws cs e L) "mark" (ch.take i))) (dF (hE ws (ddW w ws cs e L) "wipe" (ch.take i))) /\ ∃t p s j g o l,r=[Z (dA w),Z (owD e n),Z (de ws cs),Z (.tup (dF ch)),Z (.ref S.length),Z (.ref (S.length+1)),Z (.ref (S.length+2)),t,p,s,j,g,o,l,Y]) (dF ch) 0 _ _ ⟨O,_,_,_,_,_,_,_,O⟩ (λ_ _ _ _=>rfl) ?_ ?_
  ·rintro i d v r V ⟨rfl,t,p,s,j,g,o,l,rfl⟩;unfold dF at v;rw[gP1]at v;obtain⟨k,N,rfl⟩:=oM1.mp v;have H:=gM1 N;obtain⟨u,B⟩:∃u,ws[k]?=some u:=⟨_,gG1 (I k H)⟩;have T:ch.take (i+1)=ch.take i++[k]:=by rw[b7,N];rfl
   rw[bK]at *
   rw[T];walk_at"w";refine Bi h rl hS B (by rw[aP];lia) λp s j g o l=>?_;exact⟨O,O,_,_,_,_,_,_,_,O⟩
  ·rintro r V ⟨rfl,t,p,s,j,g,o,l,rfl⟩;rw[fA,bK,bT];exact⟨O,O,_,_,_,_,_,_,_,O⟩
 rintro r V ⟨rfl,t,p,s,j,g,o,l,rfl⟩;have am:=λr=>yX (w:=w) (ws:=ws) (cs:=cs) (ch:=ch) (e:=e) (L:=L) (h:="mark") (by decide) (r:=r);have C:=λr=>yX (w:=w) (ws:=ws) (cs:=cs) (ch:=ch) (e:=e) (L:=L) (h:="wipe") (by decide) (r:=r);have E:=Cr (w:=w) (ws:=ws) (cs:=cs) (ch:=ch) (e:=e) (L:=L);generalize hE ws (ddW w ws cs e L) "mark" ch=ao at *
 generalize hE ws (ddW w ws cs e L) "wipe" ch=P at *
 generalize sK w ws (ddW w ws cs e L) ch=A at *
 have gm:∀x:Nat,hK (.int x) (.ref (S.length+1)) (V3 S (dI A) (dF ao) (dF P))=Z (.bl (pz (dX w ws cs e L ch) "mark" x),V3 S (dI A) (dF ao) (dF P)):=λx=>by rw[Ea EX,am]
 have U:∀x:Nat,iB (.int x) (.ref (S.length+2)) (V3 S (dI A) (dF ao) (dF P))=Z (.bl (!pz (dX w ws cs e L ch) "wipe" x),V3 S (dI A) (dF ao) (dF P)):=λx=>by rw[oe EV,C]
 refine dL (λr V=>V=V3 S (dI A) (dF ao) (dF P)++[.lst (dF (gJ m (dX w ws cs e L ch) cs))] /\ ∃t p s j g o l,r=[Z (dA w),Z (owD e n),Z (de ws cs),Z (.tup (dF ch)),Z (.ref S.length),Z (.ref (S.length+1)),Z (.ref (S.length+2)),t,p,s,j,g,o,l,Z (.ref (V3 S (dI A) (dF ao) (dF P)).length)]) ?_ ?_
 ·((try walk_at"w");repeat(simp only[pC];try walk_at"w"))
  rw[lg,Int.toNat_natCast,G];refine⟨gz (by lia),?_⟩;refine gx (f:=λx:Nat=>D.int x) (λx:Nat=>pz (dX w ws cs e L ch) "mark" x||(cs.contains x && !pz (dX w ws cs e L ch) "wipe" x)) (λx:Nat=>D.int x) (λr=>∃x,r=[x,Z (.ref (S.length+1)),Z (de ws cs),Z (.ref (S.length+2))]) O (af m) _ ⟨_,O⟩ ?_ λr' _=>?_
  ·rintro x hx r ⟨y,rfl⟩
   ((try walk_at"w");repeat(simp only[gm,X,uZ,U];try walk_at"w"))
   cases pz (dX w ws cs e L ch) "mark" x with
   |true=>exact⟨O,⟨_,O⟩,λ_=>trivial⟩
   |false=>
    cases cs.contains x with
    |true=>exact⟨O,⟨_,O⟩,λ_=>trivial⟩
    |false=>exact⟨O,⟨_,O⟩,λ_=>trivial⟩
  ·have R:=cD (λx:Nat=>pz (dX w ws cs e L ch) "mark" x||(cs.contains x && !pz (dX w ws cs e L ch) "wipe" x)) (af m);rw[cJ]at R;walk_at"w";exact⟨dj (by rw[lM1];lia),O,_,_,_,_,_,_,_,O⟩
 rintro r V ⟨rfl,t,p,s,j,g,o,l,rfl⟩;generalize z:V3 S (dI A) (dF ao) (dF P)++[.lst (dF (gJ m (dX w ws cs e L ch) cs))]=V;have g0:V[S.length]?=Z (.lst (dI A)):=by rw[<- z,gL1 (gE1.mp (Cu (S:=S) (a:=dI A) (b:=dF ao) (c:=dF P))).1];exact Cu
 have g1:V[(V3 S (dI A) (dF ao) (dF P)).length]?=Z (.lst (dF (gJ m (dX w ws cs e L ch) cs))):=by rw[<- z,cC]
 walk_at"w";refine dM g0 ?_;refine dM g1 ?_;have aq:D.tup [.tup (dI A),.tup (dF (gJ m (dX w ws cs e L ch) cs))]=Bu m w (dX w ws cs e L ch) cs:=by rw[E];rfl
 rw[aq,tR kj K (by rw[<- z];unfold V3;rw[aY];exact bv _ _)];exact q
noncomputable def kK:List E4:=[(J,J,J,J),(M,J,J,J),(J,J,M,J),(J,M,J,J),(J,J,J,M),(M,J,M,J),(J,M,J,M),(J,J,M,M)]
noncomputable def vH(b:Bool)(n:Nat):List Nat:=if b then af (n+1)else[0]
noncomputable def KS(e:E4)(m:Nat):List Ky:=(vH e.1 4).flatMap λx=>(vH e.2.1 1).flatMap λy=>(vH e.2.2.1 4).flatMap λz=>(vH e.2.2.2 1).map λw=>⟨m,x,y,z,w⟩
noncomputable def GT:Ob->Bool
 | .lst xs=>D.unds 0 xs
 |_=>J
theorem uX{o:Ob}(h:GT o=M):o.und 0=M /\ ∀n,o.sh n=o:=by
 unfold GT at h;split at h
 ·rename_i xs;exact⟨by rw[Ob.und];exact h,λn=>by rw[Ob.sh,gP h]⟩
 ·cases h
noncomputable def Gv(e:E4):Bool:=match fh [nG e] []with
 |some (.ref j,G)=>(match G[j]? with
  |some (.lst xs)=>D.sames xs ((KS e 0).map λk=>k.sg e)
  |_=>J)&&G.all GT
 |_=>J
theorem BH:∀e∈kK,Gv e=M:=by
 intro e a;simp only[kK,aE,bI,or_false]at a;rcases a with rfl|rfl|rfl|rfl|rfl|rfl|rfl|rfl<;>kernel_rfl!
theorem Ff{e:E4}(m a:Nat):(KS e m).map (λk=>k.sg e)=(KS e a).map λk=>k.sg e:=by
 unfold KS;simp only[List.map_flatMap,bu];rfl
theorem xE{e:E4}{S:c6}{Q:D×c6->Prop}(he:e∈kK)(q:∀j G,(∀o∈G,o.und 0=M)->(S++G)[S.length+j]?=Z (.lst ((KS e 0).map λk=>k.sg e))->Q (.ref (S.length+j),S++G)):W (c7 1 fh [nG e] S) Q:=by
 have hc:=BH e he;unfold Gv at hc;split at hc
 ·rename_i j G d;rw[bA1]at hc;obtain⟨h1,h2⟩:=hc;split at h1
  ·rename_i xs f;have ex:=D.sames_eq h1;subst ex;have b:∀o∈G,GT o=M:=bB.mp h2;refine⟨_,i7 d O (by rw[D.unds,gX];rfl) (by simp[D.und]),?_⟩;have c:G.map (Ob.sh S.length)=G:=(cq λo a=>(uX (b o a)).2 _).trans (cv _);rw[c];exact q j G (λo a=>(uX (b o a)).1) (by rw[gv];exact f)
  ·cases h1
 ·cases hc
theorem vC{e:E4}{m:Nat}(hm:m<4000):∀k∈KS e m,k.Ok/\k.m=m:=by
 intro k c;unfold KS at c;obtain⟨x,i,c⟩:=cK.mp c;obtain⟨y,g,c⟩:=cK.mp c;obtain⟨z,j,c⟩:=cK.mp c;obtain⟨w,h,rfl⟩:=b6.mp c;have d:∀b n (a:Nat),a∈vH b n->a<=n:=λb n a f=>by
  unfold vH at f;split at f
  ·have:=aB.mp f;lia
  ·rw[cm.mp f];exact bm _
 have h1:=d _ _ _ i;have h2:=d _ _ _ g;have l:=d _ _ _ j;have o:=d _ _ _ h;exact⟨⟨hm,h1,by show y<=4;lia,l,by show w<=4;lia⟩,O⟩
theorem BX:∀e∈kK,((KS e 0).map λk=>nJ e.bs k.xs).Pairwise (· < ·):=by decide+kernel
theorem EG:∀e∈kK,(KS e 0).length<=25:=by decide+kernel
theorem Ck(e:E4)(m:Nat):KS e m=(KS e 0).map λk=>{k with m:=m}:=by
 unfold KS;simp only[List.map_flatMap,bu];rfl
theorem EH{e:E4}(he:e∈kK){m:Nat}:(KS e m).Pairwise λa b=>a.code e<b.code e:=by
 have h:=cw.mp (BX e he);rw[Ck,cw];refine h.imp ?_;intro a b c;unfold Ky.code;exact Nat.add_lt_add_left c _
noncomputable def lJ(e:E4)(n:Nat):List Ky:=(af n).flatMap (KS e)
theorem zE{e:E4}(he:e∈kK){n:Nat}(hn:n<=4000):(lJ e n).Pairwise λa b=>a.code e<b.code e:=by
 unfold lJ;rw[List.pairwise_flatMap];refine⟨λm _=>EH he,?_⟩;refine List.Pairwise.imp_of_mem ?_ b4;intro m i f c g a h b d;have h1:=aB.mp f;have h2:=aB.mp c;obtain⟨a1,a2⟩:=vC (e:=e) (m:=m) (by lia) a h;obtain⟨b1,b2⟩:=vC (e:=e) (m:=i) (by lia) b d;have j:=ij a1 e;have k:=ij b1 e;unfold Ky.code;rw[a2,b2];lia
theorem eX{V G:c6}{i:Nat}{o:Ob}(h:V[i]?=Z o):(V++G)[i]?=Z o:=by
 rw[gL1 (gE1.mp h).1];exact h
theorem yA{c n k:Nat}{U V:c6}{xs:List D}{Q:D×c6->Prop}(s:HS c U V)(h:V[n]?=Z (.lst xs))(hk:k<xs.length)(q:∀x,x∈xs->Q (x,V)):W (da (.ref n) (.int (k:Nat)) V) Q:=
 oT h (gG1 hk) (q _ (bP hk))
theorem Fh{c i e p j:Nat}{U V:c6}{xs:List D}{o:Ob}{E sg B:D}{y8 y9:Option D}{Q:Fl×Ev×c6->Prop}(s:HS c U V)(hc:c<=2^45)(hk:V[e]? = some (.lst xs))(F:D.unds 0 xs=true)(R:xs.length<=1000)(K:U.length<=e)(hs:V[p]? = some o)(f:0<p)(hjk:p≠e)(m0:0<j)(m3:j<=3)(L:sg.und 0=true)(aq:∀a C G,HS (c+4) U a->a[p]?=some o->a[e]?=some (.lst xs)->Q (.nx,[some (.ref 0),some (.bl true),some B,some E,some (.int (j:Nat)),some (.ref e),some (.int (i:Nat)),some sg,C,G],a))(P:∀a C G x,fH x->HS (c+4) U a->a[p]?=some o->a[e]?=some (.lst (xs++[.tup [.tup [.int (i:Nat),sg],x]]))->Q (.nx,[some (.ref 0),some (.bl true),some B,some E,some (.int (j:Nat)),some (.ref e),some (.int (i:Nat)),some sg,C,G],a)):
  W (fL [Z (.ref 0),Z (.bl M),Z B,Z E,Z (.int (j:Nat)),Z (.ref e),Z (.int (i:Nat)),Z sg,y8,y9] V) Q:=by
 have hp:=s.pos;unfold fL;refine dL (λr a=>∃q,q∈m5/\HS (c+1) U a/\a[p]?=Z o/\a[e]?=Z (.lst xs)/\r=[Z (.ref 0),Z (.bl M),Z B,Z E,Z (.int (j:Nat)),Z (.ref e),Z (.int (i:Nat)),Z sg,Z q,y9]) ?_ ?_
 ·walk_at"w";refine draw_W (s.app1 (o:=.lst [.str "leave",.str "leave",.str "mark",.str "wipe"]) rfl) (by lia) (by lia) (by lia) fun d wq A l l1 q=>?_;have au:∀ S,i5 (.int (d:Nat)) (.int 1) S=some (.int (d:Nat),S):=fun S=>by
   simp only[i5];rw[ak (rf (by decide) (by decide)),Int.mul_one]
  have ei:∀S,lH (.bl M) S=Z (.int 1,S):=λS=>rfl
  ((try walk_at"w");repeat(simp only[ei,au];try walk_at"w"))
  refine yA (xs:=[.str "leave",.str "leave",.str "mark",.str "wipe"]) A (l.at (by rw[dV];rfl) (by have:=s.len;lia)) (by show d<4;lia) λx h=>?_;refine⟨x,?_,A,l.at (eX hs) f,l.at (eX hk) (by have:=s.len;lia),O⟩;simp only[aE,bI,or_false]at h;rcases h with rfl|rfl|rfl|rfl<;>simp[m5]
 rintro r wq ⟨q,I,A,am,H,rfl⟩;refine dL (λr a=>∃x,fH x/\HS (c+3) U a/\a[p]?=Z o/\a[e]?=Z (.lst xs)/\r=[Z (.ref 0),Z (.bl M),Z B,Z E,Z (.int (j:Nat)),Z (.ref e),Z (.int (i:Nat)),Z sg,Z q,Z x]) ?_ ?_
 ·walk_at"w";refine draw_W A (by lia) (by lia) (by lia) λd V2 t w l2 N=>?_;have m:=w.at am f;have k:=w.at H (by have:=A.len;lia);walk_at"w";refine draw_W (t.app1 (o:=.lst [.non,.int 0,.int 1,.int 0,.int 2,.int 1,.int 3,.int 0]) O) (by lia) (by lia) (by lia) λT V3 u b l3 X=>?_;walk_at"w";refine yA (xs:=[.non,.int 0,.int 1,.int 0,.int 2,.int 1,.int 3,.int 0]) u (b.at (by rw[dV];rfl) (by have:=t.len;lia)) (by show T<8;lia) λx h=>?_;refine⟨_,⟨d,q,x,O,by lia,I,?_⟩,u,b.at (eX m) f,b.at (eX k) (by have:=s.len;lia),O⟩;simp only[aE,bI,or_false]at h;rcases h with rfl|rfl|rfl|rfl|rfl|rfl|rfl|rfl<;>simp[nR]
 rintro r V2 ⟨x,h,t,m,k,rfl⟩;walk_at"w";refine draw_W t (by lia) (by lia) (by lia) λd V3 u b l3 N=>?_;have z:=b.at m f;have g:=b.at k (by have:=t.len;lia);walk_at"w";split
 ·refine jE ?_;walk_at"w";refine⟨e,xs,O,g,?_⟩;refine(jF g).mpr ⟨dj (by lia),?_⟩;have ao:=(gE1.mp g).1;refine P _ _ _ x h (u.set K ?_) (by rw[gS1 (by lia)];exact z) (by rw[aH ao]);rw[Ob.und];refine gC.mpr λy v=>?_;rcases aF.mp v with v|v
  ·exact d6 (gC.mp F y v)
  ·rw[cm.mp v];have h1:=d6 (n:=V3.length) L;have h2:=d6 (n:=V3.length) h.und;simp[D.und,D.unds,h1,h2]
 ·exact aq _ _ _ u z g
inductive MI (c:Nat)(U:c6)(e:E4)(mo kr b:Nat)(ks:List Ky)(x2:D)(r:Ev)(V:c6):Prop where
 |mk (L:List Rw) (y6 y7 y8 y9:Option D) (h1:HS c U V) (h2:V[kr]?=some (.lst (L.map (ea e)))) (h3:(L.map (·.1)).Sublist ks) (h4:∀p∈L,fH p.2) (h5:L.length<=b)
  (h6:r=[some (.ref 0),some (.bl true),some x2,some (nG e),some (.int (mo:Nat)),some (.ref kr),y6,y7,y8,y9]):MI c U e mo kr b ks x2 r V
theorem Aj{e:E4}{L:List Rw}{n:Nat}(hn:n<=4000)(f:(L.map (·.1)).Sublist (lJ e n))(b:∀p∈L,fH p.2):∀p∈L,e9 p:=λp a=>by
 have:=f.subset (b6.mpr ⟨p,a,O⟩);obtain⟨m,c,d⟩:=cK.mp this;exact⟨(vC (m:=m) (by have:=aB.mp c;lia) _ d).1,b p a⟩
theorem wH(e:E4)(n:Nat):lJ e (n+1)=lJ e n++KS e n:=by
 unfold lJ;rw[List.range_succ,List.flatMap_append];simp
theorem mz{e:E4}{p:Rw}(h:fH p.2):(ea e p).und 0=M:=by
 simp[ea,D.und,D.unds,Ky.und p.1 e 0,h.und]
theorem DH{c i f g:Nat}{U V:c6}{e:E4}{s:D}{r:Ev}(he:e∈kK)(hc:c<=2^44)(hi:i<f)(au:f<=3)(E:U.length<=g)(h:MI c U e f g (25*i) (lJ e i) s r V)(hr:r[6]? = some (some (.int (i:Nat)))):
  W (fK r V) λp=>p.1 = .nx/\MI (c+100) U e f g (25*(i+1)) (lJ e (i+1)) s p.2.1 p.2.2:=by
 obtain⟨L,N,Q,R,y9,h1,h2,h3,h4,h5,rfl⟩:=h;rw[show([Z (.ref 0),Z (.bl M),Z s,Z (nG e),Z (.int (f:Nat)),Z (.ref g),N,Q,R,y9]:Ev)[6]?=Z N from rfl]at hr;cases hr;have b:=h1.pos;have u:=EG e he;have X:(KS e i).length<=25:=by rw[Ck,lM1];exact u
 unfold fK;walk_at"w";refine xE he λj G S z=>?_;have wq:=(gE1.mp h2).1;refine dM z ?_;dsimp only;rw[Ff 0 i];rw[Ff 0 i]at z;refine eY (λt r l=>l[V.length+j]?=Z (.lst ((KS e i).map λk=>k.sg e))/\t<=25/\MI (c+4*t) U e f g (25*i+t) (lJ e i++(KS e i).take t) s r l/\r[6]?=Z (Z (.int (i:Nat)))) _ 0 _ _ ⟨z,by lia,⟨L,_,_,_,_,h1.app λo ho=>ff (bm _) (S o ho),eX h2,by simpa using h3,h4,by lia,O⟩,O⟩ ?_ ?_ ?_
 ·rintro t r l ⟨a,_⟩;exact fi a
 ·rintro t d ao r l ⟨a,P,⟨w,A,K,H,I,F,B,q,n,g5,rfl⟩,hr⟩;rw[show([Z (.ref 0),Z (.bl M),Z s,Z (nG e),Z (.int (f:Nat)),Z (.ref g),A,K,H,I]:Ev)[6]?=Z A from rfl]at hr;cases hr;rw[gP1]at ao;obtain⟨k,y,rfl⟩:=oM1.mp ao;have am:=(gE1.mp y).1;have C:k.m=i:=(vC (e:=e) (m:=i) (by lia) k (gM1 y)).2;have v:(KS e i).take (t+1)=(KS e i).take t++[k]:=by rw[b7,y];rfl
  rw[bK]at *
  walk_at"w";refine Fh F (by lia) B (Mi.dv λp b=>mz (n p b)) (by rw[lM1];lia) E a (by lia) (by lia) (by lia) au (k.sgu e 0) (λV2 a8 T b1 b2 b3=>?_) λV2 a8 T x aq b1 b2 b3=>?_
  ·refine⟨O,b2,by lia,⟨w,_,_,_,_,b1.more (by lia),b3,?_,n,by lia,O⟩,O⟩;rw[v,<- aY];exact q.trans (List.sublist_append_left _ _)
  ·have er:D.tup [.tup [.int (i:Nat),k.sg e],x]=ea e (k,x):=by rw[<- C];rfl
   rw[er]at b3;refine⟨O,b2,by lia,⟨w++[(k,x)],_,_,_,_,b1.more (by lia),by rw[b5];exact b3,?_,λp b=>?_,by rw[lA1];simp;lia,O⟩,O⟩
   ·rw[v,<- aY,b5];exact q.append (List.Sublist.refl _)
   ·rcases aF.mp b with b|b
    ·exact n p b
    ·rw[cm.mp b];exact aq
 ·rintro r l ⟨a,P,⟨w,A,K,H,I,F,B,q,n,g5,rfl⟩,hr⟩;rw[lM1,bK]at *
  rw[bT,<- wH]at q;exact⟨O,w,_,_,_,_,F.more (by lia),B,q,n,by lia,O⟩
theorem v7{c:Nat}{B U:c6}{Q:D×c6->Prop}(s:HS c B U)(hc:c<=2^40)(q:∀e L m,Inc e L->(∀p∈L,e9 p)->L.length<=75->HS (c+400) B m->HS (c+400) U m->m.length=U.length->Q (mcD e L,m)):W (c7 2 eT [.ref 0,.bl M] U) Q:=by
 refine oJ (c':=c+400) O O s ?_;have ao:=s.pos;have hbl:=s.len;unfold eT;refine kn ?_;unfold ja;refine dL (λr V=>V=U++[.lst [D.tup [],.tup [.str "came"],.tup [.str "doors"],.tup [.str "chalk"],.tup [.str "others"],.tup [.str "came",.str "doors"],.tup [.str "chalk",.str "others"]]]/\r=[Z (.ref 0),Z (.bl M),Z (.ref U.length),Y,Y,Y,Y,Y,Y,Y]) ?_ ?_
 ·walk_at"w"
 rintro r V ⟨rfl,rfl⟩;generalize P:[D.tup [],.tup [.str "came"],.tup [.str "doors"],.tup [.str "chalk"],.tup [.str "others"],.tup [.str "came",.str "doors"],.tup [.str "chalk",.str "others"]]=ms;have y:D.unds 0 ms=M/\ms.length=7/\ms++[D.tup [.str "doors",.str "others"]]=kK.map nG:=by rw[<- P];exact⟨O,O,O⟩
 obtain⟨u1,u2,u3⟩:=y;clear P;refine dL (λr V=>∃e g,e∈kK/\0<g/\g<=3/\HS (c+2) U V/\r=[Z (.ref 0),Z (.bl M),Z (.ref U.length),Z (nG e),Z (.int (g:Nat)),Y,Y,Y,Y,Y]) ?_ ?_
 ·have um:D.unds 0 (kK.map nG)=M:=Mi.dv λe _=>gX e;walk_at"w";have au:(U++[Ob.lst ms]++[Ob.lst [D.tup [.str "doors",.str "others"]]])[U.length]?=Z (.lst ms):=eX (by rw[dV];rfl);have I:(U++[Ob.lst ms]++[Ob.lst [D.tup [.str "doors",.str "others"]]])[(U++[Ob.lst ms]).length]?=Z (.lst [D.tup [.str "doors",.str "others"]]):=by rw[cC]
  have K:=(s.here.app1 (o:=.lst ms) (by rw[Ob.und];exact u1)).app1 (o:=.lst [D.tup [.str "doors",.str "others"]]) O;simp only[aY,lA1,lC1,bh]at au I K ⊢;refine(ub au I).mpr ⟨dj (by rw[u2];decide),?_⟩;rw[u3];have R:=K.app1 (o:=.lst (kK.map nG)) (by rw[Ob.und];exact um);refine FH R (by lia) (xs:=kK.map nG) (by rw[cC]) (by simp) (by decide) (by decide) (λx A=>by obtain⟨e,_,rfl⟩:=b6.mp A;exact gX e) λx V2 A X s3' l3=>?_;obtain⟨e,u,rfl⟩:=b6.mp A;walk_at"w";refine draw_W X (by lia) (by lia) (by lia) λd V3 s4 aq l4 w=>?_;walk_at"w";exact⟨e,d+1,u,by lia,by lia,s4,by simp[Int.add_comm]⟩
 rintro r V ⟨e,g,u,m0,wq,N,rfl⟩;have G:=N.len;refine dL (λr V=>∃t,U.length<=t/\MI (c+2) U e g t (25*0) (lJ e 0) (.ref U.length) r V) ?_ ?_
 ·walk_at"w";exact⟨V.length,G,[],_,_,_,_,N.app1 O,by rw[cC];rfl,List.Sublist.refl _,λp ao=>(by cases ao),by simp,O⟩
 rintro r V ⟨t,z,k⟩;refine dL (λr V=>MI (c+2+100*g) U e g t (25*g) (lJ e g) (.ref U.length) r V) ?_ ?_
 ·have er:r[4]? = some (some (.int (g:Nat))):=by
   obtain⟨_,_,_,_,_,_,_,_,_,_,rfl⟩:=k;rfl
  unfold fO;rw[db,zL];refine W.of (x:=([.int (g:Nat)],V)) (by simp only[c4,c5,mV,er,oS1]) ?_;unfold EK;dsimp only;rw[Int.toNat_natCast];refine⟨gz (by lia),?_⟩;refine eY (λi r V=>i<=g/\MI (c+2+100*i) U e g t (25*i) (lJ e i) (.ref U.length) r V) _ 0 _ _ ⟨bm _,k⟩ (λ_ _ _ _=>rfl) ?_ ?_
  ·rintro i d w r V ⟨hi,k⟩;have j:=(gE1.mp w).1;rw [fg] at j;have H:d = .int (i:Nat):=by
    rw[lg,gP1,ca j]at w;exact(Option.some.inj w).symm
   subst H;rw[bK]at *
   obtain⟨L,y6,y7,y8,y9,h1,h2,v,F,am,rfl⟩:=k;walk_at"w";refine(DH u (by lia) j wq z ⟨L,_,_,_,_,h1,h2,v,F,am,O⟩ O).mono ?_;rintro⟨f,r2,V2⟩ ⟨T,E⟩;exact⟨T,by lia,E⟩
  ·rintro r V ⟨hi,k⟩;rw[fg,bK]at k;exact⟨O,k⟩
 rintro r V ⟨L,y6,y7,y8,y9,h1,h2,v,F,am,rfl⟩;have ok:=Aj (by lia) v F;have C:Inc e L:=by
  have:=(zE u (n:=g) (by lia)).sublist v;exact List.Pairwise.of_map (S:=λa b:Ky=>a.code e<b.code e) (·.1) (λa b h=>h) this
 walk_at"w";refine dM h2 ?_;exact⟨h1.more (by lia),gu ok,λm a b l=>q e L m C ok (by lia) a b l⟩
noncomputable def sX(e:E4)(L:List Rw):List (TK×D):=L.map λp=>(p.1.tk e,p.2)
theorem xL{e:E4}{L:List Rw}(ok:∀p∈L,e9 p){k:Ky}(hk:k.Ok):dH (sX e L) (k.tk e)=(L.find? λp=>decide (p.1.code e=k.code e)).map (·.2):=by
 unfold sX
 induction L with
 |nil=>rfl
 |cons p L ih=>
  have ih:=ih λq b=>ok q (mC1 _ b);rw[mP1,eZ,bf];have a:=uw (e:=e) (ok p mS1).1 hk;by_cases z:p.1.code e=k.code e
  ·rw[ak (a.mpr z),ah z];rfl
  ·rw[aj (λy=>z (a.mp y)),ai z];exact ih
theorem CK{e:E4}{L:List Rw}(c:Inc e L)(ok:∀p∈L,e9 p):((sX e L).map (·.1)).Nodup:=by
 unfold sX;rw[bu];refine cw.mpr (List.Pairwise.imp_of_mem ?_ c);intro a b d f g z;have:=(uw (e:=e) (ok a d).1 (ok b f).1).mp z;lia
theorem vd:∀(ps acc:List (TK×D)),((acc++ps).map (·.1)).Nodup->ps.foldl (λF p=>fG F p.1 p.2) acc=acc++ps
 |[],acc,_=>by simp
 |p::ps,acc,nd=>by
  have e:fG acc p.1 p.2=acc++[p]:=by
   unfold fG;rw[aj];intro y;obtain⟨q,a,e⟩:=bO.mp y;rw[b5,bx]at nd;exact nd.2.2 _ (b6.mpr ⟨q,a,O⟩) _ (b6.mpr ⟨p,mS1,O⟩) (of_decide_eq_true e)
  rw[aZ,e,vd ps (acc++[p]) (by rw[aY];exact nd),aY];rfl
theorem mK{e:E4}:∀L:List Rw,iU (L.map (ea e))=Z (sX e L)
 |[]=>rfl
 |p::L=>by
  rw[mP1,iU,mK L];have:=p.1.keyT e;simp only[ea,uK,this,oP1,oS1];rfl
theorem Eg(F:List (TK×D)):Ip F=dO F:=by cases F<;>rfl
theorem Gr{F:List (TK×D)}{n:Nat}(h:∀p∈F,p.2.und 0=M):(dO F).sh n=dO F:=by
 have e:(F.map λp=>(p.1,p.2.sh n))=F:=(cq (g:=id) λp b=>by rw[sU (h p b)];rfl).trans (cv _);cases F with
 |nil=>rfl
 |cons a F=>show Ob.dcT _=Ob.dcT _;rw[e]
theorem BG{F:List (TK×D)}{n:Nat}(h:∀p∈F,p.2.und 0=M):(dO F).und n=M:=by
 cases F with
 |nil=>rfl
 |cons a F=>show Ob.und n (.dcT _)=M;rw[Ob.und];exact Mi.dv λp b=>d6 (h p b)
theorem Fk{e:E4}{L:List Rw}(a:Inc e L)(ok:∀p∈L,e9 p)(c:L.length<=4000):RL e (sX e L) L:=⟨a,ok,c,λk b=>xL ok b⟩
theorem FB{e:E4}{L:List Rw}{S:c6}{Q:D×c6->Prop}(c:Inc e L)(ok:∀p∈L,e9 p)(r:L.length<=4000)(q:Q (owD e (S.length+1),S++[.lst (L.map (ea e)),dO (sX e L)])):W (c7 1 fM [mcD e L] S) Q:=by
 have k:D.unds 0 (L.map (ea e))=M:=Mi.dv λp a=>mz (ok p a).2;have m:∀p∈sX e L,p.2.und 0=M:=λp a=>by
  obtain⟨x,i,rfl⟩:=b6.mp a;exact(ok x i).2.und
 have b:W (fM [mcD e L] []) λp=>p=(owD e 1,[.lst (L.map (ea e)),dO (sX e L)]):=by
  unfold fM;refine kn ?_;unfold ny;have h:∀S,da (mcD e L) (.int 0) S=Z (nG e,S):=λS=>rfl;have g:∀S,da (mcD e L) (.int 1) S=Z (.tup (L.map (ea e)),S):=λS=>rfl;have l:rH (.tup (L.map (ea e))) []=Z (.ref 0,[.lst (L.map (ea e))]):=by simp[rH,dn]
  have j:m9 (.ref 0) [.lst (L.map (ea e))]=Z (.ref 1,[.lst (L.map (ea e)),dO (sX e L)]):=by
   unfold m9;rw[fQ (S:=[.lst (L.map (ea e))]) (n:=0) O];dsimp only;rw[mK,oS1,lM1,ak (by lia)];have:lj (sX e L)=sX e L:=by
    unfold lj;rw[vd _ _ (by rw[ci];exact CK c ok),ci]
   rw[this,Eg];rfl
  ((try walk_at"w");repeat(simp only[h,g,l,j];try walk_at"w"))
  rfl
 obtain⟨p,o,rfl⟩:=b;refine⟨_,i7 o O (by rw[D.unds,gu ok];rfl) (by simp[owD,D.und,D.unds]),?_⟩;have f:(owD e 1).sh S.length=owD e (S.length+1):=by simp[owD,D.sh,D.shs,sU (gX e)]
 have d:[Ob.lst (L.map (ea e)),dO (sX e L)].map (Ob.sh S.length)=[Ob.lst (L.map (ea e)),dO (sX e L)]:=by
  rw[mP1,mP1,bc,Ob.sh,gP k,Gr m]
 rw[f,d];exact q
theorem Gs(xs:List D)(k:Nat):Mi.sa xs Y (Z (k:Int))=xs.take k:=by
 unfold Mi.sa;rw[HT.xK,HT.Ai,List.drop_zero,Nat.sub_zero];by_cases h:k<=xs.length
 ·rw[bA h]
 ·rw[Nat.min_eq_right (by lia),bT,b0 (by lia)]
theorem zI{m hm:FE}{r:Ev}{S:c6}{Q:D×c6->Prop}(h:W (m r S) λp=>∃n,p.1 = .ref n/\W (hm r p.2) λb=>∃(k:Nat) (xs:List D),b.1 = .int (k:Nat)/\b.2[n]?=Z (.lst xs)/\Q (.ref b.2.length,b.2++[.lst (xs.take k)])):W (jK m gh (fV hm) r S) Q:=by
 obtain⟨⟨d,c⟩,i,n,e,⟨⟨l,j⟩,g,k,xs,a,f,q⟩⟩:=h;dsimp only at e g a f q;subst e a;rw[<- Gs]at q;refine W.of ?_ q;unfold jK;rw[i,oS1];dsimp only;rw[show gh r c=Z (Y,c)from rfl,oS1];dsimp only;rw[show fV hm r c=Z (Z (k:Int),j) by unfold fV;rw[g];rfl,oS1];simp only[sR,fQ f,oP1,if_true]
theorem Ci{m:FA}{k:Nat}{r:Ev}{S S1:c6}{Q:D×c6->Prop}(hm:m r S=Z ([.int (k:Nat)],S1))(hk:k<=1000)(q:Q (.ref S1.length,S1++[.lst (dF (af k))])):W (tL m r S) Q:=by
 have e:hC 0 k=dF (af k):=by rw[lg];rfl
 rw[<- e]at q;refine W.of ?_ q;unfold tL;rw[hm,oS1];dsimp only;rw[ak (by
  unfold nZ;simp only[bA1,al];lia),Int.toNat_natCast]
theorem yo{m:Nat}:∀{ys:List D},(∀y∈ys,y∈dF (af m)) -> ∃rs:List Nat,ys=dF rs /\ ∀r∈rs,r<m
 |[],_=>⟨[],O,λr b=>by cases b⟩
 |y::ys,h=>by
  obtain⟨rs,e,b⟩:=yo λz c=>h z (mC1 _ c);obtain⟨r,h1,rfl⟩:=b6.mp (h y mS1);refine⟨r::rs,by rw[e];rfl,λx a=>?_⟩;rcases aE.mp a with rfl|a
  ·exact aB.mp h1
  ·exact b x a
theorem uO(rs:List Nat)(k:Nat):(dF rs).take k=dF (rs.take k):=by unfold dF;rw[cM]
noncomputable def kT(xs:List Nat):List Nat:=(gO (xs.map λ(r:Nat)=>(r:Int))).map Int.toNat
theorem me(xs:List Nat):(kT xs).Perm xs:=by
 have:=(eS (xs.map λ(r:Nat)=>(r:Int))).map Int.toNat
 rw[bu]at this;have e:(Int.toNat∘λ(r:Nat)=>(r:Int))=id:=by funext x;simp
 rw[e,cv]at this;exact this
theorem xz(xs:List Nat):(gO (xs.map λ(r:Nat)=>(r:Int))).map D.int=dF (kT xs):=by
 unfold dF kT;rw[bu];refine cq λi hi=>?_;obtain⟨x,_,rfl⟩:=b6.mp ((eS _).mem_iff.mp hi);rfl
theorem yS(xs:List Nat):ki (dF xs)=Z (xs.map λ(r:Nat)=>(r:Int)):=by
 induction xs with
 |nil=>rfl
 |cons x xs ih=>
  show(ki (dF xs)).map _=_;rw[ih];rfl
theorem zG{S:c6}{n:Nat}{xs:List Nat}{Q:D×c6->Prop}(h:S[n]?=Z (.lst (dF xs)))(a:xs.length<64)(q:Q (.ref S.length,S++[.lst (dF (kT xs))])):W (ji (.ref n) S) Q:=by
 refine W.of ?_ q;unfold ji;simp only[h];rw[yS,oS1,ak (by rw[lM1];exact a),xz]
theorem CD{c m lo:Nat}{B U:c6}{Q:D×c6->Prop}(s:HS c B U)(hc:c<=2^44)(hm:m<=8)(F:lo<=m)(q:∀e f,(∀r∈e,r<m)->e.length<=m->lo<=e.length->HS (c+9) B f->HS (c+9) U f->f.length=U.length->Q (.tup (dF e),f)):W (c7 3 fZ [.ref 0,.int m,.int lo] U) Q:=by
 refine oJ (c':=c+9) O O s ?_;have ao:=s.pos;have w:=s.len;unfold fZ;refine kn ?_;unfold lv;refine dL (λr V=>∃e,(∀r∈e,r<m)/\e.length<=m/\lo<=e.length/\HS (c+9) U V/\V[V.length-1]?=Z (.lst (dF e))/\r=[Z (.ref 0),Z (.int (m:Nat)),Z (.int (lo:Nat)),Z (.ref (V.length-1))]) ?_ ?_
 ·unfold dk;rw [db];refine zI ?_;unfold mN c4;rw [db,db];refine W.of (x:=(.ref 0,U)) rfl ?_;rw [db,db];refine Ci (k:=m) (S1:=U) rfl (by lia) ?_;walk_at"w";have H:=s.here.app1 (o:=.lst (dF (List.range m))) (by rw [Ob.und];exact eO _);refine sT H (by lia) (xs:=dF (List.range m)) (by rw [cC]) (by rw [fA,cJ];lia) (eO _) fun k ys V t E A h g=>?_;obtain ⟨rs,rfl,i⟩:=yo (m:=m) fun y h=>g.mem_iff.mp h;have C:rs.length=m:=by
   have:=g.length_eq;rw[fA,fA,cJ]at this;exact this
  rw[fA,cJ]at t;walk_at"w";refine⟨k,O,?_⟩;refine draw_W t (by lia) (by lia) (by lia) λd K v j am N=>?_;have p:=j.at h (by rw[lA1]at A;lia);walk_at"w";refine⟨lo+d,dF rs,by push_cast;rfl,p,?_⟩;rw[uO];refine⟨rs.take (lo+d),λr n=>i r (cj n),by rw[aP];lia,by rw[aP];lia,(v.more (by lia)).app1 (by rw[Ob.und];exact eO _),?_,?_⟩
  ·rw[Nat.add_sub_cancel,cC]
  ·rw[Nat.add_sub_cancel]
 rintro r V ⟨e,h1,h2,L,G,z,rfl⟩;have u:=me e;walk_at"w";refine zG z (by lia) ?_;refine dM (xs:=dF (kT e)) (by rw[cC]) ?_;have I:=u.length_eq;exact⟨G.app1 (by rw[Ob.und];exact eO _),by rw[D.und];exact eO _,λf a b l=>q (kT e) f (λr n=>h1 r (u.mem_iff.mp n)) (by lia) (by lia) a b l⟩
theorem se{c n:Nat}{B U:c6}{Q:D×c6->Prop}(s:HS c B U)(hc:c<=2^44)(h0:0<n)(p:n<=8)(q:∀ch e,(∀k∈ch,k<n)->ch.length<=n->HS (c+1) B e->HS (c+1) U e->e.length=U.length->Q (.tup (dF ch),e)):W (c7 2 d0 [.ref 0,.int n] U) Q:=by
 refine oJ (c':=c+1) O O s ?_;unfold d0;refine kn ?_;unfold jD;have h:∀S,zd (.int 1) (.int (n:Nat)) S=Z (.int ((2^n:Nat):Int),S):=λS=>by
  simp only[zd];rw[ak ⟨by lia,by lia,by decide⟩,Int.toNat_natCast,Int.one_mul]
  push_cast;rfl
 have h2:2^1<=2^n:=Nat.pow_le_pow_right (by decide) h0;have F:2^n<=2^8:=Nat.pow_le_pow_right (by decide) p;refine dL (λr V=>∃b:Nat,HS (c+1) U V/\r=[Z (.ref 0),Z (.int (n:Nat)),Z (.int (b:Nat))]) ?_ ?_
 ·((try walk_at"w");repeat(simp only[h];try walk_at"w"))
  generalize 2^n=t at *
  refine draw_W s.here (by lia) (by lia) (by lia) λd E o u C G=>?_;walk_at"w";exact⟨d+1,o,by simp[Int.add_comm]⟩
 rintro r V ⟨b,w,rfl⟩;walk_at"w";rw[lg,Int.toNat_natCast];refine⟨gz (by lia),?_⟩;refine gx (f:=λx:Nat=>D.int x) (λk:Nat=>Builtin.bitAnd ((b:Int)/2^k) 1 == 1) (λx:Nat=>D.int x) (λr=>∃x,r=[x,Z (.int (b:Nat))]) O (af n) _ ⟨_,O⟩ ?_ λA _=>?_
 ·rintro k m r ⟨y,rfl⟩;have g:∀ S,zb (.int (b:Nat)) (.int (k:Nat)) S=some (.int ((b:Int)/2^k),S):=fun S=>by
   simp only[zb];rw[ak (by lia),Int.toNat_natCast]
  have z:∀(i:Int) S,vc (.int i) (.int 1) S=Z (.int (Builtin.bitAnd i 1),S):=λi S=>rfl
  ((try walk_at"w");repeat(simp only[g,z];try walk_at"w"))
  exact⟨⟨_,O⟩,λ_=>trivial⟩
 ·have j:=cD (λk:Nat=>Builtin.bitAnd ((b:Int)/2^k) 1 == 1) (af n);rw[cJ]at j;have v:∀k∈(af n).filter λk:Nat=>Builtin.bitAnd ((b:Int)/2^k) 1 == 1,k<n:=λk m=>aB.mp (aA.mp m).1;generalize (af n).filter (λk:Nat=>Builtin.bitAnd ((b:Int)/2^k) 1 == 1)=ch at *
  walk_at"w";refine⟨dj (by rw[lM1];lia),?_⟩;refine dM (xs:=dF ch) (by rw[cC];rfl) ?_;exact⟨w.app1 (by rw[Ob.und];exact eO _),by rw[D.und];exact eO _,λe a b l=>q ch e v j a b l⟩
def Gy(w:c9)(u:Wk):Prop:=∃row,w[u.1]?=Z row/\u.2.1<=row.length/\u.2.2<4000
theorem pW{n k:Nat}{xs:List D}{x:D}{S:c6}{Q:D×c6->Prop}(h:S[n]?=Z (.lst xs))(b:xs.length=k+1)(hx:xs[k]?=Z x)(q:Q (x,S)):W (da (.ref n) (.int (-1)) S) Q:=by
 refine W.of (x:=(x,S)) ?_ q;simp only[da,kO,zf,h,dn,sB,tP,oS1];rw[aj (show¬ (0:Int) <= -1 by decide)];have e:((-1:Int)+(xs.length:Int)).toNat=k:=by lia
 have a:((xs.length:Int)+(-1:Int)).toNat=k:=by lia
 rw[ak (by lia)]
 first
  |rw[e,oS1,hx];rfl
  |rw[a,oS1,hx];rfl
  |simp[e,a,hx]
theorem xu{m:Nat}{w:c9}{ws:List Wk}{cs:List Nat}(h:fP m w ws cs){u:Wk}(e:u∈ws){x:D}(hx:fH x):Gy w (fe w u x):=by
 have c:=hx.eta.2;obtain⟨a,b,h1,h2⟩:=h.wk u e;unfold fe Gy;rw[b];have base:∃a,w[(u.1,u.2.1,dm x).1]?=Z a/\(u.1,u.2.1,dm x).2.1<=a.length/\(u.1,u.2.1,dm x).2.2<4000:=⟨a,b,h1,c⟩;cases dt x with
 |none=>exact base
 |some t=>
  dsimp only[oS1];cases ep:a[t]? with
  |none=>exact base
  |some p=>
   obtain⟨r,d,f⟩:=h.web.to a (gM1 b) p (gM1 ep);exact⟨r,d,f,c⟩
theorem vO{m:Nat}{w:c9}{ws:List Wk}{cs ch:List Nat}{e:E4}{L:List Rw}(h:fP m w ws cs)(ok:∀p∈L,e9 p):∀p∈dX w ws cs e L ch,fH p.2/\p.1∈ws:=λp c=>by
 obtain⟨x,b,rfl⟩:=b6.mp c;have a:=l6 b;refine⟨?_,a⟩;unfold iT;dsimp only;split
 ·exact kP ok (h.ky _ a)
 ·exact kR (h.ky _ a)
noncomputable def GU(w:c9)(ps:List Pr):List Wk:=ps.map λp=>fe w p.1 p.2
theorem Ge{m:Nat}{w:c9}{ws:List Wk}{cs:List Nat}{ps:List Pr}(h:fP m w ws cs)(hp:∀p∈ps,fH p.2/\p.1∈ws)(c:ps.length<=8):fP m w (GU w ps) (gJ m ps cs):=by
 have b:=h.m8;refine⟨h.web,h.m8,by unfold GU;rw[lM1];exact c,?_,λv e=>?_,λr d=>aB.mp (aA.mp d).1⟩
 ·unfold gJ;have:=cD (λr=>pz ps "mark" r||(cs.contains r && !pz ps "wipe" r)) (af m);rw[cJ]at this;exact aC this b
 ·obtain⟨p,a,rfl⟩:=b6.mp e;exact xu h (hp p a).2 (hp p a).1
theorem w8{m:Nat}{w:c9}{ws:List Wk}{cs:List Nat}(h:fP m w ws cs):jt (de ws cs)=M/\gy (de ws cs)<=60/\lW (de ws cs)<=9:=by
 have j:=h.few;have o:=h.m8;have i:=h.cl;have b:∀x:Nat,x<4000->jt (.int (x:Nat))=M:=λx p=>by unfold jt;rw[al];lia
 have g:∀u∈ws,jt (eQ u)=M:=λu d=>by
  obtain⟨c,e,h1,h2⟩:=h.wk u d;have q:=h.web.le c (gM1 e);have n:=h.lt u d;unfold eQ;rw[jt];simp only[hW,bJ,bA1];exact⟨b _ (by lia),b _ (by lia),b _ h2⟩
 have a1:=fz (f:=eQ) (l:=ws) g;have a2:=e6 (f:=eQ) (k:=3) (l:=ws) λv a=>nR1 _;have a3:=fE (f:=eQ) (k:=3) (l:=ws) λv a=>(by decide:1<=3);have b1:=fz (f:=λr:Nat=>D.int r) (l:=cs) λv a=>b v (by have:=h.ch v a;lia);have b2:=e6 (f:=λr:Nat=>D.int r) (k:=0) (l:=cs) λv a=>nR1 _;have b3:=fE (f:=λr:Nat=>D.int r) (k:=0) (l:=cs) λv a=>nR1 _;unfold de;refine⟨?_,?_,?_⟩
 ·simp only[hW,jt,dI,dF,a1,b1,cp]
 ·simp only[fF,gy,dI,dF];lia
 ·simp only[ii,lW,dI,dF];lia
theorem xC{w:c9}{ws:List Wk}{cs:List Nat}{e:E4}{L:List Rw}:dX w ws cs e L (af ws.length)=ss w ws cs e L:=by
 unfold dX ss;rw[<- ik (λu=>(u,ddW w ws cs e L u)) ws];refine cq λq b=>?_;have a:=(gE1.mp (hU b)).1;unfold iT;rw[ak (cf.mpr (aB.mpr a))]
theorem qq{w:c9}{ws:List Wk}{cs ch:List Nat}{e:E4}{L:List Rw}:(dX w ws cs e L ch).length=ws.length:=by unfold dX;rw[lM1,cG]
theorem qr(t:Str):(t == t)=M:=by simp
abbrev Wh:=List Wk×List Nat
noncomputable def gK(a:Wh):D:=de a.1 a.2
theorem lM(a:Wh)(n:Nat):(gK a).und n=M:=d6 fm
theorem jd(Ws:List Wh)(n:Nat):D.unds n (Ws.map gK)=M:=Mi.dv λa _=>lM a n
noncomputable def fv(ch:List Nat):D:=.tup (dF ch)
theorem kw(chs:List (List Nat))(n:Nat):D.unds n (chs.map fv)=M:=Mi.dv λch _=>by unfold fv;rw[D.und];exact eA (eO _)
noncomputable def nS(m:Nat)(w:c9)(e:E4)(L:List Rw)(ch:List Nat)(a:Wh):Wh:=(GU w (dX w a.1 a.2 e L ch),gJ m (dX w a.1 a.2 e L ch) a.2)
noncomputable def ig(m:Nat)(w:c9)(e:E4)(L:List Rw)(chs:List (List Nat))(a:Wh):Wh:=chs.foldl (λa ch=>nS m w e L ch a) a
noncomputable def WsC(m:Nat)(w:c9)(e:E4)(L:List Rw)(chs:List (List Nat))(a:Wh):List Wh:=(af (chs.length+1)).map λi=>ig m w e L (chs.take i) a
section
variable{m:Nat}{w:c9}{e:E4}{L:List Rw}{chs:List (List Nat)}{a:Wh}
theorem jQ:(WsC m w e L chs a).length=chs.length+1:=by unfold WsC;rw[lM1,cJ]
theorem vz{i:Nat}(h:i<=chs.length):(WsC m w e L chs a)[i]?=Z (ig m w e L (chs.take i) a):=by
 unfold WsC;rw[gP1,ca (by lia)];rfl
theorem pU{ch:List Nat}:WsC m w e L (chs++[ch]) a=WsC m w e L chs a++[nS m w e L ch (ig m w e L chs a)]:=by
 unfold WsC;rw[lA1,a0,List.range_succ (n:=chs.length+1),b5]
 congr 1
 ·refine cq λi hi=>?_;rw[cu (by have:=aB.mp hi;lia)]
 ·simp only[mP1,bc];rw[b0 (by simp)];unfold ig;rw[List.foldl_append];rfl
theorem BU{i:Nat}(h:i<=chs.length):(WsC m w e L chs a).take (i+1)=WsC m w e L (chs.take i) a:=by
 unfold WsC;rw[<- cM,List.take_range,aP,bA (by lia),bA h];refine cq λj b=>?_;rw[List.take_take,bA (by have:=aB.mp b;lia)]
theorem xw{ch:List Nat}(h:fP m w a.1 a.2)(ok:∀p∈L,e9 p):fP m w (nS m w e L ch a).1 (nS m w e L ch a).2/\(nS m w e L ch a).1.length=a.1.length:=by
 refine⟨Ge h (vO h ok) (by rw[qq];exact h.few),?_⟩;unfold nS GU;rw[lM1,qq]
theorem i0(ok:∀p∈L,e9 p):∀{chs:List (List Nat)} {a:Wh},fP m w a.1 a.2->fP m w (ig m w e L chs a).1 (ig m w e L chs a).2/\(ig m w e L chs a).1.length=a.1.length
 |[],a,h=>⟨h,O⟩
 |ch::chs,a,h=>by
  obtain⟨h1,h2⟩:=xw (e:=e) (ch:=ch) h ok;obtain⟨c,b⟩:=i0 ok (chs:=chs) h1;exact⟨c,b.trans h2⟩
theorem vy(ok:∀p∈L,e9 p)(h:fP m w a.1 a.2):∀b∈WsC m w e L chs a,fP m w b.1 b.2:=λb c=>by
 obtain⟨i,_,rfl⟩:=b6.mp c;exact(i0 ok h).1
end
theorem jW{m:Nat}{w:c9}{Ws:List Wh}(h:∀a∈Ws,fP m w a.1 a.2)(c:Ws.length<=500):∃t,∀S,gj (.tup (Ws.map gK)) S=Z (.str t,S):=by
 have a2:=e6 (f:=gK) (k:=60) (l:=Ws) λv b=>(w8 (h v b)).2.1;have a3:=fE (f:=gK) (k:=9) (l:=Ws) λv b=>(w8 (h v b)).2.2;exact Al (fz λv b=>(w8 (h v b)).1) (by lia) (by lia)
structure pY (m:Nat)(rs cs:List Nat):Prop where
 few:rs.length<=8
 cl:cs.length<=8
 rs:∀r∈rs,r<m
 cs:∀r∈cs,r<m
noncomputable def dU(rs cs:List Nat):D:=.tup [.tup (dF rs),.tup (dF cs)]
noncomputable def ed(rs cs:List Nat):Wh:=(rs.map λr=>(r,0,0),cs)
theorem lZ{m:Nat}{w:c9}{rs cs:List Nat}(hw:iH m w)(hm:m<=8)(h:pY m rs cs):fP m w (ed rs cs).1 (ed rs cs).2:=by
 refine⟨hw,hm,by show(rs.map _).length<=8;rw[lM1];exact h.few,h.cl,λu a=>?_,h.cs⟩;obtain⟨r,b,rfl⟩:=b6.mp a;exact⟨_,gG1 (by rw[hw.len];exact h.rs r b),bm _,by show 0<4000;decide⟩
theorem fJ(rs cs:List Nat)(n:Nat):(dU rs cs).und n=M:=d6 (by simp[dU,D.und,D.unds,eO])
theorem vo{rs:List Nat}{S:c6}{c:Option D}{Q:List D×Ev×c6->Prop}(h:∀ b,Q (dI (ed rs []).1,b,S)):
  W (fr [] (gN 0) eP (dW (dS (c4 (mV 0) (c4 (mC (D.int 0)) (c4 (mC (D.int 0)) c5))))) (dF rs) [c] S) Q:=by
 refine pA (f:=λr:Nat=>D.int r) (λr:Nat=>eQ (r,0,0)) (λr=>∃x,r=[x]) O rs _ ⟨_,O⟩ ?_ λb _=>?_
 ·rintro a d r ⟨x,rfl⟩;walk_at"w";exact⟨O,_,O⟩
 ·have e:(rs.map λr:Nat=>eQ (r,0,0))=dI (ed rs []).1:=by unfold dI ed;rw[bu];rfl
  rw[e];exact h b
theorem vn{rs cs:List Nat}{S:c6}{Q:D×c6->Prop}(b:rs.length<=1000)(q:Q (gK (ed rs cs),S)):W (c7 1 iz [dU rs cs] S) Q:=by
 refine i8 O (by rw[D.unds,fJ];rfl) ?_;unfold iz;refine kn ?_;unfold vr;refine dL (λr V=>V=[]/\r=[Z (dU rs cs),Z (.tup (dF rs)),Z (.tup (dF cs))]) ?_ ?_
 ·unfold dU;walk_at"w"
 rintro r V ⟨rfl,rfl⟩;walk_at"w";rw[iQ];refine vo λc=>?_;have a:(dI (ed rs []).1).length=rs.length:=by rw[lK];exact lM1 _
 walk_at"w";refine⟨dj (by rw[a];lia),?_⟩;refine dM (xs:=dI (ed rs []).1) O ?_;exact⟨lM (ed rs cs) 0,q⟩
theorem yN{rs cs:List Nat}{S:c6}{Q:D×c6->Prop}(e:rs.length<=1000)(q:Q (gK (ed rs cs),S)):W (c7 1 fD [dU rs cs] S) Q:=by
 refine i8 O (by rw[D.unds,fJ];rfl) ?_;unfold fD;refine kn ?_;unfold kB;have c:∀S,da (dU rs cs) (.int 0) S=Z (.tup (dF rs),S):=λS=>rfl;have b:∀S,da (dU rs cs) (.int 1) S=Z (.tup (dF cs),S):=λS=>rfl
 ((try walk_at"w");repeat(simp only[c];try walk_at"w"))
 rw[iQ];refine vo λd=>?_;have a:(dI (ed rs []).1).length=rs.length:=by rw[lK];exact lM1 _
 walk_at"w";refine⟨dj (by rw[a];lia),?_⟩;refine dM (xs:=dI (ed rs []).1) O ?_
 ((try walk_at"w");repeat(simp only[b];try walk_at"w"))
 exact⟨lM (ed rs cs) 0,q⟩
theorem sL{m:Nat}{w:c9}{e:E4}{L:List Rw}{chs:List (List Nat)}{a:Wh}{S:c6}{Q:D×c6->Prop}(h:fP m w a.1 a.2)(l:Inc e L)(ok:∀ p∈L,e9 p)(t:L.length<=4000)(hc:chs.length<=400)(q:Q (.ref S.length,S++[.lst ((WsC m w e L chs a).map gK)])):W (c7 4 fX [dA w,mcD e L,gK a,.tup (chs.map fv)] S) Q:=by
 have s:=kw chs 0;refine Cf O (by simp[D.unds,eR,lM,gu ok,D.und,s]) ?_;unfold fX;refine kn ?_;unfold ls;refine dL (λr V=>V=[.lst ((WsC m w e L [] a).map gK)]/\r=[Z (dA w),Z (mcD e L),Z (gK a),Z (.tup (chs.map fv)),Z (.ref 0),Y]) ?_ ?_
 ·walk_at"w";exact⟨O,trivial⟩
 rintro r V ⟨rfl,rfl⟩;refine dL (λr V=>∃g,V=[.lst ((WsC m w e L chs a).map gK)]/\r=[Z (dA w),Z (mcD e L),Z (gK a),Z (.tup (chs.map fv)),Z (.ref 0),g]) ?_ ?_
 ·walk_at"w";rw[iQ];refine eY (λi r V=>∃g,V=[.lst ((WsC m w e L (chs.take i) a).map gK)]/\r=[Z (dA w),Z (mcD e L),Z (gK a),Z (.tup (chs.map fv)),Z (.ref 0),g]) (chs.map fv) 0 _ _ ⟨_,O,O⟩ (λ_ _ _ _=>rfl) ?_ ?_
  ·rintro i d j r V ⟨g,rfl,rfl⟩;rw[gP1]at j;obtain⟨ch,k,rfl⟩:=oM1.mp j;have u:=(gE1.mp k).1;have v:chs.take (i+1)=chs.take i++[ch]:=by rw[b7,k];rfl
   have n:(chs.take i).length=i:=by rw[aP];lia
   rw[bK]at *
   rw[v,pU];have f:=i0 (e:=e) (m:=m) (w:=w) ok (chs:=chs.take i) h;have c:((WsC m w e L (chs.take i) a).map gK).length=i+1:=by rw[lM1,jQ,n]
   have o:((WsC m w e L (chs.take i) a).map gK)[i]?=Z (gK (ig m w e L (chs.take i) a)):=by
    rw[gP1,vz (by lia),b0 (by lia)];rfl
   generalize x:ig m w e L (chs.take i) a=b at *
   walk_at"w";unfold jx eE;rw[db];refine jE ?_;walk_at"w";refine⟨0,_,O,O,?_⟩
   ((try walk_at"w");repeat(simp only[tT];try walk_at"w"))
   refine pW O c o ?_;walk_at"w";refine CF (ws:=b.1) (cs:=b.2) (ch:=ch) f.1 l ok t ?_;refine(jF O).mpr ⟨dj (by rw[c];lia),?_⟩;refine⟨_,?_,O⟩;rw[b5];rfl
  ·rintro r V ⟨g,rfl,rfl⟩;rw[lM1,bK,bT];exact⟨O,_,O,O⟩
 rintro r V ⟨g,rfl,rfl⟩;walk_at"w";exact⟨_,O,jd _ 0,q⟩
theorem pc{m:Nat}{w:c9}{e:E4}{L:List Rw}{chs:List (List Nat)}{rs cs:List Nat}{S:c6}{Q:D×c6->Prop}(hw:iH m w)(hm:m<=8)(hst:pY m rs cs)(b:Inc e L)(ok:∀ p∈L,e9 p)(c:L.length<=4000)(hc:chs.length<=400)(q:Q (.tup ((WsC m w e L chs (ed rs cs)).map gK),S)):W (c7 4 dZ [dA w,mcD e L,dU rs cs,.tup (chs.map fv)] S) Q:=by
 have a:=kw chs 0;refine i8 O (by simp[D.unds,eR,fJ,gu ok,D.und,a]) ?_;unfold dZ;refine kn ?_;unfold jC;have d:=hst.few;walk_at"w";refine vn (by lia) ?_;walk_at"w";refine sL (lZ hw hm hst) b ok c hc ?_;refine dM (xs:=(WsC m w e L chs (ed rs cs)).map gK) O ?_;exact⟨by rw[D.und];exact jd _ 0,q⟩
theorem w9{m:Nat}{w:c9}{e:E4}{L:List Rw}{rs cs:List Nat}{b:Nat}{S:c6}{Q:D×c6->Prop}(hw:iH m w)(hm:m<=8)(hst:pY m rs cs)(n:Inc e L)(ok:∀ p∈L,e9 p)(u:L.length<=4000)(hb:b<=400)(q:Q (.tup ((WsC m w e L (aN b (af rs.length)) (ed rs cs)).map gK),S)):W (c7 4 iX [dA w,mcD e L,dU rs cs,.int b] S) Q:=by
 refine i8 O (by simp[D.unds,eR,gu ok,fJ];rfl) ?_;unfold iX;refine kn ?_;unfold sn;have v:=hst.few;have h:=lZ hw hm hst;have o:(ed rs cs).1.length=rs.length:=lM1 ..
 have k:=λS Q q=>vn (rs:=rs) (cs:=cs) (S:=S) (Q:=Q) (by lia) q;generalize ed rs cs=a at *
 refine dL (λr V=>V=[.lst ((WsC m w e L [] a).map gK)]/\r=[Z (dA w),Z (mcD e L),Z (dU rs cs),Z (.int (b:Nat)),Z (.ref 0),Y]) ?_ ?_
 ·walk_at"w";refine k _ _ ?_;walk_at"w";exact⟨O,trivial⟩
 rintro r V ⟨rfl,rfl⟩;refine dL (λr V=>∃j,V=[.lst ((WsC m w e L (aN b (af rs.length)) a).map gK)]/\r=[Z (dA w),Z (mcD e L),Z (dU rs cs),Z (.int (b:Nat)),Z (.ref 0),j]) ?_ ?_
 ·walk_at"w";rw[lg,Int.toNat_natCast];refine⟨gz (by lia),?_⟩;refine eY (λi r V=>∃j,i<=b/\V=[.lst ((WsC m w e L (aN i (af rs.length)) a).map gK)]/\r=[Z (dA w),Z (mcD e L),Z (dU rs cs),Z (.int (b:Nat)),Z (.ref 0),j]) _ 0 _ _ ⟨_,bm _,O,O⟩ (λ_ _ _ _=>rfl) ?_ ?_
  ·rintro i d l r V ⟨j,hi,rfl,rfl⟩;have s:=(gE1.mp l).1;rw[lM1,cJ]at s;rw[bK]at *
   rw[List.replicate_succ',pU];have f:=i0 (e:=e) (m:=m) (w:=w) ok (chs:=aN i (af rs.length)) h;have g:((WsC m w e L (aN i (af rs.length)) a).map gK).length=i+1:=by rw[lM1,jQ,lR1]
   have t:((WsC m w e L (aN i (af rs.length)) a).map gK)[i]?=Z (gK (ig m w e L (aN i (af rs.length)) a)):=by
    rw[gP1,vz (by rw[lR1];lia),b0 (by rw[lR1];lia)];rfl
   generalize ig m w e L (aN i (af rs.length)) a=c at *
   walk_at"w";unfold mO eE;rw[db];refine jE ?_;walk_at"w";refine⟨0,_,O,O,?_⟩
   ((try walk_at"w");repeat(simp only[tT];try walk_at"w"))
   refine pW O g t ?_;walk_at"w";refine Ep (ws:=c.1) (cs:=c.2) f.1 n ok u ?_;rw[<- xC,f.2,o];refine(jF O).mpr ⟨dj (by rw[g];lia),?_⟩;refine⟨_,by lia,?_,O⟩;rw[b5];rfl
  ·rintro r V ⟨j,hi,rfl,rfl⟩;rw[lM1,cJ,bK];exact⟨O,_,O,O⟩
 rintro r V ⟨j,rfl,rfl⟩;walk_at"w";refine dM (xs:=(WsC m w e L (aN b (af rs.length)) a).map gK) O ?_;exact⟨by rw[D.und];exact jd _ 0,q⟩
theorem sQ{c m most:Nat}{w:c9}{B U:c6}{Q:D×c6->Prop}(hw:iH m w)(m0:0<m)(N:m<=8)(K:0<most)(v:most<=8)(s:HS c B U)(hc:c<=2^40)(q:∀rs cs e,pY m rs cs->0<rs.length->rs.length<=most->HS (c+30) B e->HS (c+30) U e->e.length=U.length->Q (dU rs cs,e)):W (c7 3 eK [.ref 0,dA w,.int most] U) Q:=by
 refine oJ (c':=c+30) O O s ?_;have hp:=s.pos;have G:=s.len;have f:=hw.len;unfold eK;refine kn ?_;unfold iF;refine dL (λr V=>∃rs,(∀x∈rs,x<m)/\rs.length<=m/\0<rs.length/\rs.length<=most/\HS (c+9) U V/\r=[Z (.ref 0),Z (dA w),Z (.int (most:Nat)),Z (.tup (dF rs))]) ?_ ?_
 ·unfold dk;rw [db];refine zJ ?_;refine zJ ?_;refine zI ?_;unfold mN c4;rw [db,db];refine W.of (x:=(.ref 0,U)) rfl ?_;rw [db,db];refine Ci (k:=m) (S1:=U) (by
   have el:∀S,eL (dA w) S=Z (.int (m:Nat),S):=λS=>by rw[pC,f]
   show(eL (dA w) U).bind _=_;rw[el];rfl) (by lia) ?_
  walk_at"w";have wq:=s.here.app1 (o:=.lst (dF (af m))) (by rw[Ob.und];exact eO _);refine sT wq (by lia) (xs:=dF (af m)) (by rw[cC]) (by rw[fA,cJ];lia) (eO _) λk ys V A au I n h=>?_;obtain⟨rs,rfl,t⟩:=yo (m:=m) λy n=>h.mem_iff.mp n;have am:rs.length=m:=by
   have:=h.length_eq;rw[fA,fA,cJ]at this;exact this
  rw[fA,cJ]at A;walk_at"w";refine⟨k,O,?_⟩;refine draw_W A (by lia) (by lia) (by lia) λd T i g ao aq=>?_;have u:=g.at n (by rw[lA1]at I;lia);walk_at"w";refine⟨d+1,dF rs,by push_cast;rw[Int.add_comm],u,?_⟩;rw[uO];have j:=i.app1 (o:=.lst (dF (rs.take (d+1)))) (by rw[Ob.und];exact eO _);refine zG (xs:=rs.take (d+1)) (by rw[cC]) (by rw[aP];lia) ?_;refine dM (xs:=dF (kT (rs.take (d+1)))) (by rw[cC]) ?_;have F:=me (rs.take (d+1));have H:=F.length_eq;rw[aP]at H;refine⟨kT (rs.take (d+1)),λx R=>t x (cj (F.mem_iff.mp R)),by lia,by lia,by lia,(j.app1 (by rw[Ob.und];exact eO _)).more (by lia),O⟩
 rintro r V ⟨rs,h1,h2,C,E,X,rfl⟩;have z:∀cs:List Nat,D.tup [.tup (dF rs),.tup (dF cs)]=dU rs cs:=λcs=>rfl;walk_at"w";refine draw_W X (by lia) (by lia) (by lia) λd T i g ao aq=>?_;walk_at"w";split
 ·((try walk_at"w");repeat(simp only[pC];try walk_at"w"))
  rw[f];refine CD (lo:=0) i (by lia) N (bm _) λcs V3 p hcl _ j P l3=>?_;walk_at"w";rw[z];exact⟨j.more (by lia),fJ rs cs 0,λe a b l=>q rs cs e ⟨by lia,by lia,h1,p⟩ C E a b l⟩
 ·have:=z [];rw[show dF []=[]from rfl]at this;rw[this];exact⟨i.more (by lia),fJ rs [] 0,λe a b l=>q rs [] e ⟨by lia,by simp,h1,λr L=>by cases L⟩ C E a b l⟩
theorem Cg(ns:List Int)(k:Int)(h0:0<=k)(hk:k<64):∃o,(∀S,c7 2 eH [.rol (ns.map D.int),.int k] S=Z (.ref S.length,S++[o]))/\Hnd o 0:=by
 obtain⟨g,m,e⟩:=BP ns k h0 hk;refine⟨hnd g m 0,λS=>?_,_,_,_,O,Int.le_refl _,Int.le_refl _⟩;rw[i7 (n:=2) e O (by rw[D.unds,D.und,nQ];rfl) (by simp[D.und])];simp[D.sh,Ob.sh,D.shs,hnd]
theorem zC{f:FN}{n h:Nat}{es:List D}{o:Ob}{S:c6}{Q:D×c6->Prop}(hn:es.length+1=n)(he:D.unds 0 es=M)(j:S[h]? = Z o)(ho:o.und 0=M)(q:W (c7 n f (.ref 0::es) [o]) λp=>∃o',p.2=[o']/\o'.und 0=M/\p.1.und 0=M/\Q (p.1,S.set h o')):W (c7 n (apart f) (.ref h::es) S) Q:=by
 obtain⟨⟨d,l⟩,e,o',i,b,c,g⟩:=q;dsimp only at i c g;subst i;unfold c7 at e ⊢;rw[ak (by simpa using hn)]at e ⊢;have a:D.unds 0 (.ref h::es)=J:=by simp[D.unds,D.und]
 have k:apart f (.ref h::es) S=Z (d,S.set h o'):=by
  unfold apart;dsimp only;rw[ak he,j,oS1,ak ho,e,oS1];dsimp only;rw[ak b,ak c]
 unfold lp;rw[aj (by rw[a];decide),k,oP1];refine⟨_,O,?_⟩;rw[pJ (by simp)];exact g
theorem wz{n h:Nat}{o:Ob}{S:c6}{Q:D×c6->Prop}(d:S[h]? = Z o)(ho:Hnd o 0)(h0:0<n)(g:n<=8)(q:∀ch o',(∀k∈ch,k<n)->ch.length<=n->o'.und 0=M->Q (fv ch,S.set h o')):W (c7 2 (apart d0) [.ref h,.int n] S) Q:=by
 have f:HS 0 [o] [o]:=.self O ho (by unfold jS;rw[bM,ho.und];rfl);refine zC O O d ho.und ?_;refine se f (by lia) h0 g λch j b c e _ i=>?_;obtain⟨o',a,h1⟩:=e.hand;refine⟨o',?_,h1.und,by rw[D.und];exact eO _,q ch o' b c h1.und⟩
 match j,i,a with
 |[x],_,a=>cases a;rfl
theorem Fj{xs:List D}{ds:List D}(h:hW ds=true)(h2:hW xs=true)(hc:fF ds+fF xs<=40000)(hd:ii ds<=20/\ii xs<=20):
  ∃t,∀(S:c6) (n k:Nat),S[k]?=Z (.lst xs)->S[n]?=Z (.lst (ds++[.ref k]))->(∀d∈ds,∃ys,d = .tup ys)->hH (.ref n) S=Z (.str t,S):=by
 obtain⟨ps,e,h1,m,G,H⟩:=mf h;obtain⟨a,f,C,u,F,E⟩:=mf h2;refine⟨(PyData.list (ps++[.list a])).shown,λS n k r y j=>?_⟩;have l:∀{ds:List D} {ps:List PyData},(∀d∈ds,∃ys,d=D.tup ys)->pyDs ds=Z ps->mH S (ds++[.ref k])=Z (ps++[.list a]):=by
  intro ds
  induction ds with
  |nil=>
   intro ps _ e;cases e;simp only[ci,mH,CQ,fQ r,f,oP1,oS1]
  |cons d ds ih=>
   intro ps j e;obtain⟨ys,rfl⟩:=j d mS1;simp only[pyDs]at e;obtain⟨p,v,e⟩:=oB1.mp e;obtain⟨z,w,e⟩:=oM1.mp e;subst e;have ih:=ih (λd hd=>j d (mC1 _ hd)) w;have s:CQ S (.tup ys)=Z p:=v;rw[bn,mH,s,oS1,ih];rfl
 have o:=l j e;have c:∀ps:List PyData,PyData.showableAll ps=M->PyData.showableAll (ps++[.list a])=M:=by
  intro ps
  induction ps with
  |nil=>intro _;simp only[ci,PyData.showableAll,PyData.showable,C,cp]
  |cons p ps ih=>
   intro h;simp only[PyData.showableAll,bA1]at h;simp only[bn,PyData.showableAll,h.1,ih h.2,cp]
 have i:∀ps:List PyData,PyData.leavesShortAll 13 ps=M->PyData.leavesShortAll 13 (ps++[.list a])=M:=by
  intro ps
  induction ps with
  |nil=>intro _;simp only[ci,PyData.leavesShortAll,PyData.leavesShort,u,cp]
  |cons p ps ih=>
   intro h;simp only[PyData.leavesShortAll,bA1]at h;simp only[bn,PyData.leavesShortAll,h.1,ih h.2,cp]
 have g:∀ps:List PyData,PyData.weightAll (ps++[.list a])=PyData.weightAll ps+PyData.weightAll [.list a]:=by
  intro ps
  induction ps with
  |nil=>simp[PyData.weightAll]
  |cons p ps ih=>simp only[bn,PyData.weightAll,ih];lia
 have b:∀ps:List PyData,PyData.depthAll (ps++[.list a])<=PyData.depthAll ps+PyData.depthAll [.list a]:=by
  intro ps
  induction ps with
  |nil=>simp[PyData.depthAll]
  |cons p ps ih=>simp only[bn,PyData.depthAll]at ih ⊢;lia
 have x:=g ps;have A:=b ps;simp only[PyData.weightAll,PyData.weight,PyData.depthAll,PyData.depth]at x A;have q:(PyData.list (ps++[.list a])).showable=M/\(PyData.list (ps++[.list a])).shown.length<=cV/\(PyData.list (ps++[.list a])).depth<=60:=
  ⟨by simpa only[PyData.showable]using c ps h1,PyData.shown_fits (B:=13) (by decide) (by decide) (by simpa only[PyData.leavesShort]using i ps m) (by simp only[PyData.weight];lia),by simp only[PyData.depth];lia⟩
 unfold hH;rw[fQ y];dsimp only;rw[o,oS1,ak q]
theorem EJ{x:Nat}(h:x<4000):jt (.int (x:Nat))=M:=by unfold jt;rw[al];lia
theorem Ct{m:Nat}{w:c9}(hw:iH m w)(p:m<=8):jt (dA w)=M/\gy (dA w)<=200/\lW (dA w)<=9:=by
 have d:=hw.len;have i:∀a∈w,∀e∈a,jt (pD e)=M:=λa b e c=>by
  obtain⟨r,h1,h2⟩:=hw.to a b e c;have o:=(gE1.mp h1).1;have n:=hw.le r (gM1 h1);unfold pD;rw[jt];simp only[hW,bJ,bA1];exact⟨EJ (by lia),EJ (by lia)⟩
 have h:∀a∈w,fF (a.map pD)<=12:=λa b=>by
  have:=e6 (f:=pD) (k:=2) (l:=a) λv j=>nR1 _;have:=hw.le a b;lia
 have g:∀a:List (Nat×Nat),ii (a.map pD)<=2:=λa=>fE (f:=pD) (k:=2) (l:=a) λv j=>(by decide:1<=2);have a1:=fz (f:=λa:List (Nat×Nat)=>D.tup (a.map pD)) (l:=w) λa b=>by rw[jt];exact fz (i a b)
 have a2:=e6 (f:=λa:List (Nat×Nat)=>D.tup (a.map pD)) (k:=12) (l:=w) λa b=>by rw[gy];exact h a b
 have a3:=fE (f:=λa:List (Nat×Nat)=>D.tup (a.map pD)) (k:=4) (l:=w) λa b=>by rw[lW];have:=g a;lia
 unfold dA;refine⟨by rw[jt];exact a1,by rw[gy];lia,by rw[lW];lia⟩
theorem sY{e:E4}{p:Rw}(h:e9 p):jt (ea e p)=M/\gy (ea e p)<=20/\lW (ea e p)<=6:=by
 obtain⟨⟨m,x,y,z,w⟩,K⟩:=p;obtain⟨⟨r,k,o,u,s⟩,⟨m2,l,t,q,n,h1,h2⟩⟩:=h;dsimp only at r k o u s q;subst q;obtain⟨a,b,c,d⟩:=e;have sp:∀(b:Bool) (x:Nat),x<=4->jt (pt b x)=M/\gy (pt b x)=0/\lW (pt b x)=0:=λb x k=>by
  cases b with
  |true=>exact⟨EJ (by lia),O,O⟩
  |false=>exact⟨O,O,O⟩
 obtain⟨B,p2,E⟩:=sp a x k;obtain⟨C,G,F⟩:=sp b y o;obtain⟨D,r2,H⟩:=sp c z u;obtain⟨I,v,A⟩:=sp d w s;have g:jt l=M/\gy l=0/\lW l=0:=by
  simp only[m5,aE,bI,or_false]at h1;rcases h1 with e|e|e<;>subst e<;>exact⟨O,O,O⟩
 have f:jt t=M/\gy t=0/\lW t=0:=by
  simp only[nR,aE,bI,or_false]at h2;rcases h2 with e|e|e|e|e<;>subst e<;>exact⟨O,O,O⟩
 have j:=EJ r;have i:=EJ n;have am:∀x:Int,gy (.int x)=0/\lW (.int x)=0:=λx=>⟨O,O⟩;unfold ea Ky.d Ky.sg Hj;dsimp only;refine⟨?_,?_,?_⟩
 ·simp only[jt,hW,B,C,D,I,g.1,f.1,j,i,cp,bJ]at j i ⊢;simp only[j,i,cp]
 ·simp only[gy,fF,p2,G,r2,v,g.2.1,f.2.1];lia
 ·simp only[lW,ii,E,F,H,A,g.2.2,f.2.2];lia
theorem F2{e:E4}{L:List Rw}(ok:∀p∈L,e9 p)(i:L.length<=75):jt (mcD e L)=M/\gy (mcD e L)<=2000/\lW (mcD e L)<=9:=by
 have a1:=fz (f:=ea e) (l:=L) λp g=>(sY (ok p g)).1;have a2:=e6 (f:=ea e) (k:=20) (l:=L) λp g=>(sY (ok p g)).2.1;have a3:=fE (f:=ea e) (k:=6) (l:=L) λp g=>(sY (ok p g)).2.2;have h:hW (eM e.1 e.2.1 e.2.2.1 e.2.2.2)=M/\fF (eM e.1 e.2.1 e.2.2.1 e.2.2.2)<=8/\ii (eM e.1 e.2.1 e.2.2.1 e.2.2.2)<=2:=by
  obtain⟨a,b,c,d⟩:=e;cases a<;>cases b<;>cases c<;>cases d<;>decide
 unfold mcD nG;refine⟨?_,?_,?_⟩
 ·simp only[jt,hW,a1,h.1,cp]
 ·have:=h.2.1;simp only[gy,fF];lia
 ·have:=h.2.2;simp only[lW,ii];lia
theorem yn{rs:List Nat}(h:∀r∈rs,r<4000):hW (dF rs)=M/\fF (dF rs)<=rs.length/\ii (dF rs)<=3:=by
 have b1:=fz (f:=λr:Nat=>D.int r) (l:=rs) λv a=>EJ (h v a);have b2:=e6 (f:=λr:Nat=>D.int r) (k:=0) (l:=rs) λv a=>nR1 _;have b3:=fE (f:=λr:Nat=>D.int r) (k:=0) (l:=rs) λv a=>nR1 _;unfold dF;exact⟨b1,by lia,by lia⟩
theorem xy{m:Nat}{rs cs:List Nat}(h:pY m rs cs)(b:m<=8):jt (dU rs cs)=M/\gy (dU rs cs)<=100/\lW (dU rs cs)<=9:=by
 obtain⟨a1,a2,a3⟩:=yn (rs:=rs) λr a=>by have:=h.rs r a;lia
 obtain⟨b1,b2,b3⟩:=yn (rs:=cs) λr a=>by have:=h.cs r a;lia
 have:=h.few;have:=h.cl;unfold dU;refine⟨?_,?_,?_⟩
 ·simp only[jt,hW,a1,b1,cp]
 ·simp only[gy,fF];lia
 ·simp only[lW,ii];lia
def p9(n:Nat)(ch:List Nat):Prop:=(∀k∈ch,k<n)/\ch.length<=n
theorem Ei{n:Nat}{chs:List (List Nat)}(h:∀ch∈chs,p9 n ch)(c:n<=8)(d:chs.length<=100):hW (chs.map fv)=M/\fF (chs.map fv)<=1000/\ii (chs.map fv)<=9:=by
 have a:=λch hc=>yn (rs:=ch) λr b=>by have:=(h ch hc).1 r b;lia
 have b1:=fz (f:=fv) (l:=chs) λch hc=>by unfold fv;rw[jt];exact(a ch hc).1
 have b2:=e6 (f:=fv) (k:=8) (l:=chs) λch hc=>by unfold fv;rw[gy];have:=(a ch hc).2.1;have:=(h ch hc).2;lia
 have b3:=fE (f:=fv) (k:=5) (l:=chs) λch hc=>by unfold fv;rw[lW];have:=(a ch hc).2.2;lia
 exact⟨b1,by lia,by lia⟩
theorem v8{m n:Nat}{w:c9}{e:E4}{L:List Rw}{rs cs:List Nat}{chs:List (List Nat)}(hw:iH m w)(b:m<=8)(ok:∀ p∈L,e9 p)(j:L.length<=75)(hst:pY m rs cs)(h:∀ ch∈chs,p9 n ch)(q:n<=8)(a:chs.length<=100):
  ∃t,∀(S:c6) (n k:Nat),S[k]?=Z (.lst (chs.map fv))->S[n]?=Z (.lst [dA w,mcD e L,dU rs cs,.ref k])->hH (.ref n) S=Z (.str t,S):=by
 obtain⟨a1,a2,a3⟩:=Ct hw b;obtain⟨b1,b2,b3⟩:=F2 (e:=e) ok j;obtain⟨i,v,u⟩:=xy hst b;obtain⟨g,r,s⟩:=Ei h q a;obtain⟨t,o⟩:=Fj (ds:=[dA w,mcD e L,dU rs cs]) (xs:=chs.map fv) (by simp only[hW,a1,b1,i,cp]) g (by simp only[fF];lia) ⟨by simp only[ii];lia,by lia⟩;refine⟨t,λS n k l f=>o S n k l f λd c=>?_⟩;simp only[aE,bI,or_false]at c;rcases c with rfl|rfl|rfl
 ·exact⟨_,O⟩
 ·exact⟨_,O⟩
 ·exact⟨_,O⟩
structure Sc (c:Nat)(B V:c6)(e:E4)(L:List Rw):Prop where
 b1:B.length=1
 hs:HS c B V
 dt:V[2]?=some (dO (sX e L))
theorem Sc.over{c c':Nat}{B V U:c6}{e:E4}{L:List Rw}(s:Sc c B V e L)(h:HS c' B U)(h2:HS c' V U):Sc c' B U e L:=⟨s.b1,h,h2.at s.dt (by lia)⟩
theorem Sc.app{c:Nat}{B V:c6}{e:E4}{L:List Rw}{o:Ob}(s:Sc c B V e L)(h:o.und (V.length+1)=M):Sc c B (V++[o]) e L:=
 ⟨s.b1,s.hs.app λx a=>by rw[cm.mp a,lA1];exact h,eX s.dt⟩
theorem Sc.set{c i:Nat}{B V:c6}{e:E4}{L:List Rw}{o:Ob}(s:Sc c B V e L)(hi:2<i)(h:o.und V.length=M):Sc c B (V.set i o) e L:=
 ⟨s.b1,s.hs.set (by rw[s.b1];lia) h,by rw[gS1 (by lia)];exact s.dt⟩
theorem Sc.more{c c':Nat}{B V:c6}{e:E4}{L:List Rw}(s:Sc c B V e L)(h:c<=c'):Sc c' B V e L:=⟨s.b1,s.hs.more h,s.dt⟩
theorem Gu{ns:List Int}{r:Ev}{S:c6}(h:r[0]?=Z (Z (.rol (ns.map D.int)))):jK (mV 0) gh (fV (mC (D.int 40))) r S=Z (.ref S.length,S++[.lst ((ns.map D.int).take 40)]):=by
 have a:mV 0 r S=Z (.rol (ns.map D.int),S):=by simp[mV,h]
 have:=Gs (ns.map D.int) 40;unfold jK;rw[a,oS1];dsimp only;rw[show gh r S=Z (Y,S)from rfl,oS1];dsimp only;rw[show fV (mC (D.int 40)) r S=Z (Z ((40:Nat):Int),S)from rfl,oS1];dsimp only;unfold sR;rw[show dn S (.rol (ns.map D.int))=Z (M,ns.map D.int)from rfl,oP1];dsimp only;rw[ak O,this]
inductive Ir (c:Nat)(B:c6)(e:E4)(L:List Rw)(N:D)(n j0:Nat)(ch0:List Nat)(i:Nat)(acc:List D)(r:Ev)(V:c6):Prop where
 |mk (chs:List (List Nat)) (x:Option D) (h1:Sc c B V e L) (h2:V[j0]?=some (.lst [fv ch0])) (h3:acc=chs.map fv) (h4:chs.length=i) (h5:∀ch∈chs,p9 n ch) (h6:r=[x,some N,some (.int (n:Nat))]) (h7:i<=40):Ir c B e L N n j0 ch0 i acc r V
theorem AC{ns:List Int}{c n:Nat}{B V:c6}{e:E4}{L:List Rw}{y2 y3 y4 y5 y7 y8 y9 y10 y11 y12 y13:Option D}(s:Sc c B V e L)(hc:c<=2^40)(h0:0<n)(aq:n<=8){Q:Fl×Ev×c6->Prop}(q:∀(chs:List (List Nat)) kp b,Sc (c+1) B b e L->2<kp->b[kp]?=some (.lst (chs.map fv))->(∀ch∈chs,p9 n ch)->chs.length<=41->Q (.nx,[some (.rol (ns.map D.int)),some (.ref 0),y2,y3,y4,y5,some (.int (n:Nat)),some (.ref kp),y8,y9,y10,y11,y12,y13],b)):
  W (dk (m2 (b2 en) (eW (c4 (mN (c7 2 d0) (c4 (mV 1) (c4 (mV 6) c5))) c5)) (d4 1 [0,6] (qc (c4 (mN (b1 eL) (c4 (jK (mV 0) gh (fV (mC (D.int 40)))) c5)) c5)) (gN 0) eP (dW (mN (c7 2 (apart d0)) (c4 (mN (c7 2 eH) (c4 (mV 1) (c4 (m2 (b2 en) (mC (D.int 1)) (mV 0)) c5))) (c4 (mV 2) c5)))))) (gN 7) [Z (.rol (ns.map D.int)),Z (.ref 0),y2,y3,y4,y5,Z (.int (n:Nat)),y7,y8,y9,y10,y11,y12,y13] V) Q:=by
 have hb1:=s.b1;have p:=λS=>Gu (ns:=ns) (r:=[Z (.rol (ns.map D.int)),Z (.ref 0),y2,y3,y4,y5,Z (.int (n:Nat)),y7,y8,y9,y10,y11,y12,y13]) (S:=S) O;have y:=λk h0 hk=>Cg ns k h0 hk;have hlen:((ns.map D.int).take 40).length<=40:=by rw[aP];lia
 have A:D.unds 0 ((ns.map D.int).take 40)=M:=gC.mpr λx hx=>by
  obtain⟨i,_,rfl⟩:=b6.mp (cj hx);rfl
 generalize (ns.map D.int).take 40=cut at *
 generalize hN:D.rol (ns.map D.int)=N at *
 generalize jK (mV 0) gh (fV (mC (D.int 40)))=ao at *
 walk_at"w";refine se s.hs (by lia) h0 aq λa j v m s1 E l1=>?_;have t:=s.over s1 E;walk_at"w";have u0:(Ob.lst [fv a]).und 0=M:=by
  have h2:=eO a;simp[Ob.und,D.unds,fv,D.und,h2]
 rw[show D.tup (dF a)=fv a from rfl];have I:=t.app (o:=.lst [fv a]) (ff (bm _) u0);have j0:(j++[Ob.lst [fv a]])[j.length]?=Z (.lst [fv a]):=by rw[cC]
 have hj3:2<j.length:=(gE1.mp t.dt).1;generalize K:j++[Ob.lst [fv a]]=V2 at *
 have hl2:V2.length=j.length+1:=by rw[<- K];simp
 ((try walk_at"w");repeat(simp only[p];try walk_at"w"))
 refine dM (xs:=cut) (by rw[cC]) ?_;walk_at"w";rw[lg,Int.toNat_natCast];refine⟨gz (by lia),?_⟩;have uc:(Ob.lst cut).und (V2.length+1)=M:=by rw[Ob.und];exact eA A
 refine iA (Ir (c+1) B e L N n j.length a) _ 0 [] _ _ ⟨[],Y,I.app uc,eX j0,O,O,λch hc=>(by cases hc),O,by lia⟩ (λ_ _ _ _ _=>rfl) ?_ ?_
 ·rintro i d g acc r b ⟨chs,x,h1,h2,rfl,wq,H,rfl,h7⟩;have w:=(gE1.mp g).1;rw [lM1,cJ] at w;have R:d = .int (i:Nat):=by
   rw[gP1,ca w]at g;exact(Option.some.inj g).symm
  subst R;rw[bK]at *
  obtain⟨X,am,l⟩:=y (1+(i:Int)) (by lia) (by lia)
  ((try walk_at"w");repeat(simp only[am];try walk_at"w"))
  have au:X.und 0=M:=l.und;have f:=h1.app (o:=X) (ff (bm _) au);refine wz (h:=b.length) (by rw[cC]) l h0 aq λch o' C P F=>?_;have z:2<b.length:=(gE1.mp h1.dt).1;have T:=(gE1.mp h2).1;refine⟨chs++[ch],_,f.set z (ff (bm _) F),?_,by simp,by simp[wq],λc hc=>?_,O,by lia⟩
  ·rw[gS1 (by lia)];exact eX h2
  ·rcases aF.mp hc with hc|hc
   ·exact H c hc
   ·rw[cm.mp hc];exact⟨C,P⟩
 ·rintro xs r b ⟨chs,x,h1,h2,U,wq,H,rfl,h7⟩;rw[ci]at U;subst U;walk_at"w";refine⟨dj (by rw[lM1];lia),?_⟩;have f:=h1.app (o:=.lst (chs.map fv)) (by rw[Ob.und];exact kw _ _);have g1:=eX (G:=[Ob.lst (chs.map fv)]) h2;have g2:(b++[Ob.lst (chs.map fv)])[b.length]?=Z (.lst (chs.map fv)):=by rw[cC]
  refine(ub g1 g2).mpr ⟨dj (by rw[lM1];simp;lia),?_⟩;have ec:[fv a]++chs.map fv=(a::chs).map fv:=rfl;rw[ec];have z:2<b.length:=(gE1.mp h1.dt).1;have u:=f.app (o:=.lst ((a::chs).map fv)) (by rw[Ob.und];exact kw _ _);refine q (a::chs) _ _ u (by rw[lA1];lia) (by rw[cC]) (λch hc=>?_) (by simp;lia);rcases aE.mp hc with hc|hc
  ·rw[hc];exact⟨v,m⟩
  ·exact H ch hc
structure Sd (c:Nat)(B V:c6)(e:E4)(L:List Rw)(kp kd:Nat)(chs:List (List Nat))(Ws:List Wh):Prop where
 sc:Sc c B V e L
 p2:2<kp
 d2:2<kd
 pd:kp≠kd
 pk:V[kp]?=some (.lst (chs.map fv))
 du:V[kd]?=some (.lst (Ws.map gK))
section
variable{c c' kp kd:Nat}{B V U:c6}{e:E4}{L:List Rw}{chs:List (List Nat)}{Ws:List Wh}
theorem Sd.over(s:Sd c B V e L kp kd chs Ws)(h:HS c' B U)(h2:HS c' V U):Sd c' B U e L kp kd chs Ws:=
 ⟨s.sc.over h h2,s.p2,s.d2,s.pd,h2.at s.pk (by have:=s.p2;lia),h2.at s.du (by have:=s.d2;lia)⟩
theorem Sd.app{o:Ob}(s:Sd c B V e L kp kd chs Ws)(h:o.und (V.length+1)=M):Sd c B (V++[o]) e L kp kd chs Ws:=
 ⟨s.sc.app h,s.p2,s.d2,s.pd,eX s.pk,eX s.du⟩
theorem Sd.due{Ws':List Wh}(s:Sd c B V e L kp kd chs Ws):Sd c B (V.set kd (.lst (Ws'.map gK))) e L kp kd chs Ws':=
 ⟨s.sc.set s.d2 (by rw[Ob.und];exact jd _ _),s.p2,s.d2,s.pd,by rw[gS1 (λz=>s.pd z.symm)];exact s.pk,by rw[aH (gE1.mp s.du).1]⟩
end
noncomputable def rL(N:D)(w:c9)(e:E4)(L:List Rw)(rs cs:List Nat)(kp kd:Nat)(y9 y10 y11 y12 y13:Option D):Ev:=[Z N,Z (.ref 0),Z (dA w),Z (mcD e L),Z (owD e 2),Z (dU rs cs),Z (.int (rs.length:Nat)),Z (.ref kp),Z (.ref kd),y9,y10,y11,y12,y13]
theorem wt{N:D}{c m kp kd n:Nat}{w:c9}{e:E4}{L:List Rw}{rs cs ch:List Nat}{chs d:List (List Nat)}{a:Wh}{B V:c6}{y10 y11 y12 y13:Option D}{Q:Fl×Ev×c6->Prop}(h:fP m w a.1 a.2)(hn:a.1.length=n)(x:n<=8)(j:Inc e L)(ok:∀ p∈L,e9 p)(v:L.length<=75)(i:p9 n ch)(hcd:d.length<=100)(s:Sd c B V e L kp kd chs (WsC m w e L d a))(q:∀r,Sd c B r e L kp kd chs (WsC m w e L (d++[ch]) a)->Q (.nx,rL N w e L rs cs kp kd (some (fv ch)) y10 y11 y12 y13,r)):
  W (lR (rL N w e L rs cs kp kd (Z (fv ch)) y10 y11 y12 y13) V) Q:=by
 have f:=i0 (e:=e) (m:=m) (w:=w) ok (chs:=d) h;have g:((WsC m w e L d a).map gK).length=d.length+1:=by rw[lM1,jQ]
 have l:((WsC m w e L d a).map gK)[d.length]?=Z (gK (ig m w e L d a)):=by
  rw[gP1,vz (nR1 _),bT];rfl
 have o:=pU (m:=m) (w:=w) (e:=e) (L:=L) (chs:=d) (a:=a) (ch:=ch);rw[hn]at f;generalize ig m w e L d a=b at *
 unfold lR rL eE;rw[db];refine jE ?_;walk_at"w";refine⟨kd,_,O,s.du,?_⟩
 ((try walk_at"w");repeat(simp only[tT];try walk_at"w"))
 refine pW s.du g l ?_;walk_at"w";refine Bj (ws:=b.1) (cs:=b.2) (ch:=ch) f.1 (Fk j ok (by lia)) s.sc.dt s.sc.hs.shut (λk u=>by rw[f.2];exact i.1 k u) (by have:=i.2;lia) ?_;refine(jF s.du).mpr ⟨dj (by rw[g];lia),?_⟩;have t:(WsC m w e L d a).map gK++[Bu m w (dX w b.1 b.2 e L ch) b.2]=(WsC m w e L (d++[ch]) a).map gK:=by rw[o,b5];rfl
 rw[t];exact q _ s.due
theorem Gn{N:D}{c m kp kd n:Nat}{w:c9}{e:E4}{L:List Rw}{rs cs:List Nat}{chs:List (List Nat)}{a:Wh}{B V:c6}{y9 y10 y11 y12 y13:Option D}{Q:Fl×Ev×c6->Prop}(h:fP m w a.1 a.2)(hn:a.1.length=n)(A:n<=8)(k:Inc e L)(ok:∀ p∈L,e9 p)(v:L.length<=75)(t:∀ ch∈chs,p9 n ch)(z:chs.length<=100)(s:Sd c B V e L kp kd chs [a])(q:∀b j,Sd c B b e L kp kd chs (WsC m w e L chs a)->Q (.nx,rL N w e L rs cs kp kd j y10 y11 y12 y13,b)):
  W (fO (ge (mV 7)) (gN 9) lR (rL N w e L rs cs kp kd y9 y10 y11 y12 y13) V) Q:=by
 have o:=λch (hc:p9 n ch) f l b Q (s:Sd c B b e L kp kd chs (WsC m w e L f a)) q=>wt (N:=N) (rs:=rs) (cs:=cs) (y10:=y10) (y11:=y11) (y12:=y12) (y13:=y13) (Q:=Q) h hn A k ok v hc l s q;unfold rL at *
 walk_at"w";refine dM s.pk ?_;refine eY (λi r b=>Sd c B b e L kp kd chs (WsC m w e L (chs.take i) a) /\ ∃j,r=[Z N,Z (.ref 0),Z (dA w),Z (mcD e L),Z (owD e 2),Z (dU rs cs),Z (.int (rs.length:Nat)),Z (.ref kp),Z (.ref kd),j,y10,y11,y12,y13]) _ 0 _ _ ⟨s,_,O⟩ (λi r b h=>fi h.1.pk) ?_ ?_
 ·rintro i d g r b ⟨s',j,rfl⟩;rw[gP1]at g;obtain⟨ch,hc,rfl⟩:=oM1.mp g;have x:=(gE1.mp hc).1;have y:chs.take (i+1)=chs.take i++[ch]:=by rw[b7,hc];rfl
  rw[bK]at *
  walk_at"w";refine o ch (t ch (gM1 hc)) (chs.take i) (by rw[aP];lia) _ _ s' λC u=>?_;rw[y];exact⟨O,u,_,O⟩
 ·rintro r b ⟨s',j,rfl⟩;rw[lM1,bK,bT]at s';exact q _ _ s'
theorem vh{A b:FE}{r:Ev}{V:c6}{d:D}{t:Str}{Q:Fl×Ev×c6->Prop}(ht:∀ S,gj d S=some (.str t,S))(h:W (A r V) fun p=>p.1=d/\W (b r p.2) fun p2=>p2.1=d/\Q (.nx,r,p2.2)):
  W (gg (mB (m2 (b2 u8) (mN (b1 gj) (c4 A c5)) (mN (b1 gj) (c4 b c5)))) (d7 (mC (D.bl J))) nz r V) Q:=by
 obtain⟨⟨f,i⟩,c,h1,⟨e,g⟩,a,h2,q⟩:=h;dsimp only at h1 a h2 q;subst h1;subst h2;simp only[gg,mB,m2,mN,c4,c5,b1,b2,c,a,ht,oS1,db,dJ,u6,qr,bV,bF1,if_false,nz];exact q
theorem lO{m:Nat}{w:c9}{e:E4}{L:List Rw}{rs cs:List Nat}{chs:List (List Nat)}{V:c6}{Q:D×c6->Prop}(hw:iH m w)(b:m<=8)(hst:pY m rs cs)(a:Inc e L)(ok:∀ p∈L,e9 p)(c:L.length<=75)(hc:chs.length<=100)(q:Q (.tup ((WsC m w e L chs (ed rs cs)).map gK),V)):W (c7 4 dZ [dA w,mcD e L,dU rs cs,.tup (chs.map fv)] V) Q:=pc hw b hst a ok (by lia) (by lia) q
theorem uR{m n:Nat}{w:c9}{e:E4}{L:List Rw}{rs cs:List Nat}{kp kd c:Nat}{N:D}{chs:List (List Nat)}{Ws:List Wh}{B V:c6}{t:Str}{y9 y10 y11 y12 y13:Option D}{Q:D×c6->Prop}(ok:∀ p∈L,e9 p)(ht:∀(S:c6) (n k:Nat),S[k]?=some (.lst (chs.map fv))->S[n]?=some (.lst [dA w,mcD e L,dU rs cs,.ref k])->hH (.ref n) S=some (.str t,S))(s:Sd c B V e L kp kd chs Ws)(q:∀b,Sd c B b e L kp kd chs Ws->Q (.str t,b)):
  W (mN (b1 hH) (c4 (eW (c4 (mV 2) (c4 (mV 3) (c4 (mV 5) (c4 (mV 7) c5))))) c5) (rL N w e L rs cs kp kd y9 y10 y11 y12 y13) V) Q:=by
 refine zJ ?_;unfold rL;walk_at"w";have g:=(gE1.mp s.pk).1;have f:(Ob.lst [dA w,mcD e L,dU rs cs,.ref kp]).und (V.length+1)=M:=by
  have h1:=d6 (n:=V.length+1) (eR w);have h2:=d6 (n:=V.length+1) (gu (e:=e) ok);have d:=fJ rs cs (V.length+1);simp[Ob.und,D.unds,h1,h2,d,D.und];lia
 have a:=s.app f;refine W.of (ht _ V.length kp a.pk (by rw[cC])) ?_;exact q _ a
theorem xg{n:Nat}{xs:List D}{r:Ev}{S:c6}{i:Nat}{Q:D×c6->Prop}(hi:r[i]?=Z (Z (.ref n)))(h:S[n]?=Z (.lst xs))(q:Q (.tup xs,S)):W (mN (b1 gTup) (c4 (mV i) c5) r S) Q:=by
 have a:mV i r S=Z (.ref n,S):=by simp[mV,hi]
 refine zJ ?_;refine⟨_,a,?_⟩;walk_at"w";exact dM h q
theorem xf{n k i:Nat}{hm:FE}{xs:List D}{r:Ev}{S:c6}{Q:D×c6->Prop}(hi:r[i]?=Z (Z (.ref n)))(h:S[n]?=Z (.lst xs))(hk:hm r S=Z (.int (k:Nat),S))(q:Q (.tup (xs.take k),S++[.lst (xs.take k)])):W (mN (b1 gTup) (c4 (jK (mV i) gh (fV hm)) c5) r S) Q:=by
 have a:mV i r S=Z (.ref n,S):=by simp[mV,hi]
 refine zJ ?_;refine zI ?_;refine⟨_,a,n,O,_,hk,k,xs,O,h,?_⟩;walk_at"w";exact dM (by rw[cC]) q
theorem CN{N:D}{c m kp kd:Nat}{w:c9}{e:E4}{L:List Rw}{rs cs:List Nat}{chs:List (List Nat)}{B V:c6}{y9 y10 y11 y12 y13:Option D}{Q:Fl×Ev×c6->Prop}(hw:iH m w)(n:m<=8)(hst:pY m rs cs)(l:Inc e L)(ok:∀ p∈L,e9 p)(v:L.length<=75)(x:∀ ch∈chs,p9 rs.length ch)(F:chs.length<=41)(hc:c<=2^40)(I:B.length=1)(s:Sd c B V e L kp kd chs (WsC m w e L chs (ed rs cs)))(k:FS)(q:∀f (b:Nat) z9 a z13,b<=chs.length->Sd (c+1) B f e L kp kd chs (WsC m w e L chs (ed rs cs))->W (k (rL N w e L rs cs kp kd z9 y10 a (some (.int (b:Nat))) z13) f) Q):
  W (di (fO (qc (c4 (mC (D.int 2)) c5)) (gN 11) lQ)
   (di (dk (mN (c7 2 c8) (c4 (mV 1) (c4 (m2 (b2 en) (mN (b1 eL) (c4 (mV 7) c5)) (mC (D.int 1))) c5))) (gN 12)) k) (rL N w e L rs cs kp kd y9 y10 y11 y12 y13) V) Q:=by
 have z:=lZ hw n hst;obtain⟨t,o⟩:=jW (Ws:=WsC m w e L chs (ed rs cs)) (vy ok z) (by rw[jQ];lia);refine dL (λr f=>f=V /\ ∃a,r=rL N w e L rs cs kp kd y9 y10 a y12 y13) ?_ ?_
 ·have step:∀ a Q',Q' (.nx,rL N w e L rs cs kp kd y9 y10 a y12 y13,V)->W (lQ (rL N w e L rs cs kp kd y9 y10 a y12 y13) V) Q':=fun a Q' q=>by
   unfold lQ;refine vh o ?_;have tl:=λQ q=>xg (i:=7) (r:=rL N w e L rs cs kp kd y9 y10 a y12 y13) (S:=V) (Q:=Q) O s.pk q;have h:=λQ q=>xg (i:=8) (r:=rL N w e L rs cs kp kd y9 y10 a y12 y13) (S:=V) (Q:=Q) O s.du q;obtain⟨K,y,rfl⟩:=tl (λp=>p=(.tup (chs.map fv),V)) O;obtain⟨H,G,rfl⟩:=h (λp=>p=(.tup ((WsC m w e L chs (ed rs cs)).map gK),V)) O;generalize mN (b1 gTup) (c4 (mV 7) c5)=A at *
   generalize mN (b1 gTup) (c4 (mV 8) c5)=A2 at *
   refine W.mono (Q:=λp=>p=(D.tup ((WsC m w e L chs (ed rs cs)).map gK),V)) ?_ ?_
   ·unfold rL at *
    ((try walk_at"w");repeat(simp only[y];try walk_at"w"))
    exact lO hw n hst l ok v (by lia) O
   ·rintro p rfl;exact⟨O,_,G,O,q⟩
  unfold rL at step ⊢;walk_at"w";refine⟨zy (by decide) (by decide),?_⟩;refine eY (λi r f=>f=V /\ ∃a,r=[Z N,Z (.ref 0),Z (dA w),Z (mcD e L),Z (owD e 2),Z (dU rs cs),Z (.int (rs.length:Nat)),Z (.ref kp),Z (.ref kd),y9,y10,a,y12,y13]) _ 0 _ _ ⟨O,_,O⟩ (λ_ _ _ _=>rfl) ?_ ?_
  ·rintro i d E r f ⟨rfl,a,rfl⟩;walk_at"w";refine step _ _ ?_;exact⟨O,O,_,O⟩
  ·rintro r f ⟨rfl,a,rfl⟩;exact⟨O,O,_,O⟩
 rintro r f ⟨rfl,a,rfl⟩;refine dL (λr f=>∃b:Nat,b<=chs.length/\Sd (c+1) B f e L kp kd chs (WsC m w e L chs (ed rs cs))/\r=rL N w e L rs cs kp kd y9 y10 a (Z (.int (b:Nat))) y13) ?_ ?_
 ·unfold rL;walk_at"w";refine dM s.pk ?_;walk_at"w";rw[lM1];refine draw_W s.sc.hs (by lia) (by lia) (by lia) λd C g j am ao=>?_;exact⟨d,by lia,s.over g j,O⟩
 rintro r C ⟨b,u,g,rfl⟩;exact q _ b _ _ _ u g
theorem qv{x:List Nat}:∀b:Nat,(aN b [fv x]).flatten=(aN b x).map fv
 |0=>rfl
 |b+1=>by rw[aV,aW,qv b,aV];rfl
theorem truth(ns:List Int)(G:ns.length<=63):∃S,m_law [.rol (ns.map D.int)] []=Z (.bl M,S):=by
 have key:W (m_law [.rol (ns.map D.int)] []) λp=>p.1 = .bl M:=by
  unfold m_law;refine kn ?_;unfold zz;obtain⟨o,eo,ho⟩:=Cg ns 0 (by decide) (by decide);have pk:=λc n B V e L y2 y3 y4 y5 y7 y8 y9 R y11 y12 P (s:Sc c B V e L) hc I h8 Q q=>AC (ns:=ns) (c:=c) (n:=n) (B:=B) (V:=V) (e:=e) (L:=L) (y2:=y2) (y3:=y3) (y4:=y4) (y5:=y5) (y7:=y7) (y8:=y8) (y9:=y9) (y10:=R) (y11:=y11) (y12:=y12) (y13:=P) s hc I h8 (Q:=Q) q;generalize hN:D.rol (ns.map D.int)=N at *
  refine dL (λr S=>S=[o]/\r=[Z N,Z (.ref 0),Y,Y,Y,Y,Y,Y,Y,Y,Y,Y,Y,Y]) ?_ ?_
  ·((try walk_at"w");repeat(simp only[eo];try walk_at"w"))
  rintro r S ⟨rfl,rfl⟩;have s0:HS 0 [o] [o]:=.self O ho (by unfold jS;rw[bM,ho.und];rfl);refine dL (λr S=>∃(m:Nat) (w:c9) (e:E4) (L:List Rw),0<m/\m<=8/\iH m w/\Inc e L/\(∀p∈L,e9 p)/\L.length<=75/\HS 600 [o] S/\S.length=1/\r=[Z N,Z (.ref 0),Z (dA w),Z (mcD e L),Y,Y,Y,Y,Y,Y,Y,Y,Y,Y]) ?_ ?_
  ·walk_at"w";refine ES s0 (by lia) (by lia) (by lia) λm w V1 X E F s1 _ l1=>?_;walk_at"w";refine v7 s1 (by lia) λe L ao l ok G v _ l2=>?_;walk_at"w";exact⟨m,w,e,L,X,E,F,l,ok,G,v,by rw[l2,l1];rfl,O⟩
  rintro r S ⟨m,w,e,L,X,E,F,l,ok,G,v,l2,rfl⟩;refine dL (λr V=>Sc 600 [o] V e L/\r=[Z N,Z (.ref 0),Z (dA w),Z (mcD e L),Z (owD e 2),Y,Y,Y,Y,Y,Y,Y,Y,Y]) ?_ ?_
  ·walk_at"w";refine FB l ok (by lia) ?_;rw[l2];walk_at"w";refine⟨⟨O,v.app λx hx=>?_,by rw[show 2=S.length+1 by lia,gv];rfl⟩,trivial⟩;rcases aE.mp hx with z|z
   ·rw[z,Ob.und];exact Mi.dv λp hp=>d6 (mz (ok p hp).2)
   ·rw [cm.mp z];exact BG fun p hp=>by
     obtain⟨x,hx,rfl⟩:=b6.mp hp;exact(ok x hx).2.und
  rintro r V ⟨au,rfl⟩;refine dL (λr V=>∃rs a,pY m rs a/\0<rs.length/\rs.length<=4/\Sc 700 [o] V e L/\r=[Z N,Z (.ref 0),Z (dA w),Z (mcD e L),Z (owD e 2),Z (dU rs a),Y,Y,Y,Y,Y,Y,Y,Y]) ?_ ?_
  ·simp(implicitDefEqProofs:=J) only[dk,mN,c4,mV,gC1,cy,mC,c5,oS1,gN,cB,cA,db,dJ,true_and];refine sQ (most:=4) F X E (by decide) (by decide) au.hs (by lia) λrs a ao g I h4 v s2' _=>?_;exact⟨rs,a,g,I,h4,(au.over v s2').more (by lia),O⟩
  rintro r V ⟨rs,a,g,r0,r4,au,rfl⟩;refine dL (λr H=>H=V/\r=[Z N,Z (.ref 0),Z (dA w),Z (mcD e L),Z (owD e 2),Z (dU rs a),Z (.int (rs.length:Nat)),Y,Y,Y,Y,Y,Y,Y]) ?_ ?_
  ·have st0:∀S,da (dU rs a) (.int 0) S=Z (.tup (dF rs),S):=λS=>rfl
   ((try walk_at"w");repeat(simp only[st0,gU,fA];try walk_at"w"))
  rintro r H ⟨rfl,rfl⟩;refine dL (λr V=>∃(chs:List (List Nat)) (kp:Nat),Sc 701 [o] V e L/\2<kp/\V[kp]?=Z (.lst (chs.map fv))/\(∀ch∈chs,p9 rs.length ch)/\chs.length<=41/\r=[Z N,Z (.ref 0),Z (dA w),Z (mcD e L),Z (owD e 2),Z (dU rs a),Z (.int (rs.length:Nat)),Z (.ref kp),Y,Y,Y,Y,Y,Y]) ?_ ?_
  ·refine pk _ _ _ _ _ _ _ _ _ _ _ _ _ _ _ _ _ au (by lia) r0 (by lia) _ λchs kp ao v aq hV2 C K=>?_;exact⟨O,chs,kp,v,aq,hV2,C,K,O⟩
  rintro r V ⟨chs,kp,au,aq,hV,C,K,rfl⟩;have I:=lZ F E g;have U:(ed rs a).1.length=rs.length:=lM1 ..
  refine dL (λr V=>∃kd,Sd 701 [o] V e L kp kd chs [ed rs a]/\r=rL N w e L rs a kp kd Y Y Y Y Y) ?_ ?_
  ·have hlt:=(gE1.mp hV).1;walk_at"w";refine yN (by lia) ?_;walk_at"w";refine⟨V.length,⟨au.app (by rw[Ob.und];exact jd [ed rs a] _),aq,by lia,by lia,eX hV,by rw[cC];rfl⟩,O⟩
  rintro r V ⟨kd,y,rfl⟩;refine dL (λr V=>∃u,Sd 701 [o] V e L kp kd chs (WsC m w e L chs (ed rs a))/\r=rL N w e L rs a kp kd u Y Y Y Y) ?_ ?_
  ·refine Gn I U (by lia) l ok G C (by lia) y λao u v=>?_;exact⟨O,u,v,O⟩
  rintro r V ⟨u,y,rfl⟩;obtain⟨t,ht⟩:=v8 (n:=rs.length) F E ok G g C (by lia) (by lia);refine dL (λr V=>Sd 701 [o] V e L kp kd chs (WsC m w e L chs (ed rs a))/\r=rL N w e L rs a kp kd u (Z (.str t)) Y Y Y) ?_ ?_
  ·unfold dk;rw[db];refine uR (n:=rs.length) (m:=m) ok ht y λao v=>?_;unfold rL;walk_at"w";exact⟨v,trivial⟩
  rintro r V ⟨y,rfl⟩;refine CN F E g l ok G C K (by lia) O y _ λV b u f j hb y=>?_
  -- Z of them
  have tk:(WsC m w e L chs (ed rs a)).take (b+1)=WsC m w e L (chs.take b) (ed rs a):=BU hb;obtain⟨t2,ht2⟩:=jW (Ws:=WsC m w e L (chs.take b) (ed rs a)) (vy ok I) (by rw[jQ,aP];lia);refine dL (λr V=>Sd 702 [o] V e L kp kd chs (WsC m w e L chs (ed rs a))/\r=rL N w e L rs a kp kd u (Z (.str t)) f (Z (.int (b:Nat))) j) ?_ ?_
  ·refine vh ht2 ?_;have tl:=xf (i:=7) (n:=kp) (k:=b) (hm:=mV 12) (r:=rL N w e L rs a kp kd u (Z (.str t)) f (Z (.int (b:Nat))) j) (S:=V) (Q:=λp=>p=(.tup ((chs.take b).map fv),V++[.lst ((chs.take b).map fv)])) O y.pk O (by rw[cM]);obtain⟨p7,e7,rfl⟩:=tl;have v:=y.app (o:=.lst ((chs.take b).map fv)) (by rw[Ob.und];exact kw _ _);have am:=xf (i:=8) (n:=kd) (k:=b+1) (hm:=m2 (b2 en) (mV 12) (mC (D.int 1))) (r:=rL N w e L rs a kp kd u (Z (.str t)) f (Z (.int (b:Nat))) j) (S:=V++[.lst ((chs.take b).map fv)]) (Q:=λp=>p=(.tup ((WsC m w e L (chs.take b) (ed rs a)).map gK),V++[.lst ((chs.take b).map fv)]++[.lst ((WsC m w e L (chs.take b) (ed rs a)).map gK)])) O v.du (by rfl) (by rw[<- cM,tk]);obtain⟨p8,e8,rfl⟩:=am;have s3:=v.app (o:=.lst ((WsC m w e L (chs.take b) (ed rs a)).map gK)) (by rw[Ob.und];exact jd _ _);generalize mN (b1 gTup) (c4 (jK (mV 7) gh (fV (mV 12))) c5)=A at *
   generalize mN (b1 gTup) (c4 (jK (mV 8) gh (fV (m2 (b2 en) (mV 12) (mC (D.int 1))))) c5)=A2 at *
   refine W.mono (Q:=λp=>p=(D.tup ((WsC m w e L (chs.take b) (ed rs a)).map gK),V++[.lst ((chs.take b).map fv)])) ?_ ?_
   ·unfold rL at *
    ((try walk_at"w");repeat(simp only[e7];try walk_at"w"))
    exact lO F E g l ok G (by rw[aP];lia) O
   ·rintro p rfl;exact⟨O,_,e8,O,O,s3,O⟩
  rintro r V ⟨y,rfl⟩
  -- Y
  obtain⟨t3,wq⟩:=jW (Ws:=WsC m w e L [] (ed rs a)) (vy ok I) (by rw[jQ];decide);refine dL (λr V=>Sd 702 [o] V e L kp kd chs (WsC m w e L chs (ed rs a))/\r=rL N w e L rs a kp kd u (Z (.str t)) f (Z (.int (b:Nat))) j) ?_ ?_
  ·refine vh wq ?_;have am:W (dS (c4 (m2 (b2 da) (mV 8) (mC (D.int 0))) c5) (rL N w e L rs a kp kd u (some (.str t)) f (some (.int (b:Nat))) j) V) fun p=>p=(.tup ((WsC m w e L [] (ed rs a)).map gK),V):=by
    unfold rL;walk_at"w";refine oT (i:=0) (x:=gK (ed rs a)) y.du (by rw[gP1,vz (bm _)];rfl) ?_;walk_at"w";rfl
   obtain⟨p8,e8,rfl⟩:=am;generalize dS (c4 (m2 (b2 da) (mV 8) (mC (D.int 0))) c5)=A2 at *
   refine W.mono (Q:=λp=>p=(D.tup ((WsC m w e L [] (ed rs a)).map gK),V)) ?_ ?_
   ·unfold rL at *
    walk_at"w";exact lO (chs:=[]) F E g l ok G (by decide) O
   ·rintro p rfl;exact⟨O,_,e8,O,O,y,O⟩
  rintro r V ⟨y,rfl⟩
  -- all
  refine dL (λr H=>H=V/\r=rL N w e L rs a kp kd u (Z (.str t)) f (Z (.int (b:Nat))) (Z (.tup ((aN b (af rs.length)).map fv)))) ?_ ?_
  ·have e1:dS (c4 (tK (c4 (mV 6) c5)) c5) (rL N w e L rs a kp kd u (some (.str t)) f (some (.int (b:Nat))) j) V=some (.tup [fv (List.range rs.length)],V):=by
    have e0:tK (c4 (mV 6) c5) (rL N w e L rs a kp kd u (Z (.str t)) f (Z (.int (b:Nat))) j) V=Z (fv (af rs.length),V):=by
     unfold tK;rw[show c4 (mV 6) c5 (rL N w e L rs a kp kd u (Z (.str t)) f (Z (.int (b:Nat))) j) V=Z ([.int (rs.length:Nat)],V)from rfl,oS1];dsimp only;rw[ak (by
      unfold nZ;simp only[bA1,al];lia),Int.toNat_natCast,lg]
     rfl
    obtain⟨p,e,rfl⟩:W (dS (c4 (tK (c4 (mV 6) c5)) c5) (rL N w e L rs a kp kd u (some (.str t)) f (some (.int (b:Nat))) j) V) λp=>p=(.tup [fv (af rs.length)],V):=by
     rw[pV];refine⟨([fv (af rs.length)],V),?_,Il,O⟩;simp only[c4,c5,e0,oS1]
    exact e
   have e2:rG (.tup [fv (af rs.length)]) (.int (b:Nat)) V=Z (.tup ((aN b (af rs.length)).map fv),V):=by
    simp only[rG];rw[ak ⟨by lia,by lia,O,by
     rw[Int.toNat_natCast,a0,Nat.one_mul];exact aC (by lia:b<=100) (by decide)⟩,Int.toNat_natCast]
    rw[qv]
   generalize dS (c4 (tK (c4 (mV 6) c5)) c5)=A at *
   unfold rL at *
   simp(implicitDefEqProofs:=J) only[dk,m2,e1,mV,gC1,cy,b2,oS1,e2,gN,cB,cA,dJ,true_and]
  rintro r H ⟨rfl,rfl⟩;obtain⟨t4,T⟩:=jW (Ws:=WsC m w e L (aN b (af rs.length)) (ed rs a)) (vy ok I) (by rw[jQ,lR1];lia);refine dL (λr ao=>ao=H /\ ∃z,r=rL N w e L rs a kp kd u (Z (.str t)) f (Z (.int (b:Nat))) z) ?_ ?_
  ·refine vh T ?_;refine W.mono (Q:=λp=>p=(D.tup ((WsC m w e L (aN b (af rs.length)) (ed rs a)).map gK),H)) ?_ ?_
   ·unfold rL;walk_at"w";exact lO F E g l ok G (by rw[lR1];lia) O
   ·rintro p rfl;refine⟨O,?_⟩;unfold rL;walk_at"w";refine w9 F E g l ok (by lia) (by lia) ?_;exact⟨O,O,_,O⟩
  rintro r H ⟨rfl,z,rfl⟩;have lr:=uR (n:=rs.length) (m:=m) (N:=N) (y9:=u) (y10:=Z (.str t)) (y11:=f) (y12:=Z (.int (b:Nat))) (y13:=z) (Q:=λp=>p.1 = .str t) ok ht y λ_ _=>rfl;obtain⟨⟨d1,V3⟩,e3,h3⟩:=lr;dsimp only at h3;subst h3;generalize mN (b1 hH) (c4 (eW (c4 (mV 2) (c4 (mV 3) (c4 (mV 5) (c4 (mV 7) c5))))) c5)=A at *
  unfold rL at *
  ((try walk_at"w");repeat(simp only[e3,qr];try walk_at"w"))
 obtain⟨⟨d,S⟩,e,h⟩:=key;dsimp only at h;exact⟨S,by rw[e,h]⟩
end Law
end
open PySem PySem.W PyProof.Rows
def PySem.W.Fast.tw4126223107482961180 := ()
def PySem.W.Fast.tw2296659112803596925 := ()
def PySem.W.Fast.tw16471511980661128918 := ()
def PySem.W.Fast.tw805699943181749671 := ()
def PySem.W.Fast.tw8543937817603743780 := ()
def PySem.W.Fast.tw1016957465793827595 := ()
def PySem.W.Fast.tw6423217827932625596 := ()
def PySem.W.Fast.tw3603728287936913347 := ()
def PySem.W.Fast.tw14760904937172178459 := ()
def PySem.W.Fast.tw10509024333215971916 := ()
def PySem.W.Fast.tw14647709312353047348 := ()
def PySem.W.Fast.tw15155026174623060976 := ()
def PySem.W.Fast.tw7069729778118742107 := ()
def PySem.W.Fast.tw1087184432761368398 := ()
def PySem.W.Fast.tw2019296038639614032 := ()
def PySem.W.Fast.tw11304447183145651745 := ()
def PySem.W.Fast.tw7398808441076956096 := ()
def PySem.W.Fast.tw17126361019188021915 := ()
def PySem.W.Fast.tw11944210120049951627 := ()
def PySem.W.Fast.tw1784540062772033519 := ()
def PySem.W.Fast.tw690349807681254773 := ()
def PySem.W.Fast.tw13612342741765230498 := ()
def PySem.W.Fast.tw3557893541261848195 := ()
def PySem.W.Fast.tw4388489612237799509 := ()
def PySem.W.Fast.tw11960110888811345594 := ()
def PySem.W.Fast.tw1309298166053828022 := ()
def PySem.W.Fast.tw3452407289803544966 := ()
def PySem.W.Fast.tw11480578482527003029 := ()
def PySem.W.Fast.tw895390355904969621 := ()
def PySem.W.Fast.tw7959282765079819653 := ()
def PySem.W.Fast.tw3660908033814557268 := ()
def PySem.W.Fast.tw2158342326669263472 := ()
def PySem.W.Fast.tw4658252967512348239 := ()
def PySem.W.Fast.tw8098350307342517948 := ()
def PySem.W.Fast.tw10978548883281470539 := ()
def PySem.W.Fast.tw14486858871866127051 := ()
def PySem.W.Fast.tw1019576173026431883 := ()
def PySem.W.Fast.tw8884183062519869980 := ()
def PySem.W.Fast.tw9183497003001929122 := ()
def PySem.W.Fast.tw5567133770114639103 := ()
def PySem.W.Fast.tw4226655827415764933 := ()
def PySem.W.Fast.tw13209893328095436073 := ()
def PySem.W.Fast.tw6231155907875941427 := ()
def PySem.W.Fast.tw1307801775818734309 := ()
def PySem.W.Fast.tw10288923739142032833 := ()
def PySem.W.Fast.tw12734216893576187913 := ()
def PySem.W.Fast.tw15543887795367899416 := ()
def PySem.W.Fast.tw12625235605643065051 := ()
def PySem.W.Fast.tw10830882638924540734 := ()
def PySem.W.Fast.tw8778806328096836982 := ()
def PySem.W.Fast.tw10286609344098304771 := ()
def PySem.W.Fast.tw8611387637220430734 := ()
def PySem.W.Fast.tw9770501031755650299 := ()
def PySem.W.Fast.tw11171670948815292764 := ()
def PySem.W.Fast.tw14125468384517872158 := ()
def PySem.W.Fast.tw8500173548227427598 := ()
def PySem.W.Fast.tw839003976401252250 := ()
def PySem.W.Fast.tw7127900688344758008 := ()
def PySem.W.Fast.tw5623586121883994545 := ()
def PySem.W.Fast.tw1669255028271901355 := ()
def PySem.W.Fast.tw18130088001898440322 := ()
def PySem.W.Fast.tw8962875975474522066 := ()
def PySem.W.Fast.tw14733715257021022583 := ()
def PySem.W.Fast.tw9692858671254343522 := ()
def PySem.W.Fast.tw11203088632851526366 := ()
def PySem.W.Fast.tw17928978110491083286 := ()
def PySem.W.Fast.tw16738679454320467436 := ()
def PySem.W.Fast.tw8394574193657948651 := ()
def PySem.W.Fast.tw16332527891095891663 := ()
def PySem.W.Fast.tw2859292616244724563 := ()
def PySem.W.Fast.tw1056639178437453955 := ()
def PySem.W.Fast.tw10303237913220371900 := ()
def PySem.W.Fast.tw18115694205289707227 := ()
def PySem.W.Fast.tw17023765914853694875 := ()
def PySem.W.Fast.tw4202876613408733283 := ()
def PySem.W.Fast.tw16419736613346499234 := ()
def PySem.W.Fast.tw4811451104720130230 := ()
def PySem.W.Fast.tw5985940615074332863 := ()
def PySem.W.Fast.tw1423824970453633493 := ()
def PySem.W.Fast.tw15954177610026436774 := ()
def PySem.W.Fast.tw4582402792494781624 := ()
def PySem.W.Fast.tw18011280574361249080 := ()
def PySem.W.Fast.tw557981975598957654 := ()
def PySem.W.Fast.tw8813154691212481770 := ()
def PySem.W.Fast.tw11292746806952749905 := ()
def PySem.W.Fast.tw14034684726047906945 := ()
def PySem.W.Fast.tw12056091270210504210 := ()
def PySem.W.Fast.tw6628837678009022801 := ()
def PySem.W.Fast.tw7472865451031079957 := ()
def PySem.W.Fast.tw6653314490703928205 := ()
def PySem.W.Fast.tw1586958673513592528 := ()
def PySem.W.Fast.tw5611047141175371350 := ()
def PySem.W.Fast.tw4995482799336150121 := ()
def PySem.W.Fast.tw12671719114211795649 := ()
def PySem.W.Fast.tw5952663431535125496 := ()
def PySem.W.Fast.tw17617301986629476043 := ()
def PySem.W.Fast.tw6179695958928355973 := ()
def PySem.W.Fast.tw15375390117437117799 := ()
def PySem.W.Fast.tw1127235021186720405 := ()
def PySem.W.Fast.tw1581810079875121302 := ()
def PySem.W.Fast.tw4760890167195376081 := ()
def PySem.W.Fast.tw2524918985826771792 := ()
def PySem.W.Fast.tw17995438674172537607 := ()
def PySem.W.Fast.tw16047105749813364479 := ()
def PySem.W.Fast.tw1071971382140570097 := ()
def PySem.W.Fast.tw16958308162730727155 := ()
def PySem.W.Fast.tw7890431312681654445 := ()
def PySem.W.Fast.tw1571704093910491904 := ()
def PySem.W.Fast.tw4212244873820806812 := ()
def PySem.W.Fast.tw3423253310687243389 := ()
def PySem.W.Fast.tw12736097939100887147 := ()
def PySem.W.Fast.tw16927222898962098869 := ()
def PySem.W.Fast.tw12258318336892834794 := ()
def PySem.W.Fast.tw11351531367967020698 := ()
def PySem.W.Fast.tw8496360186856427698 := ()
def PySem.W.Fast.tw12043392339566951565 := ()
def PySem.W.Fast.tw3830054995513380337 := ()
def PySem.W.Fast.tw11276787051793624999 := ()
def PySem.W.Fast.tw9433648735882780136 := ()
def PySem.W.Fast.tw8943306846497436181 := ()
def PySem.W.Fast.tw15582153971150391382 := ()
def PySem.W.Fast.tw9697684601530646400 := ()
def PySem.W.Fast.tw2550014310655441104 := ()
def PySem.W.Fast.tw6959919450147963811 := ()
def PySem.W.Fast.tw6936269023938758105 := ()
def PySem.W.Fast.tw8223279728119803103 := ()
def PySem.W.Fast.tw1390869434022064431 := ()
set_option maxRecDepth 100000 in
set_option maxHeartbeats 0 in
theorem PySem.Challenge.cw_ringmeet_k67_slow_walks_holds : PySem.Challenge.rw_ringmeet_k67_slow_walks.Holds := by
 w_on;refine PySem.W.holds_law (by decide+kernel) fun d=>?_;k_head;(case hw=>w_witness2)
 k_fill
 refine Mi.walk_m (l:=PySem.Challenge.rw_ringmeet_k67_slow_walks) (m:=Law.m_law) (k:=7) (x:="_law_script") rfl rfl ⟨rfl,by decide,by decide,rfl⟩ (fun w h Y=>PySem.W.kIn_of Y) Law.truth ?F
 case F=>
  intro w mg f h e G b;refine' Law.all_mk e G b ?a1 ?a2 ?a3 ?a4 ?a5 ?a6 ?a7 ?a8 ?a9 ?a10 ?a11 ?a12 ?a13 ?a14 ?a15 ?a16 ?a17 ?a18 ?a19 ?a20 ?a21 ?a22 ?a23 ?a24 ?a25 ?a26 ?a27 ?a28 ?a29 ?a30 ?a31 ?a32 ?e_PARTS ?h1 ?h2 ?h5 ?h8 ?h11 ?z
  all_goals try (refine' Mi.Gi ?a ?l ?c ?k;(case a=>k_is);(case l=>k_is);(case c=>k_is);(case k=>k_is))
  (case e_PARTS=>k_is)
  (case h1=>k_is)
  (case h2=>k_is)
  (case h5=>k_is)
  (case h8=>k_is)
  (case h11=>k_is)
  (case z=>exact ⟨by k_is,by k_is,by k_is,by k_is,by k_is,by k_is,by k_is,by k_is,by k_is,by k_is,by k_is,by k_is,trivial⟩)

